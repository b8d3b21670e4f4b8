import Derived.Test.YtkafkipjedpohaaDoorE1

/-
  upshiftlaw.small and upshiftlaw.Loads: the walks.
-/
namespace Go.Proofs.YtkafkipjedpohaaDoor
open Go.RowKit

/-- The document's first example. -/
def smallF : PF := { args := 0, locals := 0, cn := 6, op := fun i => if i = 0 then 0 else if i = 1 then 0 else if i = 2 then 5 else if i = 3 then 19 else if i = 4 then 1 else 14, ar := fun i => if i = 0 then 2 else if i = 1 then 3 else 0 }

theorem small_fine : (progP 1 (fun _ => smallF)).1 = 0 := by decide +kernel

def smallI : Array Value := #[.int .i64 0, .int .i64 2, .int .i64 0, .int .i64 3, .int .i64 5, .int .i64 0, .int .i64 19, .int .i64 0, .int .i64 1, .int .i64 0, .int .i64 14, .int .i64 0]

theorem small_given (w : World) : Given ((w.alloc (.cells smallI 38)).alloc (.cells #[.int .i64 0, .int .i64 0, .slice (some ⟨w.heap.size, 0, none⟩) 6 6] 41)) (some ⟨w.heap.size + 1, 0, none⟩) 1 (fun _ => smallF) (fun _ => some ⟨w.heap.size, 0, none⟩) (fun _ => 6) := by
  intro _
  refine ⟨w.heap.size + 1, 0, rfl, by simp, fun k hk => ?_⟩
  obtain rfl : k = 0 := by omega
  have hB : Below (w.heap.size + 1) (w.alloc (.cells smallI 38)) ((w.alloc (.cells smallI 38)).alloc (.cells #[.int .i64 0, .int .i64 0, .slice (some ⟨w.heap.size, 0, none⟩) 6 6] 41)) := (Below.refl _ _).alloc (by simp) _
  refine ⟨cell_new _ _ _ _ _ (by simp), cell_new _ _ _ _ _ (by simp), cell_new _ _ _ _ _ (by simp), fun _ => ⟨w.heap.size, 0, rfl, by simp; omega, fun i hi => ?_⟩⟩
  rw [hB.cell (p := ⟨w.heap.size, _, none⟩) (by simp), hB.cell (p := ⟨w.heap.size, _, none⟩) (by simp), cell_new _ _ _ _ _ rfl, cell_new _ _ _ _ _ rfl]
  have : i = 0 ∨ i = 1 ∨ i = 2 ∨ i = 3 ∨ i = 4 ∨ i = 5 := by have : i < 6 := hi; omega
  rcases this with rfl | rfl | rfl | rfl | rfl | rfl <;> exact ⟨rfl, rfl⟩

set_option maxHeartbeats 400000 in
theorem small_any (w : World) : Calls Tryd.prog 5 #[] w fun e w' => ∃ p, e = .returned (.slice p 1 1) ∧ Below w.heap.size w w' ∧ Given w' p 1 (fun _ => smallF) (fun _ => some ⟨w.heap.size, 0, none⟩) (fun _ => 6) := by
  go_enter Tryd.func5, Tryd.ntmps5
  go_wp2
  go_ret
  exact ⟨_, rfl, ((Below.refl _ _).alloc (Nat.le_refl _) _).alloc (by simp) _, small_given w⟩

set_option maxHeartbeats 1000000 in
theorem loads_any (p : Option Addr) (pc m : Nat) (F : Nat → PF) (CA : Nat → Option Addr) (CC : Nat → Nat) (w : World) (hG : Given w p m F CA CC) (hm : 40 * m ≤ 140737488355328) (hcn : ∀ k, k < m → 16 * (F k).cn ≤ 140737488355328) (ht : TabAt w) (hw : 0 < w.heap.size) :
    Calls Tryd.prog 3 #[.slice p m pc] w fun e w' => e = .returned (.bool true) ∧ Below w.heap.size w w' := by
  have HG := hid (And.intro hG (And.intro hcn ht))
  clear hG hcn ht
  go_enter Tryd.func3, Tryd.ntmps3
  go_wp2_with fail
  refine (small_any w).mono ?_
  rintro e w1 ⟨p1, rfl, hB1, hG1⟩
  have hcon := loaded_any p1 1 1 (fun _ => smallF) _ _ w1 hG1 (by omega) (fun k hk => by show 16 * 6 ≤ _; omega) (HG.out.2.2.below hB1 hw) (by have := hB1.size; omega)
  have HC := hid hcon
  have H1 := hid hB1
  clear hcon hB1 hG1
  go_wp2_with fail
  refine HC.out.mono ?_
  rintro e w2 ⟨v, rfl, hB2, hv⟩
  obtain ⟨bv, rfl⟩ : ∃ b, v = .pointer (some ⟨b, 0, none⟩) := by
    rcases hv with ⟨_, b, _, _, h, _⟩ | ⟨h, _⟩
    · exact ⟨b, h⟩
    · exact absurd small_fine h
  have hBw : Below w.heap.size w w2 := H1.out.trans (hB2.mono H1.out.size)
  have hcon2 := loaded_any p pc m F CA CC w2 (HG.out.1.below hBw (Nat.le_refl _)) hm HG.out.2.1 (HG.out.2.2.below hBw hw) (by have := hBw.size; omega)
  have HC2 := hid hcon2
  have H2 := hid hBw
  clear hcon2 hBw hB2 hv HC H1
  go_wp2_with fail
  refine HC2.out.mono ?_
  rintro e w3 ⟨v3, rfl, hB3, hv3⟩
  have H3 : Hid (Below w.heap.size w w3) := H2.out.trans (hB3.mono H2.out.size)
  clear hB3 hv3 HC2 H2
  go_wp2
  go_ret
  exact ⟨rfl, H3.out⟩
end Go.Proofs.YtkafkipjedpohaaDoor
