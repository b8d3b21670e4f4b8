import Derived.Test.YtkafkipjedpohaaDoorE1

/-
  upshiftlaw.small: the walk.
-/
namespace Go.Proofs.YtkafkipjedpohaaDoor
open Go.RowKit

/-- The document's first example. -/
def smallF : PF := { args := 0, locals := 0, cn := 6, op := fun i => if i = 0 then 0 else if i = 1 then 0 else if i = 2 then 5 else if i = 3 then 19 else if i = 4 then 1 else 14, ar := fun i => if i = 0 then 2 else if i = 1 then 3 else 0 }

theorem small_fine : (progP 1 (fun _ => smallF)).1 = 0 := by decide +kernel

def smallI : Array Value := #[.int .i64 0, .int .i64 2, .int .i64 0, .int .i64 3, .int .i64 5, .int .i64 0, .int .i64 19, .int .i64 0, .int .i64 1, .int .i64 0, .int .i64 14, .int .i64 0]

theorem small_given (w : World) : Given ((w.alloc (.cells smallI 38)).alloc (.cells #[.int .i64 0, .int .i64 0, .slice (some ⟨w.heap.size, 0, none⟩) 6 6] 41)) (some ⟨w.heap.size + 1, 0, none⟩) 1 (fun _ => smallF) (fun _ => some ⟨w.heap.size, 0, none⟩) (fun _ => 6) := by
  intro _
  refine ⟨w.heap.size + 1, 0, rfl, by simp, fun k hk => ?_⟩
  obtain rfl : k = 0 := by omega
  have hB : Below (w.heap.size + 1) (w.alloc (.cells smallI 38)) ((w.alloc (.cells smallI 38)).alloc (.cells #[.int .i64 0, .int .i64 0, .slice (some ⟨w.heap.size, 0, none⟩) 6 6] 41)) := (Below.refl _ _).alloc (by simp) _
  refine ⟨cell_new _ _ _ _ _ (by simp), cell_new _ _ _ _ _ (by simp), cell_new _ _ _ _ _ (by simp), fun _ => ⟨w.heap.size, 0, rfl, by simp; omega, fun i hi => ?_⟩⟩
  rw [hB.cell (p := ⟨w.heap.size, _, none⟩) (by simp), hB.cell (p := ⟨w.heap.size, _, none⟩) (by simp), cell_new _ _ _ _ _ rfl, cell_new _ _ _ _ _ rfl]
  have : i = 0 ∨ i = 1 ∨ i = 2 ∨ i = 3 ∨ i = 4 ∨ i = 5 := by have : i < 6 := hi; omega
  rcases this with rfl | rfl | rfl | rfl | rfl | rfl <;> exact ⟨rfl, rfl⟩

set_option maxHeartbeats 400000 in
theorem small_any (w : World) : Calls Tryd.prog 5 #[] w fun e w' => ∃ p, e = .returned (.slice p 1 1) ∧ Below w.heap.size w w' ∧ Given w' p 1 (fun _ => smallF) (fun _ => some ⟨w.heap.size, 0, none⟩) (fun _ => 6) := by
  go_enter Tryd.func5, Tryd.ntmps5
  go_wp2
  go_ret
  exact ⟨_, rfl, ((Below.refl _ _).alloc (Nat.le_refl _) _).alloc (by simp) _, small_given w⟩
end Go.Proofs.YtkafkipjedpohaaDoor
