import Derived.Test.YtkafkipjedpohaaDoorE2

/-
  upshiftlaw.Loads: the walk.
-/
namespace Go.Proofs.YtkafkipjedpohaaDoor
open Go.RowKit

set_option maxHeartbeats 1000000 in
theorem loads_any (p : Option Addr) (pc m : Nat) (F : Nat → PF) (CA : Nat → Option Addr) (CC : Nat → Nat) (w : World) (hG : Given w p m F CA CC) (hm : 40 * m ≤ 140737488355328) (hcn : ∀ k, k < m → 16 * (F k).cn ≤ 140737488355328) (ht : TabAt w) (hw : 0 < w.heap.size) :
    Calls Tryd.prog 3 #[.slice p m pc] w fun e w' => e = .returned (.bool true) ∧ Below w.heap.size w w' := by
  have HG := hid (And.intro hG (And.intro hcn ht))
  clear hG hcn ht
  go_enter Tryd.func3, Tryd.ntmps3
  go_wp2_with fail
  refine (small_any w).mono ?_
  rintro e w1 ⟨p1, rfl, hB1, hG1⟩
  have hcon := loaded_any p1 1 1 (fun _ => smallF) _ _ w1 hG1 (by omega) (fun k hk => by show 16 * 6 ≤ _; omega) (HG.out.2.2.below hB1 hw) (by have := hB1.size; omega)
  have HC := hid hcon
  have H1 := hid hB1
  clear hcon hB1 hG1
  go_wp2_with fail
  refine HC.out.mono ?_
  rintro e w2 ⟨v, rfl, hB2, hv⟩
  obtain ⟨bv, rfl⟩ : ∃ b, v = .pointer (some ⟨b, 0, none⟩) := by
    rcases hv with ⟨_, b, _, _, h, _⟩ | ⟨h, _⟩
    · exact ⟨b, h⟩
    · exact absurd small_fine h
  have hBw : Below w.heap.size w w2 := H1.out.trans (hB2.mono H1.out.size)
  have hcon2 := loaded_any p pc m F CA CC w2 (HG.out.1.below hBw (Nat.le_refl _)) hm HG.out.2.1 (HG.out.2.2.below hBw hw) (by have := hBw.size; omega)
  have HC2 := hid hcon2
  have H2 := hid hBw
  clear hcon2 hBw hB2 hv HC H1
  go_wp2_with fail
  refine HC2.out.mono ?_
  rintro e w3 ⟨v3, rfl, hB3, hv3⟩
  have H3 : Hid (Below w.heap.size w w3) := H2.out.trans (hB3.mono H2.out.size)
  clear hB3 hv3 HC2 H2
  go_wp2
  go_ret
  exact ⟨rfl, H3.out⟩
end Go.Proofs.YtkafkipjedpohaaDoor
