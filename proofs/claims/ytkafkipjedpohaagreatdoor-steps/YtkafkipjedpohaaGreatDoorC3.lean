import Derived.Test.YtkafkipjedpohaaGreatDoorC1

/-
  upshift.Load.
-/
namespace Go.Proofs.YtkafkipjedpohaaGreatDoor
open Go.RowKit

theorem progP_fine {m : Nat} {F : Nat → PF} (h : (progP m F).1 = 0) : 1 ≤ m ∧ m ≤ 8 ∧ progP m F = (0, 0, 0) ∧ ∀ k, k < m → 1 ≤ (F k).cn ∧ (F k).cn ≤ 64 := by
  by_cases hm : m < 1 ∨ 8 < m
  · rw [progP_size hm] at h; simp at h
  · rcases leastP_spec (faultP m F) m with ⟨h1, h2, h3⟩ | ⟨h1, h2⟩
    · have hne : (funP m (leastP (faultP m F) m) (F (leastP (faultP m F) m))).1 ≠ 0 := by simpa [faultP] using h2
      rw [progP_bad hm h1 hne h3] at h
      exact absurd h hne
    · refine ⟨by omega, by omega, progP_ok hm h2, fun k hk => ?_⟩
      have hf : (funP m k (F k)).1 = 0 := by
        have := h2 k hk
        simpa [faultP] using this
      cases hs : sizesP (F k)
      · rw [funP_size (Or.inl hs)] at hf; simp at hf
      · unfold sizesP at hs
        simp only [Bool.and_eq_true, decide_eq_true_eq] at hs
        exact hs.2

/-- A code: a pointer to a block that holds a copy of the program. -/
def CodeIs (w w' : World) (v : Value) (m : Nat) (F : Nat → PF) : Prop :=
  ∃ b g cap, v = .pointer (some ⟨b, 0, none⟩) ∧ w.heap.size ≤ b ∧ b < w'.heap.size ∧ w'.cell? ⟨b, 0, none⟩ = some (.slice (some ⟨g, 0, none⟩) m cap) ∧ w.heap.size ≤ g ∧ g < w'.heap.size ∧ b ≠ g ∧ Cp w w' g m m F

set_option maxHeartbeats 1000000 in
theorem load_bad (p : Option Addr) (pc m : Nat) (F : Nat → PF) (w : World) (hne : (progP m F).1 ≠ 0)
    (hcon : Calls Tryz.prog 34 #[.slice p m pc] w fun e w' => e = .returned (.tuple #[.int .i64 (progP m F).1, .int .i64 (progP m F).2.1, .int .i64 (progP m F).2.2]) ∧ Below w.heap.size w w') :
    Calls Tryz.prog 17 #[.slice p m pc] w fun e w' =>
      e = .returned (.tuple #[.pointer none, .int .i64 (progP m F).1, .int .i64 (progP m F).2.1, .int .i64 (progP m F).2.2]) ∧ Below w.heap.size w w' := by
  have HC := hid hcon
  clear hcon
  have hb : ((progP m F).1 != 0) = true := by simpa using hne
  clear hne
  generalize progP m F = R at *
  go_enter Tryz.func17, Tryz.ntmps17
  go_wp2_with fail
  refine HC.out.mono ?_
  rintro e w2 ⟨rfl, hB⟩
  have HB := hid hB
  clear hB HC
  go_wp2
  exact bodyPost_ret (v := .tuple #[.pointer none, .int .i64 R.1, .int .i64 R.2.1, .int .i64 R.2.2]) (by simp [results, Tryz.results17, go_sem]) rfl ⟨rfl, HB.out⟩

set_option maxHeartbeats 1000000 in
theorem load_fine (pb po pc m : Nat) (F : Nat → PF) (CA : Nat → Option Addr) (CC : Nat → Nat) (w : World) (hP : ProgAt w pb po m F CA CC) (ht : TabAt w) (h0 : (progP m F).1 = 0) :
    Calls Tryz.prog 17 #[.slice (some ⟨pb, po, none⟩) m pc] w fun e w' =>
      ∃ v, e = .returned (.tuple #[v, .int .i64 0, .int .i64 0, .int .i64 0]) ∧ Below w.heap.size w w' ∧ CodeIs w w' v m F := by
  obtain ⟨hm, hm8, hR, hcn⟩ := progP_fine h0
  have hcon := program_any pb po pc m F CA CC w hP (by omega) ht
  rw [hR] at hcon
  have HC := hid hcon
  have HP := hid hP
  have HN := hid hcn
  clear hcon hP hcn h0 hR ht
  go_enter Tryz.func17, Tryz.ntmps17
  go_wp2_with fail
  refine HC.out.mono ?_
  rintro e w2 ⟨rfl, hB⟩
  have hcop := copied_any pb po pc m F CA CC w2 (HP.out.below hB (Nat.le_refl _)) hm hm8 HN.out
  have HC2 := hid hcop
  have HB := hid hB
  clear hB HC hcop
  go_wp2_with fail
  refine HC2.out.mono ?_
  rintro e w3 ⟨g, cap, rfl, hB3, hg1, hg2, hcp⟩
  have HX := hid (And.intro hB3 hcp)
  clear hB3 hcp HC2
  go_wp2
  refine bodyPost_ret (v := .tuple #[.pointer (some ⟨w3.heap.size, 0, none⟩), .int .i64 0, .int .i64 0, .int .i64 0]) (by simp [results, Tryz.results17, go_sem]) rfl ⟨_, rfl, ?_, ?_⟩
  · exact (HB.out.trans (HX.out.1.mono HB.out.size)).alloc (by have := HB.out.size; have := HX.out.1.size; omega) _
  · have e1 := HB.out.size
    have e2 := HX.out.1.size
    refine ⟨w3.heap.size, g, cap, rfl, by omega, by simp, cell_new _ _ _ _ _ rfl, by omega, by simp; omega, by omega, ?_⟩
    obtain ⟨CA', CC', hj⟩ := HX.out.2
    refine ⟨CA', CC', fun j hjm => ?_⟩
    obtain ⟨hf, cb, co, ec, hne, hold⟩ := hj j hjm
    exact ⟨hf.below ((Below.refl w3.heap.size w3).alloc (Nat.le_refl _) _) (Nat.le_refl _) hg2, cb, co, ec, hne, fun hl => by have := hold hl; omega⟩
end Go.Proofs.YtkafkipjedpohaaGreatDoor
