import Derived.Test.YtkafkipjedpohaaGreatDoorA3

/-
  The walks of upshiftref's small functions.
-/
namespace Go.Proofs.YtkafkipjedpohaaGreatDoor
open Go.RowKit

set_option maxHeartbeats 2000000 in
theorem legal_any (op a ag lc : Int) (ca : Option Addr) (cn cc : Nat) (m : Int) (w : World) :
    Calls Tryz.prog 96 #[.agg #[.int .i64 op, .int .i64 a], .agg #[.int .i64 ag, .int .i64 lc, .slice ca cn cc], .int .i64 m] w fun e w' =>
      e = .returned (.bool (legalP op a lc cn m)) ∧ Below w.heap.size w w' := by
  by_cases ha : 0 ≤ a
  · by_cases ho : 0 ≤ op
    · go_enter Tryz.func96, Tryz.ntmps96
      go_wp2
      all_goals go_ret
      all_goals (refine ⟨ret_bool ?_, by repeat (first | exact Below.refl _ _ | refine Below.alloc ?_ (by simp <;> omega) _)⟩)
      all_goals (unfold legalP; simp_all <;> omega)
    · have ho' : decide (0 ≤ op) = false := by simpa using ho
      go_enter Tryz.func96, Tryz.ntmps96
      go_wp2
      all_goals go_ret
      all_goals (refine ⟨ret_bool ?_, by repeat (first | exact Below.refl _ _ | refine Below.alloc ?_ (by simp <;> omega) _)⟩)
      all_goals (unfold legalP; simp_all <;> omega)
  · have ha' : decide (0 ≤ a) = false := by simpa using ha
    by_cases ho : 0 ≤ op
    · go_enter Tryz.func96, Tryz.ntmps96
      go_wp2
      all_goals go_ret
      all_goals (refine ⟨ret_bool ?_, by repeat (first | exact Below.refl _ _ | refine Below.alloc ?_ (by simp <;> omega) _)⟩)
      all_goals (unfold legalP; simp_all <;> omega)
    · have ho' : decide (0 ≤ op) = false := by simpa using ho
      go_enter Tryz.func96, Tryz.ntmps96
      go_wp2
      all_goals go_ret
      all_goals (refine ⟨ret_bool ?_, by repeat (first | exact Below.refl _ _ | refine Below.alloc ?_ (by simp <;> omega) _)⟩)
      all_goals (unfold legalP; simp_all <;> omega)

set_option maxHeartbeats 2000000 in
theorem pops_any (op a : Int) (w : World) (h13 : op = 13 → 0 ≤ a ∧ a ≤ 8) :
    Calls Tryz.prog 108 #[.agg #[.int .i64 op, .int .i64 a]] w fun e w' =>
      e = .returned (.int .i64 (popsP op a)) ∧ Below w.heap.size w w' := by
  by_cases h : op = 13
  · obtain ⟨a0, a8⟩ := h13 h
    clear h13
    subst h
    go_enter Tryz.func108, Tryz.ntmps108
    go_wp2
    go_ret
    exact ⟨ret_int (by simp [popsP]), (Below.refl _ _).alloc (Nat.le_refl _) _⟩
  · have hb : (op == 13) = false := by simpa using h
    have hp : popsP op a = popsT op := by unfold popsP; rw [if_neg h]
    rw [hp]
    clear hp h13
    go_enter Tryz.func108, Tryz.ntmps108
    go_wp2
    all_goals go_ret
    all_goals (refine ⟨ret_int ?_, (Below.refl _ _).alloc (Nat.le_refl _) _⟩)
    all_goals (unfold popsT; simp_all)

set_option maxHeartbeats 2000000 in
theorem pushes_any (op a : Int) (w : World) :
    Calls Tryz.prog 109 #[.agg #[.int .i64 op, .int .i64 a]] w fun e w' =>
      e = .returned (.int .i64 (pushesP op)) ∧ Below w.heap.size w w' := by
  go_enter Tryz.func109, Tryz.ntmps109
  go_wp2
  all_goals go_ret
  all_goals (refine ⟨ret_int ?_, (Below.refl _ _).alloc (Nat.le_refl _) _⟩)
  all_goals (unfold pushesP; simp_all)

set_option maxHeartbeats 1000000 in
theorem after_any (op a : Int) (i : Nat) (w : World) (hi : i < 64) :
    Calls Tryz.prog 110 #[.agg #[.int .i64 op, .int .i64 a], .int .i64 i] w fun e w' =>
      ∃ p c, e = .returned (.slice p (afterP op a i).length c) ∧ Below w.heap.size w w' ∧ GoesTo w w' p (afterP op a i) := by
  by_cases h1 : op = 14
  · subst h1
    have hl : afterP 14 a i = [] := by simp [afterP]
    rw [hl]
    go_enter Tryz.func110, Tryz.ntmps110
    go_wp2
    go_ret
    exact ⟨_, _, rfl, (Below.refl _ _).alloc (Nat.le_refl _) _, Or.inl rfl⟩
  · have b1 : (op == 14) = false := by simpa using h1
    by_cases h2 : op = 10
    · subst h2
      have hl : afterP 10 a i = [a] := by simp [afterP]
      rw [hl]
      clear hl h1
      go_enter Tryz.func110, Tryz.ntmps110
      go_wp2
      go_ret
      exact ⟨_, _, rfl, ((Below.refl _ _).alloc (Nat.le_refl _) _).alloc (by simp) _, Or.inr ⟨w.heap.size + 1, by omega, by simp, rfl, ints_one (w.alloc _) a 3 _ (by simp)⟩⟩
    · have b2 : (op == 10) = false := by simpa using h2
      by_cases h3 : op = 11
      · subst h3
        have hl : afterP 11 a i = [(i : Int) + 1, a] := by simp [afterP]
        rw [hl]
        clear hl h1
        go_enter Tryz.func110, Tryz.ntmps110
        go_wp2
        go_ret
        exact ⟨_, _, rfl, ((Below.refl _ _).alloc (Nat.le_refl _) _).alloc (by simp) _, Or.inr ⟨w.heap.size + 1, by omega, by simp, rfl, ints_two (w.alloc _) _ a 3 _ (by simp)⟩⟩
      · have b3 : (op == 11) = false := by simpa using h3
        have hl : afterP op a i = [(i : Int) + 1] := by simp [afterP, h1, h2, h3]
        rw [hl]
        clear hl h1 h2 h3
        go_enter Tryz.func110, Tryz.ntmps110
        go_wp2
        go_ret
        exact ⟨_, _, rfl, ((Below.refl _ _).alloc (Nat.le_refl _) _).alloc (by simp) _, Or.inr ⟨w.heap.size + 1, by omega, by simp, rfl, ints_one (w.alloc _) _ 3 _ (by simp)⟩⟩
end Go.Proofs.YtkafkipjedpohaaGreatDoor
