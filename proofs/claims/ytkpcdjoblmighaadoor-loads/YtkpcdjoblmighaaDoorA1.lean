/-
  The walks of package check's small functions.
-/
import Derived.Test.YtkpcdjoblmighaaDoorWd
import Derived.BigQuiet
namespace Go.Proofs.YtkpcdjoblmighaaDoor
open Go.RowKit

set_option maxHeartbeats 400000 in
theorem within_any (n a b : Int) (w : World) :
    Calls Tryd.prog 16 #[.int .i64 n, .int .i64 a, .int .i64 b] w fun e w' => e = .returned (.bool (decide (a ≤ n ∧ n ≤ b))) ∧ w' = w := by
  by_cases h1 : a ≤ n
  · go_enter Tryd.func16, Tryd.ntmps16
    go_wp2
    go_ret
    exact ⟨by simp [h1], rfl⟩
  · have h1' : decide (a ≤ n) = false := by simpa using h1
    go_enter Tryd.func16, Tryd.ntmps16
    go_wp2
    go_ret
    exact ⟨by simp, rfl⟩

set_option maxHeartbeats 400000 in
theorem known_any (n : Int) (w : World) :
    Calls Tryd.prog 24 #[.int .i64 n] w fun e w' => e = .returned (.bool (decide (0 ≤ n ∧ n < 22))) ∧ w' = w := by
  by_cases h1 : 0 ≤ n
  · go_enter Tryd.func24, Tryd.ntmps24
    go_wp2
    go_ret
    exact ⟨by simp [h1], rfl⟩
  · have h1' : decide (0 ≤ n) = false := by simpa using h1
    go_enter Tryd.func24, Tryd.ntmps24
    go_wp2
    go_ret
    exact ⟨by simp, rfl⟩

set_option maxHeartbeats 400000 in
theorem indexes_any (a n : Int) (w : World) :
    Calls Tryd.prog 27 #[.int .i64 a, .int .i64 n] w fun e w' => e = .returned (.bool (decide (0 ≤ a ∧ a < n))) ∧ w' = w := by
  by_cases h1 : 0 ≤ a
  · go_enter Tryd.func27, Tryd.ntmps27
    go_wp2
    go_ret
    exact ⟨by simp [h1], rfl⟩
  · have h1' : decide (0 ≤ a) = false := by simpa using h1
    go_enter Tryd.func27, Tryd.ntmps27
    go_wp2
    go_ret
    exact ⟨by simp, rfl⟩

set_option maxHeartbeats 400000 in
theorem sizesFit_any (ag lc : Int) (ca : Option Addr) (cn cc : Nat) (w : World) :
    Calls Tryd.prog 23 #[.agg #[.int .i64 ag, .int .i64 lc, .slice ca cn cc]] w fun e w' =>
      e = .returned (.bool (decide (0 ≤ lc ∧ lc ≤ 8) && decide (0 ≤ ag ∧ ag ≤ lc) && decide (1 ≤ cn ∧ cn ≤ 64))) ∧ Below w.heap.size w w' := by
  go_enter Tryd.func23, Tryd.ntmps23
  go_wp2_with (go_at_call 16; refine (within_any _ _ _ _).mono ?_; rintro e w' ⟨rfl, rfl⟩)
  all_goals go_ret
  all_goals refine ⟨ret_bool ?_, by repeat (first | exact Below.refl _ _ | refine Below.alloc ?_ (by simp <;> omega) _)⟩
  all_goals (rw [Bool.eq_iff_iff]; simp_all <;> omega)

set_option maxHeartbeats 1000000 in
theorem operandFits_any (op a ag lc : Int) (ca : Option Addr) (cn cc : Nat) (m : Int) (w : World) :
    Calls Tryd.prog 25 #[.agg #[.int .i64 op, .int .i64 a], .agg #[.int .i64 ag, .int .i64 lc, .slice ca cn cc], .int .i64 m] w fun e w' =>
      e = .returned (.bool (fitsP op a lc cn m)) ∧ Below w.heap.size w w' := by
  go_enter Tryd.func25, Tryd.ntmps25
  go_wp2_with (go_at_call 27; refine (indexes_any _ _ _).mono ?_; rintro e w' ⟨rfl, rfl⟩)
  all_goals go_ret
  all_goals (refine ⟨ret_bool ?_, by repeat (first | exact Below.refl _ _ | refine Below.alloc ?_ (by simp <;> omega) _)⟩)
  all_goals (unfold fitsP; simp_all)

/-- What check.effectOf answers. -/
theorem tab_read {w : World} (h : TabAt w) {op : Int} (h0 : 0 ≤ op) (h1 : op < 22) : w.cell? ⟨0, op.toNat * 2, none⟩ = some (.int .i64 (popsT op)) ∧ w.cell? ⟨0, op.toNat * 2 + 1, none⟩ = some (.int .i64 (pushesP op)) := by
  obtain ⟨n, rfl⟩ := Int.eq_ofNat_of_zero_le h0
  exact h n (by omega)

set_option maxHeartbeats 1000000 in
theorem effectOf_any (op a : Int) (w : World) (ht : TabAt w) (h0 : 0 ≤ op) (h1 : op < 22) (h13 : op = 13 → 0 ≤ a ∧ a ≤ 8) (hw : 0 < w.heap.size) :
    Calls Tryd.prog 30 #[.agg #[.int .i64 op, .int .i64 a]] w fun e w' =>
      e = .returned (.agg #[.int .i64 (popsP op a), .int .i64 (pushesP op)]) ∧ Below w.heap.size w w' := by
  obtain ⟨t0, t1⟩ := tab_read ht h0 h1
  by_cases h : op = 13
  · obtain ⟨a0, a8⟩ := h13 h
    subst h
    have t0' : w.cell? ⟨0, 26, none⟩ = some (.int .i64 1) := t0
    have t1' : w.cell? ⟨0, 27, none⟩ = some (.int .i64 1) := t1
    clear ht h13 t0 t1
    go_enter Tryd.func30, Tryd.ntmps30
    go_wp2
    exact bodyPost_ret (v := .agg #[.int .i64 (1 + a), .int .i64 1]) (by simp [results, Tryd.results30, go_sem]) rfl ⟨by simp [popsP, pushesP], by repeat (first | exact Below.refl _ _ | refine Below.alloc ?_ (by simp <;> omega) _)⟩
  · have hb : (op == 13) = false := by simpa using h
    have hp : popsT op = popsP op a := by unfold popsP; rw [if_neg h]
    rw [hp] at t0
    generalize popsP op a = pp at *
    generalize pushesP op = qq at *
    clear ht h13 h hp
    go_enter Tryd.func30, Tryd.ntmps30
    go_wp2
    exact bodyPost_ret (v := .agg #[.int .i64 pp, .int .i64 qq]) (by simp [results, Tryd.results30, go_sem]) rfl ⟨rfl, by repeat (first | exact Below.refl _ _ | refine Below.alloc ?_ (by simp <;> omega) _)⟩
end Go.Proofs.YtkpcdjoblmighaaDoor
