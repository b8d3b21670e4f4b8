/-
  Package upshiftkeep: pick, args, the instructions.
-/
import Derived.Test.YtnhjjjijeeobbaaDoorWd
import Derived.Test.YtnhjjjijeeobbaaDoorQA
namespace Go.Proofs.YtnhjjjijeeobbaaDoor
open Go.RowKit

/-- A number of 64 bits. -/
def I64 (n : Int) : Prop := -9223372036854775808 ≤ n ∧ n ≤ 9223372036854775807

theorem keepPick_any (c n : Int) (w : World) (hc : I64 c) (hn : 0 < n ∧ n ≤ 100000) :
    Calls Tryd.prog 11 #[.int .i64 c, .int .i64 n] w fun e w' => e = .returned (.int .i64 (pickP c n)) ∧ w' = w := by
  obtain ⟨h1, h2⟩ := hc
  obtain ⟨h3, h4⟩ := hn
  have hn0 : ¬ n = 0 := by omega
  by_cases h : c < 0
  · have hd : decide (c < 0) = true := by simp [h]
    have e1 : wrap64 (c + 1) = c + 1 := by unfold wrap64; omega
    have e2 : wrap64 (-(c + 1)) = -(c + 1) := by unfold wrap64; omega
    have e3 : (-(c + 1)).tmod n = (-(c + 1)) % n := Int.tmod_eq_emod_of_nonneg (by omega)
    have e4 : wrap64 ((-(c + 1)) % n) = (-(c + 1)) % n := by
      have := Int.emod_nonneg (-(c + 1)) hn0
      have := Int.emod_lt_of_pos (-(c + 1)) h3
      unfold wrap64; omega
    have e5 : pickP c n = (-(c + 1)) % n := by unfold pickP; rw [if_pos h]
    go_enter Tryd.func11, Tryd.ntmps11
    go_wp2
    go_ret
    rw [e5]
    simp_all
  · have hd : decide (c < 0) = false := by simp [h]
    have e3 : c.tmod n = c % n := Int.tmod_eq_emod_of_nonneg (by omega)
    have e4 : wrap64 (c % n) = c % n := by
      have := Int.emod_nonneg c hn0
      have := Int.emod_lt_of_pos c h3
      unfold wrap64; omega
    have e5 : pickP c n = c % n := by unfold pickP; rw [if_neg h]
    go_enter Tryd.func11, Tryd.ntmps11
    go_wp2
    go_ret
    exact ⟨rfl, rfl⟩

theorem keepArgs_any (f : Int) (w : World) : Calls Tryd.prog 28 #[.int .i64 f] w fun e w' => e = .returned (.int .i64 f) ∧ w' = w := by
  go_enter Tryd.func28, Tryd.ntmps28
  go_wp2
  go_ret
  exact ⟨rfl, rfl⟩

/-- A world with one instruction's block more. -/
def insW (w : World) (o a : Int) : World := w.alloc (.cells #[.int .i64 o, .int .i64 a] 35)

theorem keepLoad_any (k : Int) (w : World) : Calls Tryd.prog 12 #[.int .i64 k] w fun e w' => e = .returned (.agg #[.int .i64 2, .int .i64 k]) ∧ w' = w.alloc (.cells #[.int .i64 2, .int .i64 k] 35) := by
  go_enter Tryd.func12, Tryd.ntmps12
  go_wp2
  exact bodyPost_ret (v := .agg #[.int .i64 2, .int .i64 k]) (by simp [results, Tryd.results12, go_sem]) rfl ⟨rfl, rfl⟩
theorem keepStore_any (k : Int) (w : World) : Calls Tryd.prog 40 #[.int .i64 k] w fun e w' => e = .returned (.agg #[.int .i64 3, .int .i64 k]) ∧ w' = w.alloc (.cells #[.int .i64 3, .int .i64 k] 35) := by
  go_enter Tryd.func40, Tryd.ntmps40
  go_wp2
  exact bodyPost_ret (v := .agg #[.int .i64 3, .int .i64 k]) (by simp [results, Tryd.results40, go_sem]) rfl ⟨rfl, rfl⟩
theorem keepConst_any (k : Int) (w : World) : Calls Tryd.prog 29 #[.int .i64 k] w fun e w' => e = .returned (.agg #[.int .i64 0, .int .i64 k]) ∧ w' = w.alloc (.cells #[.int .i64 0, .int .i64 k] 35) := by
  go_enter Tryd.func29, Tryd.ntmps29
  go_wp2
  exact bodyPost_ret (v := .agg #[.int .i64 0, .int .i64 k]) (by simp [results, Tryd.results29, go_sem]) rfl ⟨rfl, rfl⟩
theorem keepOp_any (k : Int) (w : World) : Calls Tryd.prog 13 #[.int .i64 k] w fun e w' => e = .returned (.agg #[.int .i64 k, .int .i64 0]) ∧ w' = w.alloc (.cells #[.int .i64 k, .int .i64 0] 35) := by
  go_enter Tryd.func13, Tryd.ntmps13
  go_wp2
  exact bodyPost_ret (v := .agg #[.int .i64 k, .int .i64 0]) (by simp [results, Tryd.results13, go_sem]) rfl ⟨rfl, rfl⟩
end Go.Proofs.YtnhjjjijeeobbaaDoor
