/-
  The project's machine: number, integer, truth, quotient, result.
-/
import Derived.Test.YtnhjjjijeeobbaaDoorM3
namespace Go.Proofs.YtnhjjjijeeobbaaDoor
open Go.RowKit

/-- A trap gives up. -/
def trapE (n : Int) : Ending := .panicked [{ v := .iface 153 (.int .i64 n), recovered := false }]

theorem numberM (n : Int) (w : World) : Calls Tryd.prog 104 #[.int .i64 n] w fun e w' => e = .returned (.agg #[.int .i64 1, .int .i64 n]) ∧ w' = w.alloc (.cells #[.int .i64 1, .int .i64 n] 45) := by
  go_enter Tryd.func104, Tryd.ntmps104
  go_wp2
  exact bodyPost_ret (v := .agg #[.int .i64 1, .int .i64 n]) (by simp [results, Tryd.results104, go_sem]) rfl ⟨rfl, rfl⟩

theorem integerM (v : V) (hk : v.k = 1) (w : World) : Calls Tryd.prog 116 #[.agg #[.int .i64 v.k, .int .i64 v.n]] w fun e w' => e = .returned (.int .i64 v.n) ∧ w' = w.alloc (.cells #[.int .i64 v.k, .int .i64 v.n] 45) := by
  have e1 : (v.k != 1) = false := by simpa using hk
  clear hk
  go_enter Tryd.func116, Tryd.ntmps116
  go_wp2
  go_ret
  exact ⟨rfl, rfl⟩

theorem integerI (k n : Int) (hk : k = 1) (w : World) : Calls Tryd.prog 116 #[.agg #[.int .i64 k, .int .i64 n]] w fun e w' => e = .returned (.int .i64 n) ∧ w' = w.alloc (.cells #[.int .i64 k, .int .i64 n] 45) := integerM ⟨k, n⟩ hk w

theorem integerT (v : V) (hk : v.k ≠ 1) (w : World) : Calls Tryd.prog 116 #[.agg #[.int .i64 v.k, .int .i64 v.n]] w fun e w' => e = trapE 3 ∧ Below w.heap.size w w' := by
  have e1 : (v.k != 1) = true := by simpa using hk
  clear hk
  go_enter Tryd.func116, Tryd.ntmps116
  go_wp2
  exact ⟨rfl, rfl, (Below.refl _ _).alloc (Nat.le_refl _) _⟩

theorem truthM (b : Bool) (w : World) : Calls Tryd.prog 108 #[.bool b] w fun e w' => e = .returned (.int .i64 (if b = true then 1 else 0)) ∧ w' = w := by
  cases b
  · go_enter Tryd.func108, Tryd.ntmps108
    go_wp2
    go_ret
    exact ⟨rfl, rfl⟩
  · go_enter Tryd.func108, Tryd.ntmps108
    go_wp2
    go_ret
    exact ⟨rfl, rfl⟩

theorem quotientM (a b : Int) (hb : b ≠ 0) (w : World) : Calls Tryd.prog 117 #[.int .i64 a, .int .i64 b] w fun e w' => e = .returned (.int .i64 (w64 (a.tdiv b))) ∧ w' = w := by
  have e1 : (b == 0) = false := by simpa using hb
  go_enter Tryd.func117, Tryd.ntmps117
  go_wp2
  go_ret
  exact ⟨by simp [w64_eq], rfl⟩
theorem quotientT (a : Int) (w : World) : Calls Tryd.prog 117 #[.int .i64 a, .int .i64 0] w fun e w' => e = trapE 4 ∧ w' = w := by
  go_enter Tryd.func117, Tryd.ntmps117
  go_wp2
  exact ⟨rfl, rfl, rfl⟩

/-- What result answers. -/
def resP (op a b : Int) : Int :=
  if op = 4 then w64 (a + b) else if op = 5 then w64 (a - b) else if op = 6 then w64 (a * b) else if op = 7 then w64 (a.tdiv b) else if a < b then 1 else 0

theorem resultM (op a b : Int) (hop : op = 4 ∨ op = 5 ∨ op = 6 ∨ op = 7 ∨ op = 8) (hb : op = 7 → b ≠ 0) (w : World) : Calls Tryd.prog 115 #[.int .i64 op, .int .i64 a, .int .i64 b] w fun e w' => e = .returned (.int .i64 (resP op a b)) ∧ w' = w := by
  rcases hop with rfl | rfl | rfl | rfl | rfl
  · go_enter Tryd.func115, Tryd.ntmps115
    go_wp2
    go_ret
    exact ⟨by simp [resP, w64_eq], rfl⟩
  · go_enter Tryd.func115, Tryd.ntmps115
    go_wp2
    go_ret
    exact ⟨by simp [resP, w64_eq], rfl⟩
  · go_enter Tryd.func115, Tryd.ntmps115
    go_wp2
    go_ret
    exact ⟨by simp [resP, w64_eq], rfl⟩
  · have HQ := hid (quotientM a b (hb rfl) w)
    clear hb
    go_enter Tryd.func115, Tryd.ntmps115
    go_wp2_with fail
    refine HQ.out.mono ?_
    rintro e w' ⟨rfl, hw'⟩
    rw [hw']
    clear hw' w'
    go_wp2
    go_ret
    exact ⟨by simp [resP], rfl⟩
  · clear hb
    have hv : (if decide (a < b) = true then (1 : Int) else 0) = resP 8 a b := by simp [resP]
    have hq := truthM (decide (a < b)) w
    rw [hv] at hq
    have HQ := hid hq
    clear hq hv
    generalize resP 8 a b = x at *
    go_enter Tryd.func115, Tryd.ntmps115
    go_wp2_with fail
    refine HQ.out.mono ?_
    rintro e w' ⟨rfl, hw'⟩
    rw [hw']
    clear hw' w'
    go_wp2
    go_ret
    exact ⟨rfl, rfl⟩

theorem resultT (a : Int) (w : World) : Calls Tryd.prog 115 #[.int .i64 7, .int .i64 a, .int .i64 0] w fun e w' => e = trapE 4 ∧ w' = w := by
  have HQ := hid (quotientT a w)
  go_enter Tryd.func115, Tryd.ntmps115
  go_wp2_with fail
  refine HQ.out.mono ?_
  rintro e w' ⟨rfl, hw'⟩
  rw [hw']
  clear hw' w'
  exact ⟨rfl, rfl, rfl⟩
end Go.Proofs.YtnhjjjijeeobbaaDoor
