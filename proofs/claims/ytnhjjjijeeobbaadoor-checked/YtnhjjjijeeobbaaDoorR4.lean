/-
  upshiftref's number, two, where, cells.
-/
import Derived.Test.YtnhjjjijeeobbaaDoorR3
namespace Go.Proofs.YtnhjjjijeeobbaaDoor
open Go.RowKit

set_option maxHeartbeats 400000 in
theorem number_any (n : Int) (w : World) : Calls Tryd.prog 100 #[.int .i64 n] w fun e w' => e = .returned (.agg #[.int .i64 1, .int .i64 n]) ∧ w' = w.alloc (.cells #[.int .i64 1, .int .i64 n] 45) := by
  go_enter Tryd.func100, Tryd.ntmps100
  go_wp2
  exact bodyPost_ret (v := .agg #[.int .i64 1, .int .i64 n]) (by simp [results, Tryd.results100, go_sem]) rfl ⟨rfl, rfl⟩

theorem w64_eq (n : Int) : wrap64 n = w64 n := by unfold wrap64 w64; rfl

/-- What upshiftref.two answers. -/
def twoV (x : V × Int) : Value := .tuple #[.agg #[.int .i64 x.1.k, .int .i64 x.1.n], .int .i64 x.2]

set_option maxRecDepth 100000 in
set_option maxHeartbeats 2000000 in
theorem two_equal (a b : V) (w : World) : Calls Tryd.prog 102 #[.int .i64 9, .agg #[.int .i64 a.k, .int .i64 a.n], .agg #[.int .i64 b.k, .int .i64 b.n]] w fun e w' => e = .returned (twoV (twoP 9 a b)) ∧ Below w.heap.size w w' := by
  by_cases h1 : a.k = b.k
  · have e1 : (a.k == b.k) = true := by simpa using h1
    by_cases h2 : a.n = b.n
    · have e2 : (a.n == b.n) = true := by simpa using h2
      have HT : Hid (twoP 9 a b = (vnum 1, 0)) := by simp [Hid, twoP, h1, h2]
      clear h1 h2
      go_enter Tryd.func102, Tryd.ntmps102
      go_wp2_with (go_at_call 100; refine (number_any _ _).mono ?_; rintro e w' ⟨rfl, rfl⟩)
      refine bodyPost_ret (v := .tuple #[.agg #[.int .i64 1, .int .i64 (1)], .int .i64 0]) (by simp [results, Tryd.results102, go_sem]) rfl ⟨?_, by repeat (first | exact Below.refl _ _ | refine Below.alloc ?_ (by first | omega | (simp; done) | (simp; omega)) _)⟩
      rw [HT.out]
      rfl
    · have e2 : (a.n == b.n) = false := by simpa using h2
      have HT : Hid (twoP 9 a b = (vnum 0, 0)) := by simp [Hid, twoP, h2]
      clear h1 h2
      go_enter Tryd.func102, Tryd.ntmps102
      go_wp2_with (go_at_call 100; refine (number_any _ _).mono ?_; rintro e w' ⟨rfl, rfl⟩)
      refine bodyPost_ret (v := .tuple #[.agg #[.int .i64 1, .int .i64 (0)], .int .i64 0]) (by simp [results, Tryd.results102, go_sem]) rfl ⟨?_, by repeat (first | exact Below.refl _ _ | refine Below.alloc ?_ (by first | omega | (simp; done) | (simp; omega)) _)⟩
      rw [HT.out]
      rfl
  · have e1 : (a.k == b.k) = false := by simpa using h1
    have HT : Hid (twoP 9 a b = (vnum 0, 0)) := by simp [Hid, twoP, h1]
    clear h1
    go_enter Tryd.func102, Tryd.ntmps102
    go_wp2_with (go_at_call 100; refine (number_any _ _).mono ?_; rintro e w' ⟨rfl, rfl⟩)
    refine bodyPost_ret (v := .tuple #[.agg #[.int .i64 1, .int .i64 (0)], .int .i64 0]) (by simp [results, Tryd.results102, go_sem]) rfl ⟨?_, by repeat (first | exact Below.refl _ _ | refine Below.alloc ?_ (by first | omega | (simp; done) | (simp; omega)) _)⟩
    rw [HT.out]
    rfl

set_option maxRecDepth 100000 in
set_option maxHeartbeats 2000000 in
theorem two_type (op : Int) (a b : V) (w : World) (ho : op ≠ 9) (hk : a.k ≠ 1 ∨ b.k ≠ 1) : Calls Tryd.prog 102 #[.int .i64 op, .agg #[.int .i64 a.k, .int .i64 a.n], .agg #[.int .i64 b.k, .int .i64 b.n]] w fun e w' => e = .returned (twoV (twoP op a b)) ∧ Below w.heap.size w w' := by
  have e9 : (op == 9) = false := by simpa using ho
  have HT : Hid (twoP op a b = (vnil, 3)) := by unfold Hid twoP; rw [if_neg ho, if_pos hk]
  by_cases h1 : a.k = 1
  · have e1 : (a.k != 1) = false := by simpa using h1
    have h2 : b.k ≠ 1 := by omega
    have e2 : (b.k != 1) = true := by simpa using h2
    clear ho hk h1 h2
    go_enter Tryd.func102, Tryd.ntmps102
    go_wp2_with (go_at_call 100; refine (number_any _ _).mono ?_; rintro e w' ⟨rfl, rfl⟩)
    refine bodyPost_ret (v := .tuple #[.agg #[.int .i64 0, .int .i64 (0)], .int .i64 3]) (by simp [results, Tryd.results102, go_sem]) rfl ⟨?_, by repeat (first | exact Below.refl _ _ | refine Below.alloc ?_ (by first | omega | (simp; done) | (simp; omega)) _)⟩
    rw [HT.out]
    rfl
  · have e1 : (a.k != 1) = true := by simpa using h1
    clear ho hk h1
    go_enter Tryd.func102, Tryd.ntmps102
    go_wp2_with (go_at_call 100; refine (number_any _ _).mono ?_; rintro e w' ⟨rfl, rfl⟩)
    refine bodyPost_ret (v := .tuple #[.agg #[.int .i64 0, .int .i64 (0)], .int .i64 3]) (by simp [results, Tryd.results102, go_sem]) rfl ⟨?_, by repeat (first | exact Below.refl _ _ | refine Below.alloc ?_ (by first | omega | (simp; done) | (simp; omega)) _)⟩
    rw [HT.out]
    rfl

set_option maxRecDepth 100000 in
set_option maxHeartbeats 2000000 in
theorem two_op4 (a b : V) (w : World) (ha : a.k = 1) (hb : b.k = 1) : Calls Tryd.prog 102 #[.int .i64 4, .agg #[.int .i64 a.k, .int .i64 a.n], .agg #[.int .i64 b.k, .int .i64 b.n]] w fun e w' => e = .returned (twoV (twoP 4 a b)) ∧ Below w.heap.size w w' := by
  have e1 : (a.k != 1) = false := by simpa using ha
  have e2 : (b.k != 1) = false := by simpa using hb
  have HT : Hid (twoP 4 a b = (vnum (w64 (a.n + b.n)), 0)) := by simp [Hid, twoP, ha, hb]
  clear ha hb
  go_enter Tryd.func102, Tryd.ntmps102
  go_wp2_with (go_at_call 100; refine (number_any _ _).mono ?_; rintro e w' ⟨rfl, rfl⟩)
  refine bodyPost_ret (v := .tuple #[.agg #[.int .i64 1, .int .i64 (wrap64 (a.n + b.n))], .int .i64 0]) (by simp [results, Tryd.results102, go_sem]) rfl ⟨?_, by repeat (first | exact Below.refl _ _ | refine Below.alloc ?_ (by first | omega | (simp; done) | (simp; omega)) _)⟩
  rw [HT.out]
  first | rfl | (simp only [w64_eq]; rfl)

set_option maxRecDepth 100000 in
set_option maxHeartbeats 2000000 in
theorem two_op5 (a b : V) (w : World) (ha : a.k = 1) (hb : b.k = 1) : Calls Tryd.prog 102 #[.int .i64 5, .agg #[.int .i64 a.k, .int .i64 a.n], .agg #[.int .i64 b.k, .int .i64 b.n]] w fun e w' => e = .returned (twoV (twoP 5 a b)) ∧ Below w.heap.size w w' := by
  have e1 : (a.k != 1) = false := by simpa using ha
  have e2 : (b.k != 1) = false := by simpa using hb
  have HT : Hid (twoP 5 a b = (vnum (w64 (a.n - b.n)), 0)) := by simp [Hid, twoP, ha, hb]
  clear ha hb
  go_enter Tryd.func102, Tryd.ntmps102
  go_wp2_with (go_at_call 100; refine (number_any _ _).mono ?_; rintro e w' ⟨rfl, rfl⟩)
  refine bodyPost_ret (v := .tuple #[.agg #[.int .i64 1, .int .i64 (wrap64 (a.n - b.n))], .int .i64 0]) (by simp [results, Tryd.results102, go_sem]) rfl ⟨?_, by repeat (first | exact Below.refl _ _ | refine Below.alloc ?_ (by first | omega | (simp; done) | (simp; omega)) _)⟩
  rw [HT.out]
  first | rfl | (simp only [w64_eq]; rfl)

set_option maxRecDepth 100000 in
set_option maxHeartbeats 2000000 in
theorem two_op6 (a b : V) (w : World) (ha : a.k = 1) (hb : b.k = 1) : Calls Tryd.prog 102 #[.int .i64 6, .agg #[.int .i64 a.k, .int .i64 a.n], .agg #[.int .i64 b.k, .int .i64 b.n]] w fun e w' => e = .returned (twoV (twoP 6 a b)) ∧ Below w.heap.size w w' := by
  have e1 : (a.k != 1) = false := by simpa using ha
  have e2 : (b.k != 1) = false := by simpa using hb
  have HT : Hid (twoP 6 a b = (vnum (w64 (a.n * b.n)), 0)) := by simp [Hid, twoP, ha, hb]
  clear ha hb
  go_enter Tryd.func102, Tryd.ntmps102
  go_wp2_with (go_at_call 100; refine (number_any _ _).mono ?_; rintro e w' ⟨rfl, rfl⟩)
  refine bodyPost_ret (v := .tuple #[.agg #[.int .i64 1, .int .i64 (wrap64 (a.n * b.n))], .int .i64 0]) (by simp [results, Tryd.results102, go_sem]) rfl ⟨?_, by repeat (first | exact Below.refl _ _ | refine Below.alloc ?_ (by first | omega | (simp; done) | (simp; omega)) _)⟩
  rw [HT.out]
  first | rfl | (simp only [w64_eq]; rfl)

set_option maxRecDepth 100000 in
set_option maxHeartbeats 2000000 in
theorem two_op8 (a b : V) (w : World) (ha : a.k = 1) (hb : b.k = 1) : Calls Tryd.prog 102 #[.int .i64 8, .agg #[.int .i64 a.k, .int .i64 a.n], .agg #[.int .i64 b.k, .int .i64 b.n]] w fun e w' => e = .returned (twoV (twoP 8 a b)) ∧ Below w.heap.size w w' := by
  have e1 : (a.k != 1) = false := by simpa using ha
  have e2 : (b.k != 1) = false := by simpa using hb
  by_cases hl : a.n < b.n
  · have HT : Hid (twoP 8 a b = (vnum 1, 0)) := by simp [Hid, twoP, ha, hb, hl]
    clear ha hb
    go_enter Tryd.func102, Tryd.ntmps102
    go_wp2_with (go_at_call 100; refine (number_any _ _).mono ?_; rintro e w' ⟨rfl, rfl⟩)
    refine bodyPost_ret (v := .tuple #[.agg #[.int .i64 1, .int .i64 (1)], .int .i64 0]) (by simp [results, Tryd.results102, go_sem]) rfl ⟨?_, by repeat (first | exact Below.refl _ _ | refine Below.alloc ?_ (by first | omega | (simp; done) | (simp; omega)) _)⟩
    rw [HT.out]
    first | rfl | (simp only [w64_eq]; rfl)
  · have HT : Hid (twoP 8 a b = (vnum 0, 0)) := by simp [Hid, twoP, ha, hb, hl]
    clear ha hb
    go_enter Tryd.func102, Tryd.ntmps102
    go_wp2_with (go_at_call 100; refine (number_any _ _).mono ?_; rintro e w' ⟨rfl, rfl⟩)
    refine bodyPost_ret (v := .tuple #[.agg #[.int .i64 1, .int .i64 (0)], .int .i64 0]) (by simp [results, Tryd.results102, go_sem]) rfl ⟨?_, by repeat (first | exact Below.refl _ _ | refine Below.alloc ?_ (by first | omega | (simp; done) | (simp; omega)) _)⟩
    rw [HT.out]
    first | rfl | (simp only [w64_eq]; rfl)

set_option maxRecDepth 100000 in
set_option maxHeartbeats 2000000 in
theorem two_op7 (a b : V) (w : World) (ha : a.k = 1) (hb : b.k = 1) : Calls Tryd.prog 102 #[.int .i64 7, .agg #[.int .i64 a.k, .int .i64 a.n], .agg #[.int .i64 b.k, .int .i64 b.n]] w fun e w' => e = .returned (twoV (twoP 7 a b)) ∧ Below w.heap.size w w' := by
  have e1 : (a.k != 1) = false := by simpa using ha
  have e2 : (b.k != 1) = false := by simpa using hb
  by_cases h0 : b.n = 0
  · have HT : Hid (twoP 7 a b = (vnil, 4)) := by simp [Hid, twoP, ha, hb, h0]
    have e3 : (b.n == 0) = true := by simpa using h0
    clear ha hb h0
    go_enter Tryd.func102, Tryd.ntmps102
    go_wp2_with (go_at_call 100; refine (number_any _ _).mono ?_; rintro e w' ⟨rfl, rfl⟩)
    refine bodyPost_ret (v := .tuple #[.agg #[.int .i64 0, .int .i64 (0)], .int .i64 4]) (by simp [results, Tryd.results102, go_sem]) rfl ⟨?_, by repeat (first | exact Below.refl _ _ | refine Below.alloc ?_ (by first | omega | (simp; done) | (simp; omega)) _)⟩
    rw [HT.out]
    first | rfl | (simp only [w64_eq]; rfl)
  · have HT : Hid (twoP 7 a b = (vnum (w64 (a.n.tdiv b.n)), 0)) := by simp [Hid, twoP, ha, hb, h0]
    have e3 : (b.n == 0) = false := by simpa using h0
    by_cases h1 : b.n = -1
    · have e4 : (b.n == -1) = true := by simpa using h1
      have HT2 : Hid (twoP 7 a b = (vnum (w64 (-a.n)), 0)) := by unfold Hid; rw [HT.out, h1, Int.tdiv_neg, Int.tdiv_one]
      clear HT ha hb h0 h1
      have HT := HT2
      clear HT2
      go_enter Tryd.func102, Tryd.ntmps102
      go_wp2_with (go_at_call 100; refine (number_any _ _).mono ?_; rintro e w' ⟨rfl, rfl⟩)
      refine bodyPost_ret (v := .tuple #[.agg #[.int .i64 1, .int .i64 (wrap64 (-a.n))], .int .i64 0]) (by simp [results, Tryd.results102, go_sem]) rfl ⟨?_, by repeat (first | exact Below.refl _ _ | refine Below.alloc ?_ (by first | omega | (simp; done) | (simp; omega)) _)⟩
      rw [HT.out]
      first | rfl | (simp only [w64_eq]; rfl)
    · have e4 : (b.n == -1) = false := by simpa using h1
      clear ha hb h1
      go_enter Tryd.func102, Tryd.ntmps102
      go_wp2_with (go_at_call 100; refine (number_any _ _).mono ?_; rintro e w' ⟨rfl, rfl⟩)
      refine bodyPost_ret (v := .tuple #[.agg #[.int .i64 1, .int .i64 (wrap64 (a.n.tdiv b.n))], .int .i64 0]) (by simp [results, Tryd.results102, go_sem]) rfl ⟨?_, by repeat (first | exact Below.refl _ _ | refine Below.alloc ?_ (by first | omega | (simp; done) | (simp; omega)) _)⟩
      rw [HT.out]
      first | rfl | (simp only [w64_eq]; rfl)

theorem two_any (op : Int) (a b : V) (w : World) (ho : op = 4 ∨ op = 5 ∨ op = 6 ∨ op = 7 ∨ op = 8 ∨ op = 9) : Calls Tryd.prog 102 #[.int .i64 op, .agg #[.int .i64 a.k, .int .i64 a.n], .agg #[.int .i64 b.k, .int .i64 b.n]] w fun e w' => e = .returned (twoV (twoP op a b)) ∧ Below w.heap.size w w' := by
  by_cases h9 : op = 9
  · subst h9; exact two_equal a b w
  · by_cases hk : a.k ≠ 1 ∨ b.k ≠ 1
    · exact two_type op a b w h9 hk
    · have ha : a.k = 1 := by omega
      have hb : b.k = 1 := by omega
      rcases ho with rfl | rfl | rfl | rfl | rfl | rfl
      · exact two_op4 a b w ha hb
      · exact two_op5 a b w ha hb
      · exact two_op6 a b w ha hb
      · exact two_op7 a b w ha hb
      · exact two_op8 a b w ha hb
      · exact two_equal a b w

end Go.Proofs.YtnhjjjijeeobbaaDoor
