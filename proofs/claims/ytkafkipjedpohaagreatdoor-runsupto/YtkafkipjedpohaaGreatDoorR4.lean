import Derived.Test.YtkafkipjedpohaaGreatDoorR1

/-
  upshiftref's number, two, where, cells.
-/
namespace Go.Proofs.YtkafkipjedpohaaGreatDoor
open Go.RowKit

set_option maxHeartbeats 400000 in
theorem number_any (n : Int) (w : World) : Calls Tryz.prog 112 #[.int .i64 n] w fun e w' => e = .returned (.agg #[.int .i64 1, .int .i64 n]) ∧ w' = w.alloc (.cells #[.int .i64 1, .int .i64 n] 43) := by
  go_enter Tryz.func112, Tryz.ntmps112
  go_wp2
  exact bodyPost_ret (v := .agg #[.int .i64 1, .int .i64 n]) (by simp [results, Tryz.results112, go_sem]) rfl ⟨rfl, rfl⟩

theorem w64_eq (n : Int) : wrap64 n = w64 n := by unfold wrap64 w64; rfl

/-- What upshiftref.two answers. -/
def twoV (x : V × Int) : Value := .tuple #[.agg #[.int .i64 x.1.k, .int .i64 x.1.n], .int .i64 x.2]

set_option maxRecDepth 100000 in
set_option maxHeartbeats 2000000 in
theorem two_equal (a b : V) (w : World) : Calls Tryz.prog 114 #[.int .i64 9, .agg #[.int .i64 a.k, .int .i64 a.n], .agg #[.int .i64 b.k, .int .i64 b.n]] w fun e w' => e = .returned (twoV (twoP 9 a b)) ∧ Below w.heap.size w w' := by
  by_cases h1 : a.k = b.k
  · have e1 : (a.k == b.k) = true := by simpa using h1
    by_cases h2 : a.n = b.n
    · have e2 : (a.n == b.n) = true := by simpa using h2
      have HT : Hid (twoP 9 a b = (vnum 1, 0)) := by simp [Hid, twoP, h1, h2]
      clear h1 h2
      go_enter Tryz.func114, Tryz.ntmps114
      go_wp2_with (go_at_call 112; refine (number_any _ _).mono ?_; rintro e w' ⟨rfl, rfl⟩)
      refine bodyPost_ret (v := .tuple #[.agg #[.int .i64 1, .int .i64 (1)], .int .i64 0]) (by simp [results, Tryz.results114, go_sem]) rfl ⟨?_, by repeat (first | exact Below.refl _ _ | refine Below.alloc ?_ (by first | omega | (simp; done) | (simp; omega)) _)⟩
      rw [HT.out]
      rfl
    · have e2 : (a.n == b.n) = false := by simpa using h2
      have HT : Hid (twoP 9 a b = (vnum 0, 0)) := by simp [Hid, twoP, h2]
      clear h1 h2
      go_enter Tryz.func114, Tryz.ntmps114
      go_wp2_with (go_at_call 112; refine (number_any _ _).mono ?_; rintro e w' ⟨rfl, rfl⟩)
      refine bodyPost_ret (v := .tuple #[.agg #[.int .i64 1, .int .i64 (0)], .int .i64 0]) (by simp [results, Tryz.results114, go_sem]) rfl ⟨?_, by repeat (first | exact Below.refl _ _ | refine Below.alloc ?_ (by first | omega | (simp; done) | (simp; omega)) _)⟩
      rw [HT.out]
      rfl
  · have e1 : (a.k == b.k) = false := by simpa using h1
    have HT : Hid (twoP 9 a b = (vnum 0, 0)) := by simp [Hid, twoP, h1]
    clear h1
    go_enter Tryz.func114, Tryz.ntmps114
    go_wp2_with (go_at_call 112; refine (number_any _ _).mono ?_; rintro e w' ⟨rfl, rfl⟩)
    refine bodyPost_ret (v := .tuple #[.agg #[.int .i64 1, .int .i64 (0)], .int .i64 0]) (by simp [results, Tryz.results114, go_sem]) rfl ⟨?_, by repeat (first | exact Below.refl _ _ | refine Below.alloc ?_ (by first | omega | (simp; done) | (simp; omega)) _)⟩
    rw [HT.out]
    rfl

set_option maxRecDepth 100000 in
set_option maxHeartbeats 2000000 in
theorem two_type (op : Int) (a b : V) (w : World) (ho : op ≠ 9) (hk : a.k ≠ 1 ∨ b.k ≠ 1) : Calls Tryz.prog 114 #[.int .i64 op, .agg #[.int .i64 a.k, .int .i64 a.n], .agg #[.int .i64 b.k, .int .i64 b.n]] w fun e w' => e = .returned (twoV (twoP op a b)) ∧ Below w.heap.size w w' := by
  have e9 : (op == 9) = false := by simpa using ho
  have HT : Hid (twoP op a b = (vnil, 3)) := by unfold Hid twoP; rw [if_neg ho, if_pos hk]
  by_cases h1 : a.k = 1
  · have e1 : (a.k != 1) = false := by simpa using h1
    have h2 : b.k ≠ 1 := by omega
    have e2 : (b.k != 1) = true := by simpa using h2
    clear ho hk h1 h2
    go_enter Tryz.func114, Tryz.ntmps114
    go_wp2_with (go_at_call 112; refine (number_any _ _).mono ?_; rintro e w' ⟨rfl, rfl⟩)
    refine bodyPost_ret (v := .tuple #[.agg #[.int .i64 0, .int .i64 (0)], .int .i64 3]) (by simp [results, Tryz.results114, go_sem]) rfl ⟨?_, by repeat (first | exact Below.refl _ _ | refine Below.alloc ?_ (by first | omega | (simp; done) | (simp; omega)) _)⟩
    rw [HT.out]
    rfl
  · have e1 : (a.k != 1) = true := by simpa using h1
    clear ho hk h1
    go_enter Tryz.func114, Tryz.ntmps114
    go_wp2_with (go_at_call 112; refine (number_any _ _).mono ?_; rintro e w' ⟨rfl, rfl⟩)
    refine bodyPost_ret (v := .tuple #[.agg #[.int .i64 0, .int .i64 (0)], .int .i64 3]) (by simp [results, Tryz.results114, go_sem]) rfl ⟨?_, by repeat (first | exact Below.refl _ _ | refine Below.alloc ?_ (by first | omega | (simp; done) | (simp; omega)) _)⟩
    rw [HT.out]
    rfl

set_option maxRecDepth 100000 in
set_option maxHeartbeats 2000000 in
theorem two_op4 (a b : V) (w : World) (ha : a.k = 1) (hb : b.k = 1) : Calls Tryz.prog 114 #[.int .i64 4, .agg #[.int .i64 a.k, .int .i64 a.n], .agg #[.int .i64 b.k, .int .i64 b.n]] w fun e w' => e = .returned (twoV (twoP 4 a b)) ∧ Below w.heap.size w w' := by
  have e1 : (a.k != 1) = false := by simpa using ha
  have e2 : (b.k != 1) = false := by simpa using hb
  have HT : Hid (twoP 4 a b = (vnum (w64 (a.n + b.n)), 0)) := by simp [Hid, twoP, ha, hb]
  clear ha hb
  go_enter Tryz.func114, Tryz.ntmps114
  go_wp2_with (go_at_call 112; refine (number_any _ _).mono ?_; rintro e w' ⟨rfl, rfl⟩)
  refine bodyPost_ret (v := .tuple #[.agg #[.int .i64 1, .int .i64 (wrap64 (a.n + b.n))], .int .i64 0]) (by simp [results, Tryz.results114, go_sem]) rfl ⟨?_, by repeat (first | exact Below.refl _ _ | refine Below.alloc ?_ (by first | omega | (simp; done) | (simp; omega)) _)⟩
  rw [HT.out]
  first | rfl | (simp only [w64_eq]; rfl)

set_option maxRecDepth 100000 in
set_option maxHeartbeats 2000000 in
theorem two_op5 (a b : V) (w : World) (ha : a.k = 1) (hb : b.k = 1) : Calls Tryz.prog 114 #[.int .i64 5, .agg #[.int .i64 a.k, .int .i64 a.n], .agg #[.int .i64 b.k, .int .i64 b.n]] w fun e w' => e = .returned (twoV (twoP 5 a b)) ∧ Below w.heap.size w w' := by
  have e1 : (a.k != 1) = false := by simpa using ha
  have e2 : (b.k != 1) = false := by simpa using hb
  have HT : Hid (twoP 5 a b = (vnum (w64 (a.n - b.n)), 0)) := by simp [Hid, twoP, ha, hb]
  clear ha hb
  go_enter Tryz.func114, Tryz.ntmps114
  go_wp2_with (go_at_call 112; refine (number_any _ _).mono ?_; rintro e w' ⟨rfl, rfl⟩)
  refine bodyPost_ret (v := .tuple #[.agg #[.int .i64 1, .int .i64 (wrap64 (a.n - b.n))], .int .i64 0]) (by simp [results, Tryz.results114, go_sem]) rfl ⟨?_, by repeat (first | exact Below.refl _ _ | refine Below.alloc ?_ (by first | omega | (simp; done) | (simp; omega)) _)⟩
  rw [HT.out]
  first | rfl | (simp only [w64_eq]; rfl)

set_option maxRecDepth 100000 in
set_option maxHeartbeats 2000000 in
theorem two_op6 (a b : V) (w : World) (ha : a.k = 1) (hb : b.k = 1) : Calls Tryz.prog 114 #[.int .i64 6, .agg #[.int .i64 a.k, .int .i64 a.n], .agg #[.int .i64 b.k, .int .i64 b.n]] w fun e w' => e = .returned (twoV (twoP 6 a b)) ∧ Below w.heap.size w w' := by
  have e1 : (a.k != 1) = false := by simpa using ha
  have e2 : (b.k != 1) = false := by simpa using hb
  have HT : Hid (twoP 6 a b = (vnum (w64 (a.n * b.n)), 0)) := by simp [Hid, twoP, ha, hb]
  clear ha hb
  go_enter Tryz.func114, Tryz.ntmps114
  go_wp2_with (go_at_call 112; refine (number_any _ _).mono ?_; rintro e w' ⟨rfl, rfl⟩)
  refine bodyPost_ret (v := .tuple #[.agg #[.int .i64 1, .int .i64 (wrap64 (a.n * b.n))], .int .i64 0]) (by simp [results, Tryz.results114, go_sem]) rfl ⟨?_, by repeat (first | exact Below.refl _ _ | refine Below.alloc ?_ (by first | omega | (simp; done) | (simp; omega)) _)⟩
  rw [HT.out]
  first | rfl | (simp only [w64_eq]; rfl)

set_option maxRecDepth 100000 in
set_option maxHeartbeats 2000000 in
theorem two_op8 (a b : V) (w : World) (ha : a.k = 1) (hb : b.k = 1) : Calls Tryz.prog 114 #[.int .i64 8, .agg #[.int .i64 a.k, .int .i64 a.n], .agg #[.int .i64 b.k, .int .i64 b.n]] w fun e w' => e = .returned (twoV (twoP 8 a b)) ∧ Below w.heap.size w w' := by
  have e1 : (a.k != 1) = false := by simpa using ha
  have e2 : (b.k != 1) = false := by simpa using hb
  by_cases hl : a.n < b.n
  · have HT : Hid (twoP 8 a b = (vnum 1, 0)) := by simp [Hid, twoP, ha, hb, hl]
    clear ha hb
    go_enter Tryz.func114, Tryz.ntmps114
    go_wp2_with (go_at_call 112; refine (number_any _ _).mono ?_; rintro e w' ⟨rfl, rfl⟩)
    refine bodyPost_ret (v := .tuple #[.agg #[.int .i64 1, .int .i64 (1)], .int .i64 0]) (by simp [results, Tryz.results114, go_sem]) rfl ⟨?_, by repeat (first | exact Below.refl _ _ | refine Below.alloc ?_ (by first | omega | (simp; done) | (simp; omega)) _)⟩
    rw [HT.out]
    first | rfl | (simp only [w64_eq]; rfl)
  · have HT : Hid (twoP 8 a b = (vnum 0, 0)) := by simp [Hid, twoP, ha, hb, hl]
    clear ha hb
    go_enter Tryz.func114, Tryz.ntmps114
    go_wp2_with (go_at_call 112; refine (number_any _ _).mono ?_; rintro e w' ⟨rfl, rfl⟩)
    refine bodyPost_ret (v := .tuple #[.agg #[.int .i64 1, .int .i64 (0)], .int .i64 0]) (by simp [results, Tryz.results114, go_sem]) rfl ⟨?_, by repeat (first | exact Below.refl _ _ | refine Below.alloc ?_ (by first | omega | (simp; done) | (simp; omega)) _)⟩
    rw [HT.out]
    first | rfl | (simp only [w64_eq]; rfl)

set_option maxRecDepth 100000 in
set_option maxHeartbeats 2000000 in
theorem two_op7 (a b : V) (w : World) (ha : a.k = 1) (hb : b.k = 1) : Calls Tryz.prog 114 #[.int .i64 7, .agg #[.int .i64 a.k, .int .i64 a.n], .agg #[.int .i64 b.k, .int .i64 b.n]] w fun e w' => e = .returned (twoV (twoP 7 a b)) ∧ Below w.heap.size w w' := by
  have e1 : (a.k != 1) = false := by simpa using ha
  have e2 : (b.k != 1) = false := by simpa using hb
  by_cases h0 : b.n = 0
  · have HT : Hid (twoP 7 a b = (vnil, 4)) := by simp [Hid, twoP, ha, hb, h0]
    have e3 : (b.n == 0) = true := by simpa using h0
    clear ha hb h0
    go_enter Tryz.func114, Tryz.ntmps114
    go_wp2_with (go_at_call 112; refine (number_any _ _).mono ?_; rintro e w' ⟨rfl, rfl⟩)
    refine bodyPost_ret (v := .tuple #[.agg #[.int .i64 0, .int .i64 (0)], .int .i64 4]) (by simp [results, Tryz.results114, go_sem]) rfl ⟨?_, by repeat (first | exact Below.refl _ _ | refine Below.alloc ?_ (by first | omega | (simp; done) | (simp; omega)) _)⟩
    rw [HT.out]
    first | rfl | (simp only [w64_eq]; rfl)
  · have HT : Hid (twoP 7 a b = (vnum (w64 (a.n.tdiv b.n)), 0)) := by simp [Hid, twoP, ha, hb, h0]
    have e3 : (b.n == 0) = false := by simpa using h0
    by_cases h1 : b.n = -1
    · have e4 : (b.n == -1) = true := by simpa using h1
      have HT2 : Hid (twoP 7 a b = (vnum (w64 (-a.n)), 0)) := by unfold Hid; rw [HT.out, h1, Int.tdiv_neg, Int.tdiv_one]
      clear HT ha hb h0 h1
      have HT := HT2
      clear HT2
      go_enter Tryz.func114, Tryz.ntmps114
      go_wp2_with (go_at_call 112; refine (number_any _ _).mono ?_; rintro e w' ⟨rfl, rfl⟩)
      refine bodyPost_ret (v := .tuple #[.agg #[.int .i64 1, .int .i64 (wrap64 (-a.n))], .int .i64 0]) (by simp [results, Tryz.results114, go_sem]) rfl ⟨?_, by repeat (first | exact Below.refl _ _ | refine Below.alloc ?_ (by first | omega | (simp; done) | (simp; omega)) _)⟩
      rw [HT.out]
      first | rfl | (simp only [w64_eq]; rfl)
    · have e4 : (b.n == -1) = false := by simpa using h1
      clear ha hb h1
      go_enter Tryz.func114, Tryz.ntmps114
      go_wp2_with (go_at_call 112; refine (number_any _ _).mono ?_; rintro e w' ⟨rfl, rfl⟩)
      refine bodyPost_ret (v := .tuple #[.agg #[.int .i64 1, .int .i64 (wrap64 (a.n.tdiv b.n))], .int .i64 0]) (by simp [results, Tryz.results114, go_sem]) rfl ⟨?_, by repeat (first | exact Below.refl _ _ | refine Below.alloc ?_ (by first | omega | (simp; done) | (simp; omega)) _)⟩
      rw [HT.out]
      first | rfl | (simp only [w64_eq]; rfl)

theorem two_any (op : Int) (a b : V) (w : World) (ho : op = 4 ∨ op = 5 ∨ op = 6 ∨ op = 7 ∨ op = 8 ∨ op = 9) : Calls Tryz.prog 114 #[.int .i64 op, .agg #[.int .i64 a.k, .int .i64 a.n], .agg #[.int .i64 b.k, .int .i64 b.n]] w fun e w' => e = .returned (twoV (twoP op a b)) ∧ Below w.heap.size w w' := by
  by_cases h9 : op = 9
  · subst h9; exact two_equal a b w
  · by_cases hk : a.k ≠ 1 ∨ b.k ≠ 1
    · exact two_type op a b w h9 hk
    · have ha : a.k = 1 := by omega
      have hb : b.k = 1 := by omega
      rcases ho with rfl | rfl | rfl | rfl | rfl | rfl
      · exact two_op4 a b w ha hb
      · exact two_op5 a b w ha hb
      · exact two_op6 a b w ha hb
      · exact two_op7 a b w ha hb
      · exact two_op8 a b w ha hb
      · exact two_equal a b w

end Go.Proofs.YtkafkipjedpohaaGreatDoor

/-
  upshiftref's where, cells.
-/
namespace Go.Proofs.YtkafkipjedpohaaGreatDoor
open Go.RowKit

theorem Row.any {w : World} {B : Nat} {tag : Nat → Nat} {c : Nat} {e : TypeId} {sz : Nat} {v : Value} {n : Nat} {f : Nat → Value} (h : Row w B tag c e sz v n f) : ∃ p cap, v = .slice p n cap ∧ n ≤ cap := by
  rcases h with ⟨h, h2⟩ | ⟨b, cap, cur, hv, hb, ht, hh, hc, _⟩
  · exact ⟨none, 0, by rw [h, h2], by omega⟩
  · exact ⟨_, cap, hv, hc⟩

set_option maxRecDepth 100000 in
set_option maxHeartbeats 2000000 in
theorem where_any (w : World) (B rb : Nat) (tag : Nat → Nat) (pv fv av ov hv : Value) (LV SV AV : Nat → Value) (s : Mc) (a i : V) (hL : Lay w B rb tag pv fv av ov hv LV SV AV s) (ha : a.k = 2 → 0 ≤ a.n ∧ a.n < s.arr.length) (hm : s.arr.length ≤ 200000) :
    Calls Tryz.prog 124 #[.pointer (some ⟨rb, 0, none⟩), .agg #[.int .i64 a.k, .int .i64 a.n], .agg #[.int .i64 i.k, .int .i64 i.n]] w fun e w' => e = .returned (.int .i64 (whereP s.arr a i)) ∧ Below w.heap.size w w' := by
  have hrb := hL.lt
  by_cases h1 : a.k = 2
  · have e1 : (a.k != 2) = false := by simpa using h1
    by_cases h2 : i.k = 1
    · have e2 : (i.k != 1) = false := by simpa using h2
      obtain ⟨a0, a1⟩ := ha h1
      obtain ⟨j, hj⟩ := Int.eq_ofNat_of_zero_le a0
      rw [hj] at a1
      have har := hL.ar
      obtain ⟨ab, acap, rfl, hab, habz, _, hac⟩ := har.form (by omega)
      have r2 : w.cell? ⟨rb, 2, none⟩ = some (.slice (some ⟨ab, 0, none⟩) s.arr.length acap) := hL.cell 2
      have c0 := har.cell (i := j) (by omega)
      obtain ⟨p, cp, hv, hcp⟩ := (hL.arr j (by omega)).any
      rw [hv] at c0
      have hw : whereP s.arr a i = if i.n < 0 ∨ ((s.arr.getD j []).length : Int) ≤ i.n then 5 else 0 := by
        unfold whereP
        rw [if_neg (by omega), hj, Int.toNat_natCast]
      have HW := hid hw
      have j1 : (j : Int) < (s.arr.length : Int) := by omega
      rw [hj]
      clear hL har hw ha h1 h2 hj a0 hv
      generalize s.arr.length = na at *
      generalize (s.arr.getD j []).length = ln at *
      by_cases h3 : i.n < 0
      · rw [if_pos (Or.inl h3)] at HW
        go_enter Tryz.func124, Tryz.ntmps124
        go_wp2
        go_quiet (fail)
        go_wp2
        go_ret
        rw [HW.out]
        exact ⟨rfl, below_drewN (((Below.refl _ _).alloc (Nat.le_refl _) _).alloc (by simp) _) _⟩
      · have e3 : decide (i.n < 0) = false := by simpa using h3
        by_cases h4 : (ln : Int) ≤ i.n
        · rw [if_pos (Or.inr h4)] at HW
          go_enter Tryz.func124, Tryz.ntmps124
          go_wp2
          go_quiet (fail)
          go_wp2
          go_ret
          rw [HW.out]
          exact ⟨rfl, below_drewN (((Below.refl _ _).alloc (Nat.le_refl _) _).alloc (by simp) _) _⟩
        · rw [if_neg (by omega)] at HW
          go_enter Tryz.func124, Tryz.ntmps124
          go_wp2
          go_quiet (fail)
          go_wp2
          go_ret
          rw [HW.out]
          exact ⟨rfl, below_drewN (((Below.refl _ _).alloc (Nat.le_refl _) _).alloc (by simp) _) _⟩
    · have e2 : (i.k != 1) = true := by simpa using h2
      have hw : whereP s.arr a i = 3 := by unfold whereP; rw [if_pos (Or.inr h2)]
      have HW := hid hw
      clear hL hw ha h1 h2
      go_enter Tryz.func124, Tryz.ntmps124
      go_wp2
      go_ret
      rw [HW.out]
      exact ⟨rfl, ((Below.refl _ _).alloc (Nat.le_refl _) _).alloc (by simp) _⟩
  · have e1 : (a.k != 2) = true := by simpa using h1
    have hw : whereP s.arr a i = 3 := by unfold whereP; rw [if_pos (Or.inl h1)]
    have HW := hid hw
    clear hL hw ha h1
    go_enter Tryz.func124, Tryz.ntmps124
    go_wp2
    go_ret
    rw [HW.out]
    exact ⟨rfl, ((Below.refl _ _).alloc (Nat.le_refl _) _).alloc (by simp) _⟩

theorem cells_take (arr : List (List V)) (k : Nat) (hk : k < arr.length) : cellsP (arr.take (k + 1)) = cellsP (arr.take k) + (arr.getD k []).length := by
  rw [List.take_succ_eq_append_getElem hk, cells_append, List.getD_eq_getElem?_getD, List.getElem?_eq_getElem hk]
  rfl
theorem cells_nonneg (arr : List (List V)) : 0 ≤ cellsP arr := by
  induction arr with
  | nil => simp [cellsP]
  | cons a r ih => simp only [cellsP, List.map_cons, List.sum_cons] at ih ⊢; omega
theorem cells_le (arr : List (List V)) (k : Nat) : cellsP (arr.take k) ≤ cellsP arr := by
  have h : cellsP arr = cellsP (arr.take k) + cellsP (arr.drop k) := by
    unfold cellsP
    rw [← List.sum_append, ← List.map_append, List.take_append_drop]
  have := cells_nonneg (arr.drop k)
  omega

set_option maxRecDepth 100000 in
set_option maxHeartbeats 2000000 in
theorem cells_any (w : World) (B rb : Nat) (tag : Nat → Nat) (pv fv av ov hv : Value) (LV SV AV : Nat → Value) (s : Mc) (hL : Lay w B rb tag pv fv av ov hv LV SV AV s) (hc : cellsP s.arr ≤ 200) (hm : s.arr.length ≤ 200000) :
    Calls Tryz.prog 123 #[.pointer (some ⟨rb, 0, none⟩)] w fun e w' => e = .returned (.int .i64 (cellsP s.arr)) ∧ w' = w := by
  have har := hL.ar
  obtain ⟨pa, acap, rfl, _⟩ := har.any
  have r2 : w.cell? ⟨rb, 2, none⟩ = some (.slice pa s.arr.length acap) := hL.cell 2
  have HL := hid (And.intro hL har)
  clear hL har
  go_enter Tryz.func123, Tryz.ntmps123
  go_wp2
  go_loop [3, 4] (fun t i => ∃ k : Nat, k ≤ s.arr.length ∧ i = .int .i64 k ∧ t = .int .i64 (cellsP (s.arr.take k))) (fun _ i => s.arr.length - (intOf i).toNat)
  case atStart => exact ⟨0, Nat.zero_le _, rfl, by simp [cellsP]⟩
  case round =>
    obtain ⟨k, hk, rfl, rfl⟩ := hrel
    by_cases hlt : k < s.arr.length
    · obtain ⟨ab, acap', hav, _, _, _, _⟩ := HL.out.2.form (by omega)
      injection hav with e1 e2 e3
      subst e1
      subst e3
      have c0 := HL.out.2.cell (i := k) (by omega)
      obtain ⟨p, cp, hv, hcp⟩ := (HL.out.1.arr k hlt).any
      rw [hv] at c0
      have h1 := cells_take s.arr k hlt
      have h2 := cells_le s.arr (k + 1)
      have h3 := cells_nonneg (s.arr.take k)
      have HT := hid h1
      have hb : cellsP (s.arr.take k) + (s.arr.getD k []).length ≤ 200 := by omega
      clear h1 h2 hv e2
      generalize (s.arr.getD k []).length = ln at *
      go_wp2
      go_round
      case rel => exact ⟨k + 1, by omega, by go_num, by rw [HT.out]⟩
      case measure => simp [intOf]; omega
    · obtain rfl : k = s.arr.length := by omega
      go_wp2
      go_ret
      exact ⟨rfl, rfl⟩
end Go.Proofs.YtkafkipjedpohaaGreatDoor

/-
  A run of upshiftref in memory: its addresses in one bundle; upshiftref's arrays: Len, Get.
-/
namespace Go.Proofs.YtkafkipjedpohaaGreatDoor
open Go.RowKit

/-- Where a run lies. -/
structure Ad where
  tag : Nat → Nat
  pv : Value
  fv : Value
  av : Value
  ov : Value
  hv : Value
  LV : Nat → Value
  SV : Nat → Value
  AV : Nat → Value

def LayA (w : World) (B rb : Nat) (A : Ad) (s : Mc) : Prop := Lay w B rb A.tag A.pv A.fv A.av A.ov A.hv A.LV A.SV A.AV s

theorem Row.below {w w' : World} {B : Nat} {tag : Nat → Nat} {c : Nat} {e : TypeId} {sz : Nat} {v : Value} {n : Nat} {f : Nat → Value} (h : Row w B tag c e sz v n f) (k : Below w.heap.size w w') : Row w' B tag c e sz v n f :=
  h.keep (Ch.of_below (p := fun _ => False) k) (fun h => h)
theorem Row.retag {w : World} {B : Nat} {tag tag' : Nat → Nat} {c : Nat} {e : TypeId} {sz : Nat} {v : Value} {n : Nat} {f : Nat → Value} (h : Row w B tag c e sz v n f) (k : ∀ b, b < w.heap.size → tag' b = tag b) : Row w B tag' c e sz v n f := by
  rcases h with h | ⟨b, cap, cur, hv, hb, ht, hh, hc⟩
  · exact Or.inl h
  · exact Or.inr ⟨b, cap, cur, hv, hb, (k b (Array.getElem?_eq_some_iff.1 hh).1).trans ht, hh, hc⟩

theorem LayA.below {w w' : World} {B rb : Nat} {A : Ad} {s : Mc} (h : LayA w B rb A s) (k : Below w.heap.size w w') : LayA w' B rb A s :=
  ⟨(k.block rb (Lay.lt h)).trans h.run, h.own, h.fr.below k, h.ar.below k, h.out.below k, h.hi.below k, fun i hi => (h.loc i hi).below k, fun i hi => (h.stk i hi).below k, fun j hj => (h.arr j hj).below k⟩
theorem LayA.retag {w : World} {B rb : Nat} {A : Ad} {s : Mc} (h : LayA w B rb A s) {tag' : Nat → Nat} (k : ∀ b, b < w.heap.size → tag' b = A.tag b) : LayA w B rb { A with tag := tag' } s :=
  ⟨h.run, ⟨h.own.1, (k rb (Lay.lt h)).trans h.own.2⟩, h.fr.retag k, h.ar.retag k, h.out.retag k, h.hi.retag k, fun i hi => (h.loc i hi).retag k, fun i hi => (h.stk i hi).retag k, fun j hj => (h.arr j hj).retag k⟩
/-- A box of one's own: its block bears the tag 5. -/
theorem LayA.box {w : World} {B rb : Nat} {A : Ad} {s : Mc} (h : LayA w B rb A s) (o : Obj) : LayA (w.alloc o) B rb { A with tag := upd A.tag w.heap.size 5 } s :=
  (h.retag (tag' := upd A.tag w.heap.size 5) (fun b hb => upd_other _ _ _ _ (by omega))).below ((Below.refl _ _).alloc (Nat.le_refl _) o)

/-- All but boxes may turn. -/
def Five : Nat → Prop := fun c => c ≠ 5

theorem Ch.cell {B : Nat} {p : Nat → Prop} {t1 t2 : Nat → Nat} {u w : World} (h : Ch B p t1 t2 u w) {a : Addr} (ha : a.block < u.heap.size) (hp : ¬ p (t1 a.block)) : w.cell? a = u.cell? a := World.cell?_of_block (h.block a.block ha (Or.inr hp))
theorem Ch.of_tags {B : Nat} {p : Nat → Prop} {t1 t2 : Nat → Nat} {u w : World} (h : Below u.heap.size u w) (ht : ∀ b, b < u.heap.size → t2 b = t1 b) : Ch B p t1 t2 u w :=
  ⟨h.os, h.tape, h.output, h.size, fun b hb _ => h.block b hb, ht⟩

theorem push_A (w : World) (B rb : Nat) (A : Ad) (s : Mc) (f : Fr) (rest : List Fr) (v : V) (hL : LayA w B rb A s) (hs : s.fr = f :: rest) (hB : B ≤ w.heap.size) (hn : f.stk.length ≤ 64) (hr : rest.length ≤ 64) :
    Calls Tryz.prog 111 #[.pointer (some ⟨rb, 0, none⟩), .agg #[.int .i64 v.k, .int .i64 v.n]] w fun e w' => e = .returned (.tuple #[]) ∧
      ∃ A', LayA w' B rb A' { s with fr := { f with stk := v :: f.stk } :: rest } ∧ A'.pv = A.pv ∧ A'.fv = A.fv ∧ A'.av = A.av ∧ A'.AV = A.AV ∧ A'.LV = A.LV ∧ Ch B (fun c => c = 1 ∨ c = 11 + 3 * rest.length) A.tag A'.tag w w' := by
  refine (push_any w B rb A.tag A.pv A.fv A.av A.ov A.hv A.LV A.SV A.AV s f rest v hL hs hB hn hr).mono ?_
  rintro e w' ⟨rfl, tag', sv, h1, h2⟩
  exact ⟨rfl, { A with tag := tag', SV := upd A.SV rest.length sv }, h1, rfl, rfl, rfl, rfl, rfl, h2⟩

theorem pop_A (w : World) (B rb : Nat) (A : Ad) (s : Mc) (f : Fr) (rest : List Fr) (v : V) (st : List V) (hL : LayA w B rb A s) (hs : s.fr = f :: rest) (hst : f.stk = v :: st) (hB : B ≤ w.heap.size) (hn : st.length ≤ 64) (hr : rest.length ≤ 64) :
    Calls Tryz.prog 98 #[.pointer (some ⟨rb, 0, none⟩)] w fun e w' => e = .returned (.agg #[.int .i64 v.k, .int .i64 v.n]) ∧
      ∃ A', LayA w' B rb A' { s with fr := { f with stk := st } :: rest } ∧ A'.pv = A.pv ∧ A'.fv = A.fv ∧ A'.av = A.av ∧ A'.AV = A.AV ∧ A'.LV = A.LV ∧ Ch B (fun c => c = 1 ∨ c = 11 + 3 * rest.length) A.tag A'.tag w w' := by
  refine (pop_any w B rb A.tag A.pv A.fv A.av A.ov A.hv A.LV A.SV A.AV s f rest v st hL hs hst hB hn hr).mono ?_
  rintro e w' ⟨rfl, tag', sv, h1, h2⟩
  exact ⟨rfl, { A with tag := tag', SV := upd A.SV rest.length sv }, h1, rfl, rfl, rfl, rfl, rfl, h2⟩

theorem five_stack {k : Nat} : ∀ c, (c = 1 ∨ c = 11 + 3 * k) → Five c := by
  intro c h e
  omega

/-- What upshiftref's calls leave of a run. -/
def After (w w' : World) (B rb : Nat) (A : Ad) (s' : Mc) : Prop := ∃ A', LayA w' B rb A' s' ∧ A'.pv = A.pv ∧ A'.fv = A.fv ∧ Ch B Five A.tag A'.tag w w'

set_option maxRecDepth 100000 in
set_option maxHeartbeats 2000000 in
theorem arrays_len (w : World) (B rb : Nat) (A : Ad) (s : Mc) (f : Fr) (rest : List Fr) (x : V) (st : List V) (hL : LayA w B rb A s) (hs : s.fr = f :: rest) (hst : f.stk = x :: st) (hx : x.k = 2 → 0 ≤ x.n ∧ x.n < s.arr.length) (hB : B ≤ w.heap.size) (hn : st.length ≤ 60) (hr : rest.length ≤ 60) (hm : s.arr.length ≤ 200000) :
    Calls Tryz.prog 113 #[.pointer (some ⟨rb, 0, none⟩), .int .i64 18] w fun e w' =>
      (x.k ≠ 2 → e = .returned (.int .i64 3) ∧ After w w' B rb A { s with fr := { f with stk := st } :: rest }) ∧
      (x.k = 2 → e = .returned (.int .i64 0) ∧ After w w' B rb A { s with fr := { f with stk := vnum ((s.arr.getD x.n.toNat []).length : Int) :: st } :: rest }) := by
  have hcon := pop_A w B rb A s f rest x st hL hs hst hB (by omega) (by omega)
  have HC := hid hcon
  clear hcon
  go_enter Tryz.func113, Tryz.ntmps113
  go_wp2_with fail
  refine HC.out.mono ?_
  rintro e w1 ⟨rfl, A1, h1, p1, f1, a1, v1, l1, ch1⟩
  have hB1 : B ≤ w1.heap.size := by have := ch1.size; omega
  by_cases hk : x.k = 2
  · have e1 : (x.k != 2) = false := by simpa using hk
    have HK := hid hk
    obtain ⟨x0, x1⟩ := hx hk
    have hjl : x.n.toNat < s.arr.length := by omega
    have h2 := LayA.box h1 (.cells #[.int .i64 x.k, .int .i64 x.n] 43)
    have har := h1.ar
    obtain ⟨ab, acap, hav, hab, habz, hatag, hac⟩ := har.form (by show 1 ≤ s.arr.length; omega)
    rw [hav] at har
    have c0 := har.cell (i := x.n.toNat) (by show x.n.toNat < s.arr.length * 1; omega)
    obtain ⟨p, cp, hvv, hcp⟩ := (h1.arr x.n.toNat hjl).any
    rw [hvv] at c0
    have r2 : w1.cell? ⟨rb, 2, none⟩ = some (.slice (some ⟨ab, 0, none⟩) s.arr.length acap) := by rw [Lay.cell h1 2]; show some A1.av = _; rw [hav]
    have hrb := Lay.lt h1
    have hown := h1.own.2
    have hbb : Below w1.heap.size w1 (w1.alloc (.cells #[.int .i64 x.k, .int .i64 x.n] 43)) := (Below.refl _ _).alloc (Nat.le_refl _) _
    have d0 := (hbb.cell (p := ⟨ab, x.n.toNat, none⟩) habz).trans c0
    have d2 := (hbb.cell (p := ⟨rb, 2, none⟩) hrb).trans r2
    have b0 : (w1.alloc (.cells #[.int .i64 x.k, .int .i64 x.n] 43)).cell? ⟨w1.heap.size, 0, none⟩ = some (.int .i64 x.k) := cell_new w1 _ _ _ _ rfl
    have b1 : (w1.alloc (.cells #[.int .i64 x.k, .int .i64 x.n] 43)).cell? ⟨w1.heap.size, 1, none⟩ = some (.int .i64 x.n) := cell_new w1 _ _ _ _ rfl
    have hsz2 : (w1.alloc (.cells #[.int .i64 x.k, .int .i64 x.n] 43)).heap.size = w1.heap.size + 1 := by simp
    have hpush : ∀ X, Below (w1.alloc (.cells #[.int .i64 x.k, .int .i64 x.n] 43)).heap.size (w1.alloc (.cells #[.int .i64 x.k, .int .i64 x.n] 43)) X →
        Calls Tryz.prog 111 #[.pointer (some ⟨rb, 0, none⟩), .agg #[.int .i64 1, .int .i64 ((s.arr.getD x.n.toNat []).length : Int)]] X fun e w' => e = .returned (.tuple #[]) ∧
          ∃ A', LayA w' B rb A' { s with fr := { f with stk := vnum ((s.arr.getD x.n.toNat []).length : Int) :: st } :: rest } ∧ A'.pv = A1.pv ∧ A'.fv = A1.fv ∧ A'.av = A1.av ∧ A'.AV = A1.AV ∧ A'.LV = A1.LV ∧ Ch B (fun c => c = 1 ∨ c = 11 + 3 * rest.length) (upd A1.tag w1.heap.size 5) A'.tag (w1.alloc (.cells #[.int .i64 x.k, .int .i64 x.n] 43)) w' :=
      fun X hX => by
        refine (push_A X B rb { A1 with tag := upd A1.tag w1.heap.size 5 } { s with fr := { f with stk := st } :: rest } { f with stk := st } rest (vnum ((s.arr.getD x.n.toNat []).length : Int)) (LayA.below h2 hX) rfl (by have := hX.size; omega) (by show st.length ≤ 64; omega) (by omega)).mono ?_
        rintro e w' ⟨rfl, A', g1, g2, g3, g4, g5, g6, g7⟩
        exact ⟨rfl, A', g1, g2, g3, g4, g5, g6, (Ch.of_below hX).trans g7⟩
    have HP := hid hpush
    have HS := hid hsz2
    have hchA : Ch B Five A.tag (upd A1.tag w1.heap.size 5) w (w1.alloc (.cells #[.int .i64 x.k, .int .i64 x.n] 43)) :=
      (ch1.mono five_stack).trans (Ch.of_tags hbb (fun b hb => upd_other _ _ _ _ (by omega)))
    have HA := hid (And.intro hchA (And.intro p1 f1))
    have t1 : upd A1.tag w1.heap.size 5 ab = 2 := by rw [upd_other _ _ _ _ (by omega)]; exact hatag
    have t2 : upd A1.tag w1.heap.size 5 rb = 0 := by rw [upd_other _ _ _ _ (by omega)]; exact hown
    have t3 : upd A1.tag w1.heap.size 5 w1.heap.size = 5 := upd_same _ _ _
    have HT := hid (And.intro t1 (And.intro t2 t3))
    have hj1 : x.n < (s.arr.length : Int) := by omega
    clear h1 h2 har hpush hsz2 hchA hav hvv c0 r2 ch1 HC hL hst hs hx hbb x1 hk t1 t2 t3 hown hatag
    have hab2 : ab < (w1.alloc (.cells #[.int .i64 x.k, .int .i64 x.n] 43)).heap.size := by rw [HS.out]; omega
    have hrb2 : rb < (w1.alloc (.cells #[.int .i64 x.k, .int .i64 x.n] 43)).heap.size := by rw [HS.out]; omega
    have hbx2 : w1.heap.size < (w1.alloc (.cells #[.int .i64 x.k, .int .i64 x.n] 43)).heap.size := by rw [HS.out]; omega
    generalize hln : (s.arr.getD x.n.toNat []).length = ln at *
    have Hln := hid hln
    clear hln
    generalize s.arr.length = na at *
    go_wp2
    generalize w1.alloc (.cells #[.int .i64 x.k, .int .i64 x.n] 43) = W at *
    generalize hbx : w1.heap.size = bx at *
    clear hbx
    go_region_held3 (fun w' => w'.cell? ⟨rb, 2, none⟩ = some (.slice (some ⟨ab, 0, none⟩) na acap) ∧ w'.cell? ⟨ab, x.n.toNat, none⟩ = some (.slice p ln cp) ∧ w'.cell? ⟨bx, 0, none⟩ = some (.int .i64 x.k) ∧ w'.cell? ⟨bx, 1, none⟩ = some (.int .i64 x.n)) (go_keep)
      (first | (go_at_call 112; refine (number_any _ _).mono ?_; rintro e w' ⟨rfl, rfl⟩) | (go_at_call 111; refine (HP.out _ ?_).mono ?_; exact (by repeat (first | exact Below.refl _ _ | refine Below.drew ?_ | refine Below.alloc ?_ (by first | omega | (simp; done) | (simp; omega)) _)); rintro e w5 ⟨rfl, A5, h5, p5, f5, a5, v5, l5, ch5⟩; have q0 := (ch5.cell (a := ⟨rb, 2, none⟩) hrb2 (by show ¬ (_ ∨ _); rw [HT.out.2.1]; omega)).trans d2; have q1 := (ch5.cell (a := ⟨ab, x.n.toNat, none⟩) hab2 (by show ¬ (_ ∨ _); rw [HT.out.1]; omega)).trans d0; have q2 := (ch5.cell (a := ⟨bx, 0, none⟩) hbx2 (by show ¬ (_ ∨ _); rw [HT.out.2.2]; omega)).trans b0; have q3 := (ch5.cell (a := ⟨bx, 1, none⟩) hbx2 (by show ¬ (_ ∨ _); rw [HT.out.2.2]; omega)).trans b1))
    rename_i hheld
    have hfin : After w w5 B rb A { s with fr := { f with stk := vnum (ln : Int) :: st } :: rest } :=
      ⟨A5, h5, p5.trans HA.out.2.1, f5.trans HA.out.2.2, HA.out.1.trans (ch5.mono five_stack)⟩
    have HQ := hid hfin
    clear hheld hfin q0 q1 q2 q3 ch5 h5
    go_wp2
    go_ret
    refine ⟨fun h => absurd HK.out h, fun _ => ⟨rfl, ?_⟩⟩
    rw [Hln.out]
    exact HQ.out
  · have e1 : (x.k != 2) = true := by simpa using hk
    have HQ : Hid (After w (w1.alloc (.cells #[.int .i64 x.k, .int .i64 x.n] 43)) B rb A { s with fr := { f with stk := st } :: rest }) :=
      ⟨A1, LayA.below h1 ((Below.refl _ _).alloc (Nat.le_refl _) _), p1, f1, (ch1.mono five_stack).alloc _⟩
    have HK := hid hk
    clear hk h1 ch1 HC hL hst hs hx
    go_wp2
    go_ret
    exact ⟨fun _ => ⟨rfl, HQ.out⟩, fun h => absurd h HK.out⟩
end Go.Proofs.YtkafkipjedpohaaGreatDoor
