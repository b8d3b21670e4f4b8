/-
  upshiftref's where, cells.
-/
import Derived.Test.YtnhjjjijeeobbaaDoorR4
namespace Go.Proofs.YtnhjjjijeeobbaaDoor
open Go.RowKit

theorem Row.any {w : World} {B : Nat} {tag : Nat → Nat} {c : Nat} {e : TypeId} {sz : Nat} {v : Value} {n : Nat} {f : Nat → Value} (h : Row w B tag c e sz v n f) : ∃ p cap, v = .slice p n cap ∧ n ≤ cap := by
  rcases h with ⟨h, h2⟩ | ⟨b, cap, cur, hv, hb, ht, hh, hc, _⟩
  · exact ⟨none, 0, by rw [h, h2], by omega⟩
  · exact ⟨_, cap, hv, hc⟩

set_option maxRecDepth 100000 in
set_option maxHeartbeats 2000000 in
theorem where_any (w : World) (B rb : Nat) (tag : Nat → Nat) (pv fv av ov hv : Value) (LV SV AV : Nat → Value) (s : Mc) (a i : V) (hL : Lay w B rb tag pv fv av ov hv LV SV AV s) (ha : a.k = 2 → 0 ≤ a.n ∧ a.n < s.arr.length) (hm : s.arr.length ≤ 200000) :
    Calls Tryd.prog 114 #[.pointer (some ⟨rb, 0, none⟩), .agg #[.int .i64 a.k, .int .i64 a.n], .agg #[.int .i64 i.k, .int .i64 i.n]] w fun e w' => e = .returned (.int .i64 (whereP s.arr a i)) ∧ Below w.heap.size w w' := by
  have hrb := hL.lt
  by_cases h1 : a.k = 2
  · have e1 : (a.k != 2) = false := by simpa using h1
    by_cases h2 : i.k = 1
    · have e2 : (i.k != 1) = false := by simpa using h2
      obtain ⟨a0, a1⟩ := ha h1
      obtain ⟨j, hj⟩ := Int.eq_ofNat_of_zero_le a0
      rw [hj] at a1
      have har := hL.ar
      obtain ⟨ab, acap, rfl, hab, habz, _, hac⟩ := har.form (by omega)
      have r2 : w.cell? ⟨rb, 2, none⟩ = some (.slice (some ⟨ab, 0, none⟩) s.arr.length acap) := hL.cell 2
      have c0 := har.cell (i := j) (by omega)
      obtain ⟨p, cp, hv, hcp⟩ := (hL.arr j (by omega)).any
      rw [hv] at c0
      have hw : whereP s.arr a i = if i.n < 0 ∨ ((s.arr.getD j []).length : Int) ≤ i.n then 5 else 0 := by
        unfold whereP
        rw [if_neg (by omega), hj, Int.toNat_natCast]
      have HW := hid hw
      have j1 : (j : Int) < (s.arr.length : Int) := by omega
      rw [hj]
      clear hL har hw ha h1 h2 hj a0 hv
      generalize s.arr.length = na at *
      generalize (s.arr.getD j []).length = ln at *
      by_cases h3 : i.n < 0
      · rw [if_pos (Or.inl h3)] at HW
        go_enter Tryd.func114, Tryd.ntmps114
        go_wp2
        go_quiet (fail)
        go_wp2
        go_ret
        rw [HW.out]
        exact ⟨rfl, below_drewN (((Below.refl _ _).alloc (Nat.le_refl _) _).alloc (by simp) _) _⟩
      · have e3 : decide (i.n < 0) = false := by simpa using h3
        by_cases h4 : (ln : Int) ≤ i.n
        · rw [if_pos (Or.inr h4)] at HW
          go_enter Tryd.func114, Tryd.ntmps114
          go_wp2
          go_quiet (fail)
          go_wp2
          go_ret
          rw [HW.out]
          exact ⟨rfl, below_drewN (((Below.refl _ _).alloc (Nat.le_refl _) _).alloc (by simp) _) _⟩
        · rw [if_neg (by omega)] at HW
          go_enter Tryd.func114, Tryd.ntmps114
          go_wp2
          go_quiet (fail)
          go_wp2
          go_ret
          rw [HW.out]
          exact ⟨rfl, below_drewN (((Below.refl _ _).alloc (Nat.le_refl _) _).alloc (by simp) _) _⟩
    · have e2 : (i.k != 1) = true := by simpa using h2
      have hw : whereP s.arr a i = 3 := by unfold whereP; rw [if_pos (Or.inr h2)]
      have HW := hid hw
      clear hL hw ha h1 h2
      go_enter Tryd.func114, Tryd.ntmps114
      go_wp2
      go_ret
      rw [HW.out]
      exact ⟨rfl, ((Below.refl _ _).alloc (Nat.le_refl _) _).alloc (by simp) _⟩
  · have e1 : (a.k != 2) = true := by simpa using h1
    have hw : whereP s.arr a i = 3 := by unfold whereP; rw [if_pos (Or.inl h1)]
    have HW := hid hw
    clear hL hw ha h1
    go_enter Tryd.func114, Tryd.ntmps114
    go_wp2
    go_ret
    rw [HW.out]
    exact ⟨rfl, ((Below.refl _ _).alloc (Nat.le_refl _) _).alloc (by simp) _⟩

theorem cells_take (arr : List (List V)) (k : Nat) (hk : k < arr.length) : cellsP (arr.take (k + 1)) = cellsP (arr.take k) + (arr.getD k []).length := by
  rw [List.take_succ_eq_append_getElem hk, cells_append, List.getD_eq_getElem?_getD, List.getElem?_eq_getElem hk]
  rfl
theorem cells_nonneg (arr : List (List V)) : 0 ≤ cellsP arr := by
  induction arr with
  | nil => simp [cellsP]
  | cons a r ih => simp only [cellsP, List.map_cons, List.sum_cons] at ih ⊢; omega
theorem cells_le (arr : List (List V)) (k : Nat) : cellsP (arr.take k) ≤ cellsP arr := by
  have h : cellsP arr = cellsP (arr.take k) + cellsP (arr.drop k) := by
    unfold cellsP
    rw [← List.sum_append, ← List.map_append, List.take_append_drop]
  have := cells_nonneg (arr.drop k)
  omega

set_option maxRecDepth 100000 in
set_option maxHeartbeats 2000000 in
theorem cells_any (w : World) (B rb : Nat) (tag : Nat → Nat) (pv fv av ov hv : Value) (LV SV AV : Nat → Value) (s : Mc) (hL : Lay w B rb tag pv fv av ov hv LV SV AV s) (hc : cellsP s.arr ≤ 200) (hm : s.arr.length ≤ 200000) :
    Calls Tryd.prog 113 #[.pointer (some ⟨rb, 0, none⟩)] w fun e w' => e = .returned (.int .i64 (cellsP s.arr)) ∧ w' = w := by
  have har := hL.ar
  obtain ⟨pa, acap, rfl, _⟩ := har.any
  have r2 : w.cell? ⟨rb, 2, none⟩ = some (.slice pa s.arr.length acap) := hL.cell 2
  have HL := hid (And.intro hL har)
  clear hL har
  go_enter Tryd.func113, Tryd.ntmps113
  go_wp2
  go_loop [3, 4] (fun t i => ∃ k : Nat, k ≤ s.arr.length ∧ i = .int .i64 k ∧ t = .int .i64 (cellsP (s.arr.take k))) (fun _ i => s.arr.length - (intOf i).toNat)
  case atStart => exact ⟨0, Nat.zero_le _, rfl, by simp [cellsP]⟩
  case round =>
    obtain ⟨k, hk, rfl, rfl⟩ := hrel
    by_cases hlt : k < s.arr.length
    · obtain ⟨ab, acap', hav, _, _, _, _⟩ := HL.out.2.form (by omega)
      injection hav with e1 e2 e3
      subst e1
      subst e3
      have c0 := HL.out.2.cell (i := k) (by omega)
      obtain ⟨p, cp, hv, hcp⟩ := (HL.out.1.arr k hlt).any
      rw [hv] at c0
      have h1 := cells_take s.arr k hlt
      have h2 := cells_le s.arr (k + 1)
      have h3 := cells_nonneg (s.arr.take k)
      have HT := hid h1
      have hb : cellsP (s.arr.take k) + (s.arr.getD k []).length ≤ 200 := by omega
      clear h1 h2 hv e2
      generalize (s.arr.getD k []).length = ln at *
      go_wp2
      go_round
      case rel => exact ⟨k + 1, by omega, by go_num, by rw [HT.out]⟩
      case measure => simp [intOf]; omega
    · obtain rfl : k = s.arr.length := by omega
      go_wp2
      go_ret
      exact ⟨rfl, rfl⟩
end Go.Proofs.YtnhjjjijeeobbaaDoor
