import Derived.Test.YtkafkipjedpohaaGreatDoorV1
import Derived.Test.YtkafkipjedpohaaGreatDoorWd
import Derived.Test.YtkafkipjedpohaaGreatDoorK4
import Derived.Test.YtkafkipjedpohaaGreatDoorM5

/-
  check.Events.
-/
namespace Go.Proofs.YtkafkipjedpohaaGreatDoor
open Go.RowKit

/-- May this event be, in a program of m functions? -/
def mayP (m : Int) (e : Ev) : Bool := if e.k = 1 ∨ e.k = 2 then decide (0 ≤ e.n ∧ e.n ≤ m - 1) else decide (e.k = 3 ∨ e.k = 4)
/-- Events that rise, from a on, and may be. -/
def evsP (m : Int) : Int → List Ev → Bool
  | _, [] => true
  | a, e :: r => !(decide (e.st < a)) && mayP m e && evsP m e.st r
/-- What check.Events answers. -/
def eventsP (m : Int) (E : List Ev) : Int := if 200 < E.length then 5 else if evsP m 0 E = true then 0 else 5

theorem mayP_ok {m : Nat} {e : Ev} (h : mayP m e = true) (h0 : 0 ≤ e.st) : EvOk m e := by
  unfold mayP at h
  split at h
  · rename_i hk
    simp at h
    exact ⟨h0, by omega, fun _ => by omega⟩
  · rename_i hk
    simp at h
    exact ⟨h0, by omega, fun _ => by omega⟩
theorem evsP_ok {m : Nat} : ∀ {E : List Ev} {a : Int}, 0 ≤ a → evsP m a E = true → Rising a E ∧ ∀ e, e ∈ E → EvOk m e
  | [], _, _, _ => ⟨trivial, fun e he => by cases he⟩
  | e :: r, a, h0, h => by
    unfold evsP at h
    simp at h
    obtain ⟨⟨h1, h2⟩, h3⟩ := h
    obtain ⟨k1, k2⟩ := evsP_ok (by omega) h3
    refine ⟨⟨h1, k1⟩, fun x hx => ?_⟩
    rcases List.mem_cons.1 hx with rfl | hx
    · exact mayP_ok h2 (by omega)
    · exact k2 x hx

set_option maxHeartbeats 1000000 in
theorem mayBeM (e : Ev) (m : Int) (hm : 0 ≤ m ∧ m ≤ 1000) (w : World) :
    Calls Tryz.prog 66 #[.agg #[.int .i64 e.st, .int .i64 e.k, .int .i64 e.n], .int .i64 m] w fun r w' => r = .returned (.bool (mayP m e)) ∧ Below w.heap.size w w' := by
  obtain ⟨st, k, n⟩ := e
  have HB := hid (show Below w.heap.size w (w.alloc (.cells #[.int .i64 st, .int .i64 k, .int .i64 n] 65)) from (Below.refl _ _).alloc (Nat.le_refl _) _)
  have e1 : wrap64 (m - 1) = m - 1 := by unfold wrap64; omega
  unfold mayP
  dsimp only
  by_cases h1 : k = 1
  · subst h1
    go_enter Tryz.func66, Tryz.ntmps66
    go_wp2_with (go_at_call 48; refine (within_any _ _ _ _).mono ?_; rintro e w' ⟨rfl, rfl⟩)
    go_ret
    exact ⟨by simp, HB.out⟩
  by_cases h2 : k = 2
  · subst h2
    go_enter Tryz.func66, Tryz.ntmps66
    go_wp2_with (go_at_call 48; refine (within_any _ _ _ _).mono ?_; rintro e w' ⟨rfl, rfl⟩)
    go_ret
    exact ⟨by simp, HB.out⟩
  by_cases h3 : k = 3
  · subst h3
    go_enter Tryz.func66, Tryz.ntmps66
    go_wp2
    go_ret
    exact ⟨by simp, HB.out⟩
  by_cases h4 : k = 4
  · subst h4
    go_enter Tryz.func66, Tryz.ntmps66
    go_wp2
    go_ret
    exact ⟨by simp, HB.out⟩
  have b1 : (k == 1) = false := by simpa using h1
  have b2 : (k == 2) = false := by simpa using h2
  have b3 : (k == 3) = false := by simpa using h3
  have b4 : (k == 4) = false := by simpa using h4
  go_enter Tryz.func66, Tryz.ntmps66
  go_wp2
  go_ret
  exact ⟨by simp, HB.out⟩

set_option maxRecDepth 100000 in
set_option maxHeartbeats 1000000 in
theorem eventsM (w : World) (v : Value) (E : List Ev) (hE : EvV w w.heap.size v E) (m : Int) (hm : 0 ≤ m ∧ m ≤ 1000) :
    Calls Tryz.prog 44 #[v, .int .i64 m] w fun r w' => r = .returned (.int .i64 (eventsP m E)) ∧ Below w.heap.size w w' := by
  obtain ⟨p, c, rfl, hc, hcells⟩ := hE
  have HM := hid hm
  clear hm
  unfold eventsP
  by_cases h200 : 200 < E.length
  · rw [if_pos h200]
    have hd : decide ((200 : Int) < (E.length : Int)) = true := by simp; omega
    clear hcells
    generalize E.length = n at *
    go_enter Tryz.func44, Tryz.ntmps44
    go_wp2
    go_ret
    exact ⟨rfl, Below.refl _ _⟩
  · rw [if_neg h200]
    have hd : decide ((200 : Int) < (E.length : Int)) = false := by simp; omega
    have HC := hid hcells
    clear hcells
    obtain ⟨R, hR⟩ : ∃ R, R = (if evsP m 0 E = true then (0 : Int) else 5) := ⟨_, rfl⟩
    rw [← hR]
    have HR := hid hR
    clear hR
    go_enter Tryz.func44, Tryz.ntmps44
    go_wp2
    go_loopw [5, 13] (fun a v wr => ∃ (k : Nat) (x : Int), k ≤ E.length ∧ v = .int .i64 k ∧ a = .int .i64 x ∧ evsP m 0 E = evsP m x (E.drop k) ∧ Below w.heap.size w wr) (fun _ v _ => E.length - (intOf v).toNat)
    case atStart => exact ⟨0, 0, Nat.zero_le _, rfl, rfl, rfl, Below.refl _ _⟩
    case round =>
      obtain ⟨k, x, hk, rfl, rfl, hno, hB⟩ := hrel
      by_cases hlt : k < E.length
      · obtain ⟨eb, eo, rfl, heb, hcs⟩ := HC.out (by intro e; rw [e] at hlt; simp at hlt)
        obtain ⟨k0, k1, k2⟩ := hcs k hlt
        have hdr : E.drop k = E.getD k ⟨0, 0, 0⟩ :: E.drop (k + 1) := by
          rw [List.drop_eq_getElem_cons hlt, List.getD_eq_getElem?_getD, List.getElem?_eq_getElem hlt]
          rfl
        rw [hdr] at hno
        generalize E.getD k ⟨0, 0, 0⟩ = ev at *
        have y0 : wr.cell? ⟨eb, eo + k * 3, none⟩ = some (.int .i64 ev.st) := (hB.cell (p := ⟨eb, eo + k * 3, none⟩) heb).trans k0
        have y1 : wr.cell? ⟨eb, eo + k * 3 + 1, none⟩ = some (.int .i64 ev.k) := (hB.cell (p := ⟨eb, eo + k * 3 + 1, none⟩) heb).trans k1
        have y2 : wr.cell? ⟨eb, eo + k * 3 + 2, none⟩ = some (.int .i64 ev.n) := (hB.cell (p := ⟨eb, eo + k * 3 + 2, none⟩) heb).trans k2
        have hno' : evsP m 0 E = (!(decide (ev.st < x)) && mayP m ev && evsP m ev.st (E.drop (k + 1))) := hno
        have hsz := hB.size
        have HMB := hid (fun X => mayBeM ev m HM.out X)
        have HB1 := hid (show Below w.heap.size w (wr.alloc (.cells #[.int .i64 ev.st, .int .i64 ev.k, .int .i64 ev.n] 65)) from hB.alloc hsz _)
        have HB2 := hid (show ∀ X, Below (wr.alloc (.cells #[.int .i64 ev.st, .int .i64 ev.k, .int .i64 ev.n] 65)).heap.size (wr.alloc (.cells #[.int .i64 ev.st, .int .i64 ev.k, .int .i64 ev.n] 65)) X → Below w.heap.size w X ∧ X.cell? ⟨wr.heap.size, 0, none⟩ = some (.int .i64 ev.st) from fun X hX => ⟨(hB.alloc hsz _).trans (hX.mono (by simp; omega)), by
          rw [hX.cell (p := ⟨wr.heap.size, 0, none⟩) (by simp)]
          go_simp⟩)
        have HNO := hid hno'
        clear hno hno' hB hdr k0 k1 k2 hcs
        by_cases hst : ev.st < x
        · have hd2 : decide (ev.st < x) = true := by simpa using hst
          rw [hd2] at HNO
          have HV : Hid (R = 5) := by unfold Hid; rw [HR.out, HNO.out]; simp
          clear HNO HR
          go_wp2
          go_ret
          exact ⟨by rw [HV.out]; rfl, HB1.out⟩
        · have hd2 : decide (ev.st < x) = false := by simpa using hst
          rw [hd2] at HNO
          cases hmb : mayP m ev with
          | false =>
            rw [hmb] at HNO HMB
            have HV : Hid (R = 5) := by unfold Hid; rw [HR.out, HNO.out]; simp
            clear HNO HR
            go_wp2_with (go_at_call 66; refine (HMB.out _).mono ?_; rintro e w' ⟨rfl, hB'⟩; have HB3 := hid (HB2.out _ hB'); clear hB')
            go_ret
            exact ⟨by rw [HV.out]; rfl, HB3.out.1⟩
          | true =>
            rw [hmb] at HNO HMB
            have HV : Hid (evsP m 0 E = evsP m ev.st (E.drop (k + 1))) := by unfold Hid; rw [HNO.out]; simp
            clear HNO
            go_wp2_with (go_at_call 66; refine (HMB.out _).mono ?_; rintro e w' ⟨rfl, hB'⟩; have HB3 := hid (HB2.out _ hB'); have y5 := HB3.out.2; clear hB')
            go_roundw
            case rel => exact ⟨k + 1, ev.st, by omega, by go_num, rfl, HV.out, HB3.out.1⟩
            case measure => simp [intOf]; omega
      · obtain rfl : k = E.length := by omega
        have HV : Hid (R = 0) := by unfold Hid; rw [HR.out, hno]; simp [evsP]
        have HB2 := hid hB
        clear hno hB
        go_wp2
        go_ret
        exact ⟨by rw [HV.out]; rfl, HB2.out⟩
end Go.Proofs.YtkafkipjedpohaaGreatDoor

/-
  Package upshiftkeep: events.
-/
namespace Go.Proofs.YtkafkipjedpohaaGreatDoor
open Go.RowKit

/-- The first i of raw events, bent: the step reached, and the events. -/
def keepTo (fn : Int) (l : List Ev) : Nat → Int × List Ev
  | 0 => (0, [])
  | i + 1 => ((keepTo fn l i).1 + pickP (l.getD i ⟨0, 0, 0⟩).st 12, (keepTo fn l i).2 ++ [⟨(keepTo fn l i).1 + pickP (l.getD i ⟨0, 0, 0⟩).st 12, 1 + pickP (l.getD i ⟨0, 0, 0⟩).k 4, pickP (l.getD i ⟨0, 0, 0⟩).n fn⟩])
/-- What upshiftkeep.events makes. -/
def keepEvs (fn : Int) (l : List Ev) : List Ev := (keepTo fn l (min l.length 200)).2

theorem keepTo_len (fn : Int) (l : List Ev) : ∀ i, (keepTo fn l i).2.length = i
  | 0 => rfl
  | i + 1 => by unfold keepTo; simp [keepTo_len fn l i]
theorem keepTo_at (fn : Int) (l : List Ev) : ∀ i, 0 ≤ (keepTo fn l i).1 ∧ (keepTo fn l i).1 ≤ 11 * i
  | 0 => ⟨Int.le_refl _, by simp [keepTo]⟩
  | i + 1 => by
    have h1 := keepTo_at fn l i
    have h2 := pickP_bd (l.getD i ⟨0, 0, 0⟩).st (n := 12) (by omega)
    unfold keepTo
    dsimp only
    omega

def lastSt : Int → List Ev → Int
  | a, [] => a
  | _, e :: r => lastSt e.st r
theorem evsP_add (m : Int) (e : Ev) : ∀ (E : List Ev) (a : Int), evsP m a (E ++ [e]) = (evsP m a E && !(decide (e.st < lastSt a E)) && mayP m e)
  | [], a => by
    show (!(decide (e.st < a)) && mayP m e && true) = (true && !(decide (e.st < a)) && mayP m e)
    rw [Bool.and_true, Bool.true_and]
  | x :: r, a => by
    show (!(decide (x.st < a)) && mayP m x && evsP m x.st (r ++ [e])) = (!(decide (x.st < a)) && mayP m x && evsP m x.st r && _ && _)
    rw [evsP_add m e r x.st]
    simp only [lastSt, Bool.and_assoc]
    rfl
theorem lastSt_add (e : Ev) : ∀ (E : List Ev) (a : Int), lastSt a (E ++ [e]) = e.st
  | [], _ => rfl
  | _ :: r, _ => lastSt_add e r _
theorem keepTo_last (fn : Int) (l : List Ev) : ∀ i, lastSt 0 (keepTo fn l i).2 = (keepTo fn l i).1
  | 0 => rfl
  | i + 1 => by unfold keepTo; dsimp only; rw [lastSt_add]
theorem keepTo_ok (fn : Int) (hf : 0 < fn) (l : List Ev) : ∀ i, evsP fn 0 (keepTo fn l i).2 = true
  | 0 => rfl
  | i + 1 => by
    have h1 := keepTo_ok fn hf l i
    have h2 := keepTo_last fn l i
    have h3 := pickP_bd (l.getD i ⟨0, 0, 0⟩).st (n := 12) (by omega)
    have h4 := pickP_bd (l.getD i ⟨0, 0, 0⟩).k (n := 4) (by omega)
    have h5 := pickP_bd (l.getD i ⟨0, 0, 0⟩).n (n := fn) hf
    unfold keepTo
    dsimp only
    rw [evsP_add, h1, h2]
    simp only [Bool.true_and, Bool.and_eq_true, Bool.not_eq_true', decide_eq_false_iff_not]
    refine ⟨by omega, ?_⟩
    unfold mayP
    dsimp only
    split
    · rw [decide_eq_true_eq]; omega
    · rw [decide_eq_true_eq]; omega
theorem keepEvs_ok (m : Nat) (hm : 0 < m) (l : List Ev) : eventsP m (keepEvs m l) = 0 := by
  unfold eventsP keepEvs
  rw [keepTo_len, if_neg (by omega), if_pos (keepTo_ok m (by omega) l _)]

/-- The cells of events. -/
def ecells (E : List Ev) : List Value := E.flatMap fun e => [.int .i64 e.st, .int .i64 e.k, .int .i64 e.n]
theorem ecells_len (E : List Ev) : (ecells E).length = E.length * 3 := by
  induction E with
  | nil => rfl
  | cons y x ih => simp [ecells] at ih ⊢; omega
theorem ecells_cons (e : Ev) (E : List Ev) : ecells (e :: E) = .int .i64 e.st :: .int .i64 e.k :: .int .i64 e.n :: ecells E := rfl
theorem ecells_append (x y : List Ev) : ecells (x ++ y) = ecells x ++ ecells y := by simp [ecells]
theorem ecells_at : ∀ (E : List Ev) (i : Nat), i < E.length → (ecells E)[i * 3]? = some (.int .i64 (E.getD i ⟨0, 0, 0⟩).st) ∧ (ecells E)[i * 3 + 1]? = some (.int .i64 (E.getD i ⟨0, 0, 0⟩).k) ∧ (ecells E)[i * 3 + 2]? = some (.int .i64 (E.getD i ⟨0, 0, 0⟩).n)
  | [], i, h => by simp at h
  | e :: r, 0, _ => by rw [ecells_cons]; simp
  | e :: r, i + 1, h => by
    obtain ⟨h1, h2, h3⟩ := ecells_at r i (by simpa using h)
    rw [ecells_cons]
    simp only [List.getD_cons_succ]
    refine ⟨?_, ?_, ?_⟩
    · rw [show (i + 1) * 3 = i * 3 + 1 + 1 + 1 by omega]; simp only [List.getElem?_cons_succ]; exact h1
    · rw [show (i + 1) * 3 + 1 = i * 3 + 1 + 1 + 1 + 1 by omega]; simp only [List.getElem?_cons_succ]; exact h2
    · rw [show (i + 1) * 3 + 2 = i * 3 + 2 + 1 + 1 + 1 by omega]; simp only [List.getElem?_cons_succ]; exact h3

/-- A list of events of the call's own. -/
def OwnE (w : World) (B : Nat) (v : Value) (E : List Ev) : Prop := w.ownsRow B 65 3 v E.length (ecells E)
theorem OwnE.evs {w : World} {B : Nat} {v : Value} {E : List Ev} (h : OwnE w B v E) : EvV w w.heap.size v E := by
  obtain ⟨h1, h2⟩ := h
  rcases h2 with ⟨hv, h0⟩ | ⟨g, cap, cur, hv, hb, hg, hc, hm, hs, ht⟩
  · have : E = [] := List.length_eq_zero_iff.1 h0
    subst this
    exact ⟨none, 0, hv, Nat.le_refl _, fun h => absurd rfl h⟩
  · refine ⟨some ⟨g, 0, none⟩, cap, hv, hc, fun _ => ⟨g, 0, rfl, heap_lt hg, fun i hi => ?_⟩⟩
    have hat : ∀ j u, (ecells E)[j]? = some u → w.cell? ⟨g, j, none⟩ = some u := fun j u hu => by
      have hj : j < E.length * 3 := by have := (List.getElem?_eq_some_iff.1 hu).1; rwa [ecells_len] at this
      rw [cell_heap hg]
      rw [← ht, List.getElem?_take_of_lt hj] at hu
      simpa using hu
    obtain ⟨e1, e2, e3⟩ := ecells_at E i hi
    rw [Nat.zero_add]
    exact ⟨hat _ _ e1, hat _ _ e2, hat _ _ e3⟩
theorem OwnE.form {w : World} {B : Nat} {v : Value} {E : List Ev} (h : OwnE w B v E) : ∃ p c, v = .slice p E.length c := by
  rcases h.2 with ⟨hv, h0⟩ | ⟨g, cap, cur, hv, _⟩
  · exact ⟨none, 0, by rw [h0]; exact hv⟩
  · exact ⟨_, _, hv⟩
theorem OwnE.own {w : World} {B : Nat} {v : Value} {E : List Ev} (h : OwnE w B v E) : ∀ k, v.ownBlock = some k → B ≤ k := by
  intro k hk
  rcases h.2 with ⟨h2, _⟩ | ⟨g, cap, cur, hv, hb, _⟩
  · rw [h2] at hk; simp [Value.ownBlock] at hk
  · rw [hv] at hk
    have : g = k := by simpa [Value.ownBlock] using hk
    omega

/-- Raw events: numbers that an int holds. -/
def RawOk (l : List Ev) : Prop := ∀ i, i < l.length → I64 (l.getD i ⟨0, 0, 0⟩).st ∧ I64 (l.getD i ⟨0, 0, 0⟩).k ∧ I64 (l.getD i ⟨0, 0, 0⟩).n

theorem Tryz.infoEvent : (Tryz.prog.info? 65).map (fun i => (i.zero, i.size, i.bytes)) = some (some (.agg #[.int .i64 0, .int .i64 0, .int .i64 0]), 3, 24) := by kernel_rfl

set_option maxRecDepth 100000 in
set_option maxHeartbeats 2000000 in
theorem keepEvents (l : List Ev) (v : Value) (fn : Int) (hfn : 0 < fn ∧ fn ≤ 1000) (w : World) (hin : EvV w w.heap.size v l) (hraw : RawOk l) (hlen : l.length ≤ 140737488355328) :
    Calls Tryz.prog 25 #[v, .int .i64 fn] w fun e w' => ∃ v', e = .returned v' ∧ Below w.heap.size w w' ∧ EvV w' w'.heap.size v' (keepEvs fn l) := by
  obtain ⟨inf, hi, hz0, hz1, hz2⟩ : ∃ i, Tryz.prog.info? 65 = some i ∧ i.zero = some (.agg #[.int .i64 0, .int .i64 0, .int .i64 0]) ∧ i.size = 3 ∧ i.bytes = 24 := by
    obtain ⟨i, hi, hzz⟩ := Option.map_eq_some_iff.1 Tryz.infoEvent
    simp only [Prod.mk.injEq] at hzz
    exact ⟨i, hi, hzz.1, hzz.2.1, hzz.2.2⟩
  obtain ⟨p, c, rfl, hc, hcells⟩ := hin
  have HIn := hid (And.intro hcells hraw)
  clear hcells hraw
  generalize hn : l.length = n at *
  have HN := hid hn
  clear hn
  go_enter Tryz.func25, Tryz.ntmps25
  go_wp2
  go_loopw [5, 6, 7] (fun o a v wr => ∃ i : Nat, i ≤ n ∧ i ≤ 200 ∧ v = .int .i64 i ∧ a = .int .i64 (keepTo fn l i).1 ∧ Below w.heap.size w wr ∧ OwnE wr w.heap.size o (keepTo fn l i).2) (fun _ _ v _ => 200 - (intOf v).toNat)
  case atStart => exact ⟨0, by omega, by omega, rfl, rfl, Below.refl _ _, ⟨rfl, Or.inl ⟨rfl, rfl⟩⟩⟩
  case round =>
    obtain ⟨i, hi1, hi2, rfl, rfl, hB, hO⟩ := hrel
    obtain ⟨op, oc, hform⟩ := hO.form
    rw [keepTo_len] at hform
    subst hform
    have HB := hid hB
    have HO := hid hO
    have hat := keepTo_at fn l i
    by_cases hc1 : i < n
    · have d1 : decide ((i : Int) < (n : Int)) = true := by simp; omega
      by_cases hc2 : i < 200
      · have d2 : decide ((i : Int) < 200) = true := by simp; omega
        obtain ⟨eb, eo, rfl, heb, hcs⟩ := HIn.out.1 (by intro h; have := HN.out; rw [h] at this; simp at this; omega)
        obtain ⟨k0, k1, k2⟩ := hcs i hc1
        obtain ⟨r0, r1, r2⟩ := HIn.out.2 i (by rw [HN.out]; exact hc1)
        have hsucc : keepTo fn l (i + 1) = ((keepTo fn l i).1 + pickP (l.getD i ⟨0, 0, 0⟩).st 12, (keepTo fn l i).2 ++ [⟨(keepTo fn l i).1 + pickP (l.getD i ⟨0, 0, 0⟩).st 12, 1 + pickP (l.getD i ⟨0, 0, 0⟩).k 4, pickP (l.getD i ⟨0, 0, 0⟩).n fn⟩]) := rfl
        have HSu := hid hsucc
        clear hsucc
        generalize l.getD i ⟨0, 0, 0⟩ = ev at *
        have HC := hid (fun (w' : World) (hb : Below w.heap.size w w') => (show w'.cell? ⟨eb, eo + i * 3 + 1, none⟩ = some (.int .i64 ev.k) ∧ w'.cell? ⟨eb, eo + i * 3 + 2, none⟩ = some (.int .i64 ev.n) from ⟨(hb.cell (p := ⟨eb, eo + i * 3 + 1, none⟩) heb).trans k1, (hb.cell (p := ⟨eb, eo + i * 3 + 2, none⟩) heb).trans k2⟩))
        replace k0 := (hB.cell (p := ⟨eb, eo + i * 3, none⟩) heb).trans k0
        have b12 := pickP_bd ev.st (n := 12) (by omega)
        have b4 := pickP_bd ev.k (n := 4) (by omega)
        have P1 := hid (fun wx => keepPick_any ev.st 12 wx r0 (by omega))
        have P2 := hid (fun wx => keepPick_any ev.k 4 wx r1 (by omega))
        have P3 := hid (fun wx => keepPick_any ev.n fn wx r2 (by omega))
        have HKL := hid (keepTo_len fn l i)
        generalize hE : (keepTo fn l i).2 = E at *
        generalize hA : (keepTo fn l i).1 = a0 at *
        have e1 : wrap64 (a0 + pickP ev.st 12) = a0 + pickP ev.st 12 := by unfold wrap64; omega
        have e2 : wrap64 (1 + pickP ev.k 4) = 1 + pickP ev.k 4 := by unfold wrap64; omega
        have j0 : (0 : Int) ≤ (i : Int) := by omega
        have j1 : (i : Int) < (n : Int) := by omega
        clear r0 r1 r2 hcs HIn hB hO hE hA k1 k2
        go_wp2_with fail
        refine (P1.out _).mono ?_
        rintro e w' ⟨rfl, hw'⟩
        rw [hw']
        clear hw' w' k0
        go_wp2_with fail
        generalize hpa : a0 + pickP ev.st 12 = pa at *
        generalize hpn : pickP ev.n fn = pn at *
        generalize hpk : pickP ev.k 4 = pk at *
        clear hpa hpn hpk
        have e3 : IntKind.i64.wrap (1 + pk) = 1 + pk := by rw [IntKind.wrap_i64]; omega
        refine region_lex (Below w.heap.size w) [(false, 0), (false, 1), (false, 2), (false, 3), (false, 4), (false, 5), (false, 6), (false, 9), (false, 10), (false, 11), (false, 12), (false, 13), (false, 14), (true, 7), (false, 8), (true, 15), (false, 16), (true, 17), (true, 18), (false, 19)] (by kernel_rfl) (by kernel_rfl) (fun c0 a0 d0 v0 x0 h0 => panic_body (P := Tryz.prog) Tryz.f25 (fun e w' => ∃ v', e = .returned v' ∧ Below w.heap.size w w' ∧ EvV w' w'.heap.size v' (keepEvs fn l)) c0 a0 d0 v0 x0 h0) HB.out.drew ?_
        simp only [lexL, List.getElem?_cons_zero, List.getElem?_cons_succ]
        iterate 13 (refine lexW_free (by rfl) (by intro w' hS'; obtain ⟨q1, q2⟩ := HC.out w' hS'; clear hS'; go_simp; exact rfl) ?_; simp only [Act.put, List.setIfInBounds_toArray, List.set_cons_zero, List.set_cons_succ])
        refine lexW_sole (fun K hK => ?_)
        go_simp
        refine (P2.out _).mono ?_
        rintro e w' ⟨rfl, hw'⟩
        rw [hw']
        clear hw' w'
        refine hK.out _ _ HB.out.drew ?_
        clear hK K
        refine lexW_free (by rfl) (by intro w' hS'; clear hS'; go_simp; exact rfl) ?_
        simp only [Act.put, List.setIfInBounds_toArray, List.set_cons_zero, List.set_cons_succ]
        try simp only [e3]
        refine lexW_sole (fun K hK => ?_)
        go_simp
        refine (P3.out _).mono ?_
        rintro e w' ⟨rfl, hw'⟩
        rw [hw']
        clear hw' w'
        refine hK.out _ _ HB.out.drew ?_
        clear hK K
        refine lexW_free (by rfl) (by intro w' hS'; clear hS'; go_simp; exact rfl) ?_
        simp only [Act.put, List.setIfInBounds_toArray, List.set_cons_zero, List.set_cons_succ]
        try simp only [e3]
        refine lexW_sole (fun K hK => ?_)
        go_simp
        try simp only [e3]
        refine hK.out _ _ (HB.out.drew.alloc (by exact HB.out.size) _) ?_
        clear hK K
        refine lexW_sole (fun K hK => ?_)
        refine step_append_lies _ (by rfl) _ _ _ (by rfl) w.heap.size 65 inf _ 3 24 Tryz.underlying57 hi hz0 hz1 hz2 rfl (by decide) (.slice op i oc) i _ (by rfl) (by have h0 := HO.out; unfold OwnE at h0; rw [HKL.out] at h0; exact h0.drew.alloc _) ⟨wr.heap.size, 0, none⟩ 1 1 [.int .i64 pa, .int .i64 (1 + pk), .int .i64 pn] (by rfl) (by rfl) (by exact World.news_of_block (Go.Deep.blk_alloc_new wr _)) (by intro u hu; simp at hu; rcases hu with rfl | rfl | rfl <;> rfl) (by omega) (by unfold maxLen; omega) (by have := HB.out.size; omega) (by have := HB.out.size; simp; omega) (wr.heap.size + 1) (by simp) ?_
        intro g cap w5 hown hgrow hat2 hlt
        have hbA : Below w.heap.size w (wr.drew.alloc (.cells #[.int .i64 pa, .int .i64 (1 + pk), .int .i64 pn] 65)) := HB.out.drew.alloc (by exact HB.out.size) _
        have hb5 : Below w.heap.size w w5 := hbA.trans (below_grown hgrow (HO.out.own) hbA.size)
        have hO5 : OwnE w5 w.heap.size (.slice (some ⟨g, 0, none⟩) (i + 1) cap) (E ++ [⟨pa, 1 + pk, pn⟩]) := by
          unfold OwnE
          rw [ecells_append, List.length_append, HKL.out]
          exact hown
        have HN5 := hid (And.intro hb5 hO5)
        refine hK.out _ _ hb5 ?_
        clear hK K hown hgrow hat2 hlt hbA hb5 hO5
        simp only [Act.put, List.setIfInBounds_toArray, List.set_cons_zero, List.set_cons_succ]
        refine lexW_free (by rfl) (by intro w' hS'; clear hS'; go_simp; exact rfl) ?_
        simp only [Act.put, List.setIfInBounds_toArray, List.set_cons_zero, List.set_cons_succ]
        refine lexW_done ?_
        go_wp2
        exact ⟨⟨i + 1, by omega, by omega, by go_num, by rw [HSu.out], HN5.out.1, by rw [HSu.out]; exact HN5.out.2⟩, by simp [intOf]; omega⟩
      · have d2 : decide ((i : Int) < 200) = false := by simp; omega
        have HQ := hid (And.intro hB (show EvV wr wr.heap.size (.slice op i oc) (keepEvs fn l) from by
          unfold keepEvs
          rw [HN.out, show min n 200 = i by omega]
          exact hO.evs))
        clear HIn hB hO HB HO hat
        go_wp2
        go_ret
        exact ⟨_, rfl, HQ.out⟩
    · have d1 : decide ((i : Int) < (n : Int)) = false := by simp; omega
      have HQ := hid (And.intro hB (show EvV wr wr.heap.size (.slice op i oc) (keepEvs fn l) from by
        unfold keepEvs
        rw [HN.out, show min n 200 = i by omega]
        exact hO.evs))
      clear HIn hB hO HB HO hat
      go_wp2
      go_ret
      exact ⟨_, rfl, HQ.out⟩
end Go.Proofs.YtkafkipjedpohaaGreatDoor
