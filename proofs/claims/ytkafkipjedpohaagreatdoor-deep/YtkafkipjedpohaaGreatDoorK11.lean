import Derived.Test.YtkafkipjedpohaaGreatDoorK9
import Derived.Test.YtkafkipjedpohaaGreatDoorM29
import Derived.Test.YtkafkipjedpohaaGreatDoorM5
import Derived.Test.YtkafkipjedpohaaGreatDoorM24
import Derived.Test.YtkafkipjedpohaaGreatDoorPureD

/-
  Package upshiftkeep: events.
-/
namespace Go.Proofs.YtkafkipjedpohaaGreatDoor
open Go.RowKit

/-- The first i of raw events, bent: the step reached, and the events. -/
def keepTo (fn : Int) (l : List Ev) : Nat → Int × List Ev
  | 0 => (0, [])
  | i + 1 => ((keepTo fn l i).1 + pickP (l.getD i ⟨0, 0, 0⟩).st 12, (keepTo fn l i).2 ++ [⟨(keepTo fn l i).1 + pickP (l.getD i ⟨0, 0, 0⟩).st 12, 1 + pickP (l.getD i ⟨0, 0, 0⟩).k 4, pickP (l.getD i ⟨0, 0, 0⟩).n fn⟩])
/-- What upshiftkeep.events makes. -/
def keepEvs (fn : Int) (l : List Ev) : List Ev := (keepTo fn l (min l.length 200)).2

theorem keepTo_len (fn : Int) (l : List Ev) : ∀ i, (keepTo fn l i).2.length = i
  | 0 => rfl
  | i + 1 => by unfold keepTo; simp [keepTo_len fn l i]
theorem keepTo_at (fn : Int) (l : List Ev) : ∀ i, 0 ≤ (keepTo fn l i).1 ∧ (keepTo fn l i).1 ≤ 11 * i
  | 0 => ⟨Int.le_refl _, by simp [keepTo]⟩
  | i + 1 => by
    have h1 := keepTo_at fn l i
    have h2 := pickP_bd (l.getD i ⟨0, 0, 0⟩).st (n := 12) (by omega)
    unfold keepTo
    dsimp only
    omega

def lastSt : Int → List Ev → Int
  | a, [] => a
  | _, e :: r => lastSt e.st r
theorem evsP_add (m : Int) (e : Ev) : ∀ (E : List Ev) (a : Int), evsP m a (E ++ [e]) = (evsP m a E && !(decide (e.st < lastSt a E)) && mayP m e)
  | [], a => by
    show (!(decide (e.st < a)) && mayP m e && true) = (true && !(decide (e.st < a)) && mayP m e)
    rw [Bool.and_true, Bool.true_and]
  | x :: r, a => by
    show (!(decide (x.st < a)) && mayP m x && evsP m x.st (r ++ [e])) = (!(decide (x.st < a)) && mayP m x && evsP m x.st r && _ && _)
    rw [evsP_add m e r x.st]
    simp only [lastSt, Bool.and_assoc]
    rfl
theorem lastSt_add (e : Ev) : ∀ (E : List Ev) (a : Int), lastSt a (E ++ [e]) = e.st
  | [], _ => rfl
  | _ :: r, _ => lastSt_add e r _
theorem keepTo_last (fn : Int) (l : List Ev) : ∀ i, lastSt 0 (keepTo fn l i).2 = (keepTo fn l i).1
  | 0 => rfl
  | i + 1 => by unfold keepTo; dsimp only; rw [lastSt_add]
theorem keepTo_ok (fn : Int) (hf : 0 < fn) (l : List Ev) : ∀ i, evsP fn 0 (keepTo fn l i).2 = true
  | 0 => rfl
  | i + 1 => by
    have h1 := keepTo_ok fn hf l i
    have h2 := keepTo_last fn l i
    have h3 := pickP_bd (l.getD i ⟨0, 0, 0⟩).st (n := 12) (by omega)
    have h4 := pickP_bd (l.getD i ⟨0, 0, 0⟩).k (n := 4) (by omega)
    have h5 := pickP_bd (l.getD i ⟨0, 0, 0⟩).n (n := fn) hf
    unfold keepTo
    dsimp only
    rw [evsP_add, h1, h2]
    simp only [Bool.true_and, Bool.and_eq_true, Bool.not_eq_true', decide_eq_false_iff_not]
    refine ⟨by omega, ?_⟩
    unfold mayP
    dsimp only
    split
    · rw [decide_eq_true_eq]; omega
    · rw [decide_eq_true_eq]; omega
theorem keepEvs_ok (m : Nat) (hm : 0 < m) (l : List Ev) : eventsP m (keepEvs m l) = 0 := by
  unfold eventsP keepEvs
  rw [keepTo_len, if_neg (by omega), if_pos (keepTo_ok m (by omega) l _)]

/-- The cells of events. -/
def ecells (E : List Ev) : List Value := E.flatMap fun e => [.int .i64 e.st, .int .i64 e.k, .int .i64 e.n]
theorem ecells_len (E : List Ev) : (ecells E).length = E.length * 3 := by
  induction E with
  | nil => rfl
  | cons y x ih => simp [ecells] at ih ⊢; omega
theorem ecells_cons (e : Ev) (E : List Ev) : ecells (e :: E) = .int .i64 e.st :: .int .i64 e.k :: .int .i64 e.n :: ecells E := rfl
theorem ecells_append (x y : List Ev) : ecells (x ++ y) = ecells x ++ ecells y := by simp [ecells]
theorem ecells_at : ∀ (E : List Ev) (i : Nat), i < E.length → (ecells E)[i * 3]? = some (.int .i64 (E.getD i ⟨0, 0, 0⟩).st) ∧ (ecells E)[i * 3 + 1]? = some (.int .i64 (E.getD i ⟨0, 0, 0⟩).k) ∧ (ecells E)[i * 3 + 2]? = some (.int .i64 (E.getD i ⟨0, 0, 0⟩).n)
  | [], i, h => by simp at h
  | e :: r, 0, _ => by rw [ecells_cons]; simp
  | e :: r, i + 1, h => by
    obtain ⟨h1, h2, h3⟩ := ecells_at r i (by simpa using h)
    rw [ecells_cons]
    simp only [List.getD_cons_succ]
    refine ⟨?_, ?_, ?_⟩
    · rw [show (i + 1) * 3 = i * 3 + 1 + 1 + 1 by omega]; simp only [List.getElem?_cons_succ]; exact h1
    · rw [show (i + 1) * 3 + 1 = i * 3 + 1 + 1 + 1 + 1 by omega]; simp only [List.getElem?_cons_succ]; exact h2
    · rw [show (i + 1) * 3 + 2 = i * 3 + 2 + 1 + 1 + 1 by omega]; simp only [List.getElem?_cons_succ]; exact h3

/-- A list of events of the call's own. -/
def OwnE (w : World) (B : Nat) (v : Value) (E : List Ev) : Prop := w.ownsRow B 65 3 v E.length (ecells E)
theorem OwnE.evs {w : World} {B : Nat} {v : Value} {E : List Ev} (h : OwnE w B v E) : EvV w w.heap.size v E := by
  obtain ⟨h1, h2⟩ := h
  rcases h2 with ⟨hv, h0⟩ | ⟨g, cap, cur, hv, hb, hg, hc, hm, hs, ht⟩
  · have : E = [] := List.length_eq_zero_iff.1 h0
    subst this
    exact ⟨none, 0, hv, Nat.le_refl _, fun h => absurd rfl h⟩
  · refine ⟨some ⟨g, 0, none⟩, cap, hv, hc, fun _ => ⟨g, 0, rfl, heap_lt hg, fun i hi => ?_⟩⟩
    have hat : ∀ j u, (ecells E)[j]? = some u → w.cell? ⟨g, j, none⟩ = some u := fun j u hu => by
      have hj : j < E.length * 3 := by have := (List.getElem?_eq_some_iff.1 hu).1; rwa [ecells_len] at this
      rw [cell_heap hg]
      rw [← ht, List.getElem?_take_of_lt hj] at hu
      simpa using hu
    obtain ⟨e1, e2, e3⟩ := ecells_at E i hi
    rw [Nat.zero_add]
    exact ⟨hat _ _ e1, hat _ _ e2, hat _ _ e3⟩
theorem OwnE.form {w : World} {B : Nat} {v : Value} {E : List Ev} (h : OwnE w B v E) : ∃ p c, v = .slice p E.length c := by
  rcases h.2 with ⟨hv, h0⟩ | ⟨g, cap, cur, hv, _⟩
  · exact ⟨none, 0, by rw [h0]; exact hv⟩
  · exact ⟨_, _, hv⟩
theorem OwnE.own {w : World} {B : Nat} {v : Value} {E : List Ev} (h : OwnE w B v E) : ∀ k, v.ownBlock = some k → B ≤ k := by
  intro k hk
  rcases h.2 with ⟨h2, _⟩ | ⟨g, cap, cur, hv, hb, _⟩
  · rw [h2] at hk; simp [Value.ownBlock] at hk
  · rw [hv] at hk
    have : g = k := by simpa [Value.ownBlock] using hk
    omega

/-- Raw events: numbers that an int holds. -/
def RawOk (l : List Ev) : Prop := ∀ i, i < l.length → I64 (l.getD i ⟨0, 0, 0⟩).st ∧ I64 (l.getD i ⟨0, 0, 0⟩).k ∧ I64 (l.getD i ⟨0, 0, 0⟩).n

theorem Tryz.infoEvent : (Tryz.prog.info? 65).map (fun i => (i.zero, i.size, i.bytes)) = some (some (.agg #[.int .i64 0, .int .i64 0, .int .i64 0]), 3, 24) := by kernel_rfl

set_option maxRecDepth 100000 in
set_option maxHeartbeats 2000000 in
theorem keepEvents (l : List Ev) (v : Value) (fn : Int) (hfn : 0 < fn ∧ fn ≤ 1000) (w : World) (hin : EvV w w.heap.size v l) (hraw : RawOk l) (hlen : l.length ≤ 140737488355328) :
    Calls Tryz.prog 25 #[v, .int .i64 fn] w fun e w' => ∃ v', e = .returned v' ∧ Below w.heap.size w w' ∧ EvV w' w'.heap.size v' (keepEvs fn l) := by
  obtain ⟨inf, hi, hz0, hz1, hz2⟩ : ∃ i, Tryz.prog.info? 65 = some i ∧ i.zero = some (.agg #[.int .i64 0, .int .i64 0, .int .i64 0]) ∧ i.size = 3 ∧ i.bytes = 24 := by
    obtain ⟨i, hi, hzz⟩ := Option.map_eq_some_iff.1 Tryz.infoEvent
    simp only [Prod.mk.injEq] at hzz
    exact ⟨i, hi, hzz.1, hzz.2.1, hzz.2.2⟩
  obtain ⟨p, c, rfl, hc, hcells⟩ := hin
  have HIn := hid (And.intro hcells hraw)
  clear hcells hraw
  generalize hn : l.length = n at *
  have HN := hid hn
  clear hn
  go_enter Tryz.func25, Tryz.ntmps25
  go_wp2
  go_loopw [5, 6, 7] (fun o a v wr => ∃ i : Nat, i ≤ n ∧ i ≤ 200 ∧ v = .int .i64 i ∧ a = .int .i64 (keepTo fn l i).1 ∧ Below w.heap.size w wr ∧ OwnE wr w.heap.size o (keepTo fn l i).2) (fun _ _ v _ => 200 - (intOf v).toNat)
  case atStart => exact ⟨0, by omega, by omega, rfl, rfl, Below.refl _ _, ⟨rfl, Or.inl ⟨rfl, rfl⟩⟩⟩
  case round =>
    obtain ⟨i, hi1, hi2, rfl, rfl, hB, hO⟩ := hrel
    obtain ⟨op, oc, hform⟩ := hO.form
    rw [keepTo_len] at hform
    subst hform
    have HB := hid hB
    have HO := hid hO
    have hat := keepTo_at fn l i
    by_cases hc1 : i < n
    · have d1 : decide ((i : Int) < (n : Int)) = true := by simp; omega
      by_cases hc2 : i < 200
      · have d2 : decide ((i : Int) < 200) = true := by simp; omega
        obtain ⟨eb, eo, rfl, heb, hcs⟩ := HIn.out.1 (by intro h; have := HN.out; rw [h] at this; simp at this; omega)
        obtain ⟨k0, k1, k2⟩ := hcs i hc1
        obtain ⟨r0, r1, r2⟩ := HIn.out.2 i (by rw [HN.out]; exact hc1)
        have hsucc : keepTo fn l (i + 1) = ((keepTo fn l i).1 + pickP (l.getD i ⟨0, 0, 0⟩).st 12, (keepTo fn l i).2 ++ [⟨(keepTo fn l i).1 + pickP (l.getD i ⟨0, 0, 0⟩).st 12, 1 + pickP (l.getD i ⟨0, 0, 0⟩).k 4, pickP (l.getD i ⟨0, 0, 0⟩).n fn⟩]) := rfl
        have HSu := hid hsucc
        clear hsucc
        generalize l.getD i ⟨0, 0, 0⟩ = ev at *
        have HC := hid (fun (w' : World) (hb : Below w.heap.size w w') => (show w'.cell? ⟨eb, eo + i * 3 + 1, none⟩ = some (.int .i64 ev.k) ∧ w'.cell? ⟨eb, eo + i * 3 + 2, none⟩ = some (.int .i64 ev.n) from ⟨(hb.cell (p := ⟨eb, eo + i * 3 + 1, none⟩) heb).trans k1, (hb.cell (p := ⟨eb, eo + i * 3 + 2, none⟩) heb).trans k2⟩))
        replace k0 := (hB.cell (p := ⟨eb, eo + i * 3, none⟩) heb).trans k0
        have b12 := pickP_bd ev.st (n := 12) (by omega)
        have b4 := pickP_bd ev.k (n := 4) (by omega)
        have P1 := hid (fun wx => keepPick_any ev.st 12 wx r0 (by omega))
        have P2 := hid (fun wx => keepPick_any ev.k 4 wx r1 (by omega))
        have P3 := hid (fun wx => keepPick_any ev.n fn wx r2 (by omega))
        have HKL := hid (keepTo_len fn l i)
        generalize hE : (keepTo fn l i).2 = E at *
        generalize hA : (keepTo fn l i).1 = a0 at *
        have e1 : wrap64 (a0 + pickP ev.st 12) = a0 + pickP ev.st 12 := by unfold wrap64; omega
        have e2 : wrap64 (1 + pickP ev.k 4) = 1 + pickP ev.k 4 := by unfold wrap64; omega
        have j0 : (0 : Int) ≤ (i : Int) := by omega
        have j1 : (i : Int) < (n : Int) := by omega
        clear r0 r1 r2 hcs HIn hB hO hE hA k1 k2
        go_wp2_with fail
        refine (P1.out _).mono ?_
        rintro e w' ⟨rfl, hw'⟩
        rw [hw']
        clear hw' w' k0
        go_wp2_with fail
        generalize hpa : a0 + pickP ev.st 12 = pa at *
        generalize hpn : pickP ev.n fn = pn at *
        generalize hpk : pickP ev.k 4 = pk at *
        clear hpa hpn hpk
        have e3 : IntKind.i64.wrap (1 + pk) = 1 + pk := by rw [IntKind.wrap_i64]; omega
        refine region_lex (Below w.heap.size w) [(false, 0), (false, 1), (false, 2), (false, 3), (false, 4), (false, 5), (false, 6), (false, 9), (false, 10), (false, 11), (false, 12), (false, 13), (false, 14), (true, 7), (false, 8), (true, 15), (false, 16), (true, 17), (true, 18), (false, 19)] (by kernel_rfl) (by kernel_rfl) (fun c0 a0 d0 v0 x0 h0 => panic_body (P := Tryz.prog) Tryz.f25 (fun e w' => ∃ v', e = .returned v' ∧ Below w.heap.size w w' ∧ EvV w' w'.heap.size v' (keepEvs fn l)) c0 a0 d0 v0 x0 h0) HB.out.drew ?_
        simp only [lexL, List.getElem?_cons_zero, List.getElem?_cons_succ]
        iterate 13 (refine lexW_free (by rfl) (by intro w' hS'; obtain ⟨q1, q2⟩ := HC.out w' hS'; clear hS'; go_simp; exact rfl) ?_; simp only [Act.put, List.setIfInBounds_toArray, List.set_cons_zero, List.set_cons_succ])
        refine lexW_sole (fun K hK => ?_)
        go_simp
        refine (P2.out _).mono ?_
        rintro e w' ⟨rfl, hw'⟩
        rw [hw']
        clear hw' w'
        refine hK.out _ _ HB.out.drew ?_
        clear hK K
        refine lexW_free (by rfl) (by intro w' hS'; clear hS'; go_simp; exact rfl) ?_
        simp only [Act.put, List.setIfInBounds_toArray, List.set_cons_zero, List.set_cons_succ]
        try simp only [e3]
        refine lexW_sole (fun K hK => ?_)
        go_simp
        refine (P3.out _).mono ?_
        rintro e w' ⟨rfl, hw'⟩
        rw [hw']
        clear hw' w'
        refine hK.out _ _ HB.out.drew ?_
        clear hK K
        refine lexW_free (by rfl) (by intro w' hS'; clear hS'; go_simp; exact rfl) ?_
        simp only [Act.put, List.setIfInBounds_toArray, List.set_cons_zero, List.set_cons_succ]
        try simp only [e3]
        refine lexW_sole (fun K hK => ?_)
        go_simp
        try simp only [e3]
        refine hK.out _ _ (HB.out.drew.alloc (by exact HB.out.size) _) ?_
        clear hK K
        refine lexW_sole (fun K hK => ?_)
        refine step_append_lies _ (by rfl) _ _ _ (by rfl) w.heap.size 65 inf _ 3 24 Tryz.underlying57 hi hz0 hz1 hz2 rfl (by decide) (.slice op i oc) i _ (by rfl) (by have h0 := HO.out; unfold OwnE at h0; rw [HKL.out] at h0; exact h0.drew.alloc _) ⟨wr.heap.size, 0, none⟩ 1 1 [.int .i64 pa, .int .i64 (1 + pk), .int .i64 pn] (by rfl) (by rfl) (by exact World.news_of_block (Go.Deep.blk_alloc_new wr _)) (by intro u hu; simp at hu; rcases hu with rfl | rfl | rfl <;> rfl) (by omega) (by unfold maxLen; omega) (by have := HB.out.size; omega) (by have := HB.out.size; simp; omega) (wr.heap.size + 1) (by simp) ?_
        intro g cap w5 hown hgrow hat2 hlt
        have hbA : Below w.heap.size w (wr.drew.alloc (.cells #[.int .i64 pa, .int .i64 (1 + pk), .int .i64 pn] 65)) := HB.out.drew.alloc (by exact HB.out.size) _
        have hb5 : Below w.heap.size w w5 := hbA.trans (below_grown hgrow (HO.out.own) hbA.size)
        have hO5 : OwnE w5 w.heap.size (.slice (some ⟨g, 0, none⟩) (i + 1) cap) (E ++ [⟨pa, 1 + pk, pn⟩]) := by
          unfold OwnE
          rw [ecells_append, List.length_append, HKL.out]
          exact hown
        have HN5 := hid (And.intro hb5 hO5)
        refine hK.out _ _ hb5 ?_
        clear hK K hown hgrow hat2 hlt hbA hb5 hO5
        simp only [Act.put, List.setIfInBounds_toArray, List.set_cons_zero, List.set_cons_succ]
        refine lexW_free (by rfl) (by intro w' hS'; clear hS'; go_simp; exact rfl) ?_
        simp only [Act.put, List.setIfInBounds_toArray, List.set_cons_zero, List.set_cons_succ]
        refine lexW_done ?_
        go_wp2
        exact ⟨⟨i + 1, by omega, by omega, by go_num, by rw [HSu.out], HN5.out.1, by rw [HSu.out]; exact HN5.out.2⟩, by simp [intOf]; omega⟩
      · have d2 : decide ((i : Int) < 200) = false := by simp; omega
        have HQ := hid (And.intro hB (show EvV wr wr.heap.size (.slice op i oc) (keepEvs fn l) from by
          unfold keepEvs
          rw [HN.out, show min n 200 = i by omega]
          exact hO.evs))
        clear HIn hB hO HB HO hat
        go_wp2
        go_ret
        exact ⟨_, rfl, HQ.out⟩
    · have d1 : decide ((i : Int) < (n : Int)) = false := by simp; omega
      have HQ := hid (And.intro hB (show EvV wr wr.heap.size (.slice op i oc) (keepEvs fn l) from by
        unfold keepEvs
        rw [HN.out, show min n 200 = i by omega]
        exact hO.evs))
      clear HIn hB hO HB HO hat
      go_wp2
      go_ret
      exact ⟨_, rfl, HQ.out⟩
end Go.Proofs.YtkafkipjedpohaaGreatDoor

/-
  What gears do not turn, as plain mathematics. No Go here.
-/
namespace Go.Proofs.YtkafkipjedpohaaGreatDoor

variable {m : Nat} {F : Nat → PF} {K : Nat → Nat → Bool} {H : Nat → Nat → Int}

/-- The same run, but for gears and counts. -/
structure Six (s s' : Mc) : Prop where
  fr : s'.fr = s.fr
  arr : s'.arr = s.arr
  out : s'.out = s.out
  gives : s'.gives = s.gives
  steps : s'.steps = s.steps
  fin : s'.fin = s.fin
theorem Six.trans {s t u : Mc} (h : Six s t) (k : Six t u) : Six s u := ⟨k.fr.trans h.fr, k.arr.trans h.arr, k.out.trans h.out, k.gives.trans h.gives, k.steps.trans h.steps, k.fin.trans h.fin⟩
theorem Cm.six {s s' : Mc} (h : Cm s s') : Six s s' := ⟨h.fr, h.arr, h.out, h.gives, h.steps, h.fin⟩

theorem call_six {s s' : Mc} (A : Nat) (f : Fr) (rest : List Fr) (h : Six s s') : Six (callP F A f rest s) (callP F A f rest s') := by
  unfold callP
  split
  · exact h
  · split
    · exact ⟨rfl, h.arr, h.out, h.gives, h.steps, rfl⟩
    · split
      · exact ⟨rfl, h.arr, h.out, h.gives, h.steps, rfl⟩
      · exact ⟨rfl, h.arr, h.out, h.gives, h.steps, h.fin⟩
theorem return_six {s s' : Mc} (f : Fr) (rest : List Fr) (h : Six s s') : Six (returnP f rest s) (returnP f rest s') := by
  unfold returnP
  split
  · exact h
  · split
    · exact ⟨rfl, h.arr, h.out, rfl, h.steps, rfl⟩
    · exact ⟨rfl, h.arr, h.out, h.gives, h.steps, h.fin⟩
theorem step_six {s s' : Mc} (h : Six s s') : Six (stepP F s) (stepP F s') := by
  cases hc : s.fr with
  | nil =>
    have hc' : s'.fr = [] := h.fr.trans hc
    have e1 : stepP F s = s := by unfold stepP; rw [hc]
    have e2 : stepP F s' = s' := by unfold stepP; rw [hc']
    rw [e1, e2]
    exact h
  | cons f rest =>
    rw [stepP_at hc, stepP_at (h.fr.trans hc)]
    unfold stepQ
    dsimp only
    have hst := h.steps
    split
    · exact ⟨rfl, h.arr, h.out, h.gives, by show s'.steps + 1 = _; rw [hst], h.fin⟩
    · split
      · split
        · exact ⟨h.fr, h.arr, h.out, h.gives, by show s'.steps + 1 = _; rw [hst], h.fin⟩
        · exact ⟨rfl, h.arr, h.out, h.gives, by show s'.steps + 1 = _; rw [hst], h.fin⟩
      · split
        · exact call_six _ _ _ ⟨h.fr, h.arr, h.out, h.gives, by show s'.steps + 1 = _; rw [hst], h.fin⟩
        · split
          · exact return_six _ _ ⟨h.fr, h.arr, h.out, h.gives, by show s'.steps + 1 = _; rw [hst], h.fin⟩
          · rw [h.arr, h.out]
            exact ⟨rfl, rfl, rfl, h.gives, by show s'.steps + 1 = _; rw [hst], rfl⟩

/-- Events turn no more than gears and counts. -/
theorem evs_six (hF : Fine m F K H) {E : List Ev} (hr : Rising 0 E) (hok : ∀ e, e ∈ E → EvOk m e) : ∀ n, Six (nthP F (startP F) n) (evS F (startP F) E n).1
  | 0 => (met_cm (F := F) E (startP F) (start_inv hF).1.highs).six
  | n + 1 => by
    have ih := evs_six hF hr hok n
    have hAt := run_at hF hr hok n
    show Six (if (nthP F (startP F) n).fin = 0 then stepP F (nthP F (startP F) n) else nthP F (startP F) n) (if (evS F (startP F) E n).1.fin = 0 then (if (stepP F (evS F (startP F) E n).1).fin = 0 then metP F (evS F (startP F) E n).2 (stepP F (evS F (startP F) E n).1) else (stepP F (evS F (startP F) E n).1, (evS F (startP F) E n).2)) else evS F (startP F) E n).1
    generalize evS F (startP F) E n = x at *
    generalize nthP F (startP F) n = y at *
    rw [ih.fin]
    by_cases hz : y.fin = 0
    · rw [if_pos hz, if_pos hz]
      have h1 := step_six (F := F) ih
      obtain ⟨hI, _⟩ := hAt.go (ih.fin.trans hz)
      split
      · rename_i hz2
        exact h1.trans (met_cm (F := F) x.2 (stepP F x.1) (step_inv hF hI hz2).highs).six
      · exact h1
    · rw [if_neg hz, if_neg hz]
      exact ih
end Go.Proofs.YtkafkipjedpohaaGreatDoor
