import Derived.Test.YtkafkipjedpohaaGreatDoorM16
import Derived.Test.YtkafkipjedpohaaGreatDoorA6
import Derived.Test.YtkafkipjedpohaaGreatDoorPureC
import Derived.Test.YtkafkipjedpohaaGreatDoorPureJ

/-
  slices.Clone, of values.
-/
namespace Go.Proofs.YtkafkipjedpohaaGreatDoor
open Go.RowKit

/-- A list of values that goes out: new memory. -/
def OutL (w w' : World) (v : Value) (l : List V) : Prop := Row w' w.heap.size (fun _ => 0) 0 43 2 v l.length (vcell l)

def valCells (l : List V) : List Value := (List.range (l.length * 2)).map (vcell l)

set_option maxRecDepth 100000 in
set_option maxHeartbeats 1000000 in
theorem cloneV (w : World) (B : Nat) (tag : Nat → Nat) (c : Nat) (v : Value) (l : List V) (hrow : Row w B tag c 43 2 v l.length (vcell l)) (hl : l.length ≤ 200000) :
    Calls Tryz.prog 63 #[v] w fun e w' => ∃ v', e = .returned v' ∧ Below w.heap.size w w' ∧ OutL w w' v' l := by
  rcases hrow with ⟨rfl, h0⟩ | ⟨b, cap, cur, rfl, hb, ht, hh, hc, hm, hs, hf⟩
  · have hnil := fun wx => Lib.run_eql_slice_nil (P := Tryz.prog) wx 44 43 none 0 0 0 0 Tryz.underlying44
    have HQ : Hid (OutL w w (.slice none 0 0) l) := Or.inl ⟨rfl, h0⟩
    clear h0
    go_enter Tryz.func63, Tryz.ntmps63
    go_wp2
    go_ret
    exact ⟨_, rfl, Below.refl _ _, HQ.out⟩
  · have hnil := fun wx => Lib.run_eql_slice_nil (P := Tryz.prog) wx 44 43 (some ⟨b, 0, none⟩) l.length cap 0 0 Tryz.underlying44
    have hbz := heap_lt hh
    obtain ⟨inf, hi, hz0, hz1, hz2⟩ : ∃ i, Tryz.prog.info? 43 = some i ∧ i.zero = some (.agg #[.int .i64 0, .int .i64 0]) ∧ i.size = 2 ∧ i.bytes = 16 := by
      obtain ⟨i, hi, hzz⟩ := Option.map_eq_some_iff.1 Tryz.info43
      simp only [Prod.mk.injEq] at hzz
      exact ⟨i, hi, hzz.1, hzz.2.1, hzz.2.2⟩
    have hA : Below w.heap.size w (w.alloc (.cells #[] 43)) := (Below.refl _ _).alloc (Nat.le_refl _) _
    by_cases hn : l.length = 0
    · have hrun := run_append_room_src (P := Tryz.prog) (w.alloc (.cells #[] 43)) 44 44 44 43 inf Tryz.underlying44 hi w.heap.size 0 0 0 (.slice (some ⟨b, 0, none⟩) 0 cap) 0 [] (Src.ofSlice _ Tryz.underlying44 ⟨b, 0, none⟩ 0 cap [] (by simp) (by simp) (by simp)) (by omega) (by simp) (by simp)
      have HR := hid hrun
      have HQ : Hid (OutL w (w.alloc (.cells #[] 43)) (.slice (some ⟨w.heap.size, 0, none⟩) 0 0) l) := by
        unfold Hid OutL
        rw [hn]
        exact Or.inr ⟨w.heap.size, 0, #[], rfl, Nat.le_refl _, rfl, Go.Deep.blk_alloc_new _ _, Nat.le_refl _, by unfold maxLen; omega, rfl, fun i hi => by omega⟩
      have HA := hid hA
      clear hrun hA hf hs hm hc hh
      rw [hn] at hnil ⊢
      clear hn
      go_enter Tryz.func63, Tryz.ntmps63
      go_wp2_with (at_builtin; refine wpList_append_run _ rfl _ _ 44 rfl _ _ _ _ rfl rfl HR.out ?_)
      go_ret
      exact ⟨_, rfl, HA.out, HQ.out⟩
    · have hown : (w.alloc (.cells #[] 43)).ownsRow w.heap.size 43 2 (.slice (some ⟨w.heap.size, 0, none⟩) 0 0) 0 [] :=
        ⟨rfl, Or.inr ⟨w.heap.size, 0, #[], rfl, Nat.le_refl _, Go.Deep.blk_alloc_new _ _, Nat.le_refl _, by unfold maxLen; omega, rfl, rfl⟩⟩
      have hnews : ∀ j u, (valCells l)[j]? = some u → (w.alloc (.cells #[] 43)).cell? ((⟨b, 0, none⟩ : Addr).add j) = some u := fun j u hu => by
        have hj : j < l.length * 2 := by have := (List.getElem?_eq_some_iff.1 hu).1; simpa [valCells] using this
        have hu' : vcell l j = u := by simpa [valCells, hj] using hu
        rw [Addr.add_lit, Nat.zero_add, ← hu']
        exact (hA.cell (p := ⟨b, j, none⟩) hbz).trans ((cell_heap hh).trans (hf j hj))
      have HO := hid (And.intro hown (And.intro hnews hA))
      clear hown hnews hA hf hs hm hc hh
      generalize hln : l.length = ln at *
      have HLN := hid hln
      clear hln
      go_enter Tryz.func63, Tryz.ntmps63
      go_wp2_with (at_builtin; refine stopHereM ?_)
      refine ⟨?_, trivial⟩
      refine wpList_append_lies _ rfl _ _ _ rfl w.heap.size 43 inf _ 2 16 Tryz.underlying44 hi hz0 hz1 hz2 rfl (by decide) (.slice (some ⟨w.heap.size, 0, none⟩) 0 0) 0 [] rfl HO.out.1 ⟨b, 0, none⟩ ln cap (valCells l) rfl (by simp [valCells, HLN.out]) HO.out.2.1 (fun u hu => by obtain ⟨j, _, rfl⟩ := List.mem_map.1 hu; exact vcell_one l j) (by omega) (by unfold maxLen; omega) (by omega) (by simp) _ rfl ?_
      intro g cap2 w2 hown2 hgrow hat hlt
      have hB2 : Below w.heap.size w w2 := HO.out.2.2.trans ⟨hgrow.os, hgrow.tape, hgrow.output, hgrow.size, fun k hk => hgrow.block k (by rw [World.size_alloc]; omega) (by intro e; have e' : some k = some w.heap.size := e; injection e' with e'; omega)⟩
      have hQ : OutL w w2 (.slice (some ⟨g, 0, none⟩) ln cap2) l := by
        unfold OutL
        rw [HLN.out]
        have h := Row.of_owns (tag := fun _ => 0) (c := 0) (f := vcell l) hown2 rfl (fun i hi => by
          rw [List.nil_append]
          have hi' : i < l.length * 2 := by rw [HLN.out]; omega
          simp [valCells, hi'])
        rw [Nat.zero_add] at h
        exact h
      have HQ := hid (And.intro hB2 hQ)
      clear hB2 hQ hown2 hgrow hat hlt
      go_wp2
      go_ret
      exact ⟨_, rfl, HQ.out⟩
end Go.Proofs.YtkafkipjedpohaaGreatDoor

/-
  The project's own stacks: List.
-/
namespace Go.Proofs.YtkafkipjedpohaaGreatDoor
open Go.RowKit

set_option maxRecDepth 100000 in
set_option maxHeartbeats 1000000 in
theorem listV (w : World) (b o B : Nat) (tag : Nat → Nat) (c : Nat) (v : Value) (l : List V) (hc : w.cell? ⟨b, o, none⟩ = some v) (hrow : Row w B tag c 43 2 v l.length (vcell l)) (hl : l.length ≤ 200000) :
    Calls Tryz.prog 65 #[.pointer (some ⟨b, o, none⟩)] w fun e w' => ∃ v', e = .returned v' ∧ Below w.heap.size w w' ∧ OutL w w' v' l := by
  obtain ⟨inf, hi, hz0, hz1, hz2⟩ : ∃ i, Tryz.prog.info? 43 = some i ∧ i.zero = some (.agg #[.int .i64 0, .int .i64 0]) ∧ i.size = 2 ∧ i.bytes = 16 := by
    obtain ⟨i, hi, hzz⟩ := Option.map_eq_some_iff.1 Tryz.info43
    simp only [Prod.mk.injEq] at hzz
    exact ⟨i, hi, hzz.1, hzz.2.1, hzz.2.2⟩
  by_cases hn : l.length = 0
  · obtain ⟨p, cp, hv, _⟩ := hrow.any
    rw [hn] at hv
    subst hv
    have HQ : Hid (OutL w w (.slice none 0 0) l) := Or.inl ⟨rfl, hn⟩
    clear hrow hn
    rcases p with _ | ⟨pb, po, pe⟩
    · go_enter Tryz.func65, Tryz.ntmps65
      go_wp2
      go_ret
      exact ⟨_, rfl, Below.refl _ _, HQ.out⟩
    · go_enter Tryz.func65, Tryz.ntmps65
      go_wp2
      go_ret
      exact ⟨_, rfl, Below.refl _ _, HQ.out⟩
  · obtain ⟨sb, scap, hv, _, hsz, _, _⟩ := hrow.form (by omega)
    rw [hv] at hrow
    subst hv
    have hown : w.ownsRow w.heap.size 43 2 (.slice none 0 0) 0 [] := ⟨rfl, Or.inl ⟨rfl, rfl⟩⟩
    have hnews : ∀ j u, (valCells l)[j]? = some u → w.cell? ((⟨sb, 0, none⟩ : Addr).add j) = some u := fun j u hu => by
      have hj : j < l.length * 2 := by have := (List.getElem?_eq_some_iff.1 hu).1; simpa [valCells] using this
      have hu' : vcell l j = u := by simpa [valCells, hj] using hu
      rw [Addr.add_lit, Nat.zero_add, ← hu']
      exact hrow.cell hj
    have HO := hid (And.intro hown hnews)
    clear hown hnews hrow
    generalize hln : l.length = ln at *
    have HLN := hid hln
    clear hln
    go_enter Tryz.func65, Tryz.ntmps65
    go_wp2_with (at_builtin; refine stopHereM ?_)
    refine ⟨?_, trivial⟩
    refine wpList_append_lies _ rfl _ _ _ rfl w.heap.size 43 inf _ 2 16 Tryz.underlying44 hi hz0 hz1 hz2 rfl (by decide) (.slice none 0 0) 0 [] rfl HO.out.1 ⟨sb, 0, none⟩ ln scap (valCells l) rfl (by simp [valCells, HLN.out]) HO.out.2 (fun u hu => by obtain ⟨j, _, rfl⟩ := List.mem_map.1 hu; exact vcell_one l j) (by omega) (by unfold maxLen; omega) (by omega) (Nat.le_refl _) _ rfl ?_
    intro g cap2 w2 hown2 hgrow hat hlt
    have hB2 : Below w.heap.size w w2 := ⟨hgrow.os, hgrow.tape, hgrow.output, hgrow.size, fun k hk => hgrow.block k hk (by intro e; cases e)⟩
    have hQ : OutL w w2 (.slice (some ⟨g, 0, none⟩) ln cap2) l := by
      unfold OutL
      rw [HLN.out]
      have h := Row.of_owns (tag := fun _ => 0) (c := 0) (f := vcell l) hown2 rfl (fun i hi => by
        rw [List.nil_append]
        have hi' : i < l.length * 2 := by rw [HLN.out]; omega
        simp [valCells, hi'])
      rw [Nat.zero_add] at h
      exact h
    have HQ := hid (And.intro hB2 hQ)
    clear hB2 hQ hown2 hgrow hat hlt
    go_wp2
    go_ret
    exact ⟨_, rfl, HQ.out⟩
/-- A list of frames' addresses: new memory. -/
def OutF (w w' : World) (v : Value) (n : Nat) (FB : Nat → Nat) : Prop := Row w' w.heap.size (fun _ => 0) 0 133 1 v n (pcell FB)

set_option maxRecDepth 100000 in
set_option maxHeartbeats 1000000 in
theorem listF (w : World) (b o B : Nat) (tag : Nat → Nat) (c : Nat) (v : Value) (ln : Nat) (FB : Nat → Nat) (hc : w.cell? ⟨b, o, none⟩ = some v) (hrow : Row w B tag c 133 1 v ln (pcell FB)) (hl : ln ≤ 200000) :
    Calls Tryz.prog 64 #[.pointer (some ⟨b, o, none⟩)] w fun e w' => ∃ v', e = .returned v' ∧ Below w.heap.size w w' ∧ OutF w w' v' ln FB := by
  obtain ⟨inf, hi, hz0, hz1, hz2⟩ : ∃ i, Tryz.prog.info? 133 = some i ∧ i.zero = some (.pointer none) ∧ i.size = 1 ∧ i.bytes = 8 := by
    obtain ⟨i, hi, hzz⟩ := Option.map_eq_some_iff.1 Tryz.infoPtr
    simp only [Prod.mk.injEq] at hzz
    exact ⟨i, hi, hzz.1, hzz.2.1, hzz.2.2⟩
  by_cases hn : ln = 0
  · obtain ⟨p, cp, hv, _⟩ := hrow.any
    rw [hn] at hv
    subst hv
    have HQ : Hid (OutF w w (.slice none 0 0) ln FB) := Or.inl ⟨rfl, hn⟩
    clear hrow hn
    rcases p with _ | ⟨pb, po, pe⟩
    · go_enter Tryz.func64, Tryz.ntmps64
      go_wp2
      go_ret
      exact ⟨_, rfl, Below.refl _ _, HQ.out⟩
    · go_enter Tryz.func64, Tryz.ntmps64
      go_wp2
      go_ret
      exact ⟨_, rfl, Below.refl _ _, HQ.out⟩
  · obtain ⟨sb, scap, hv, _, hsz, _, _⟩ := hrow.form (by omega)
    rw [hv] at hrow
    subst hv
    have hown : w.ownsRow w.heap.size 133 1 (.slice none 0 0) 0 [] := ⟨rfl, Or.inl ⟨rfl, rfl⟩⟩
    have hnews : ∀ j u, ((List.range ln).map (pcell FB))[j]? = some u → w.cell? ((⟨sb, 0, none⟩ : Addr).add j) = some u := fun j u hu => by
      have hj : j < ln := by have := (List.getElem?_eq_some_iff.1 hu).1; simpa using this
      have hu' : pcell FB j = u := by simpa [hj] using hu
      rw [Addr.add_lit, Nat.zero_add, ← hu']
      exact hrow.cell (by omega)
    have HO := hid (And.intro hown hnews)
    clear hown hnews hrow
    go_enter Tryz.func64, Tryz.ntmps64
    go_wp2_with (at_builtin; refine stopHereM ?_)
    refine ⟨?_, trivial⟩
    refine wpList_append_lies _ rfl _ _ _ rfl w.heap.size 133 inf _ 1 8 Tryz.underlying126 hi hz0 hz1 hz2 rfl (by decide) (.slice none 0 0) 0 [] rfl HO.out.1 ⟨sb, 0, none⟩ ln scap ((List.range ln).map (pcell FB)) rfl (by simp) HO.out.2 (fun u hu => by obtain ⟨j, _, rfl⟩ := List.mem_map.1 hu; rfl) (by omega) (by unfold maxLen; omega) (by omega) (Nat.le_refl _) _ rfl ?_
    intro g cap2 w2 hown2 hgrow hat hlt
    have hB2 : Below w.heap.size w w2 := ⟨hgrow.os, hgrow.tape, hgrow.output, hgrow.size, fun k hk => hgrow.block k hk (by intro e; cases e)⟩
    have hQ : OutF w w2 (.slice (some ⟨g, 0, none⟩) ln cap2) ln FB := by
      unfold OutF
      have h := Row.of_owns (tag := fun _ => 0) (c := 0) (f := pcell FB) hown2 rfl (fun i hi => by
        rw [List.nil_append]
        have hi' : i < ln := by omega
        simp [hi'])
      rw [Nat.zero_add] at h
      exact h
    have HQ := hid (And.intro hB2 hQ)
    clear hB2 hQ hown2 hgrow hat hlt
    go_wp2
    go_ret
    exact ⟨_, rfl, HQ.out⟩
end Go.Proofs.YtkafkipjedpohaaGreatDoor

/-
  Runs with events, as plain mathematics. No Go here.
-/
namespace Go.Proofs.YtkafkipjedpohaaGreatDoor

variable {m : Nat} {F : Nat → PF} {K : Nat → Nat → Bool} {H : Nat → Nat → Int}

/-- An event: its step, its kind, its number. -/
structure Ev where
  st : Int
  k : Int
  n : Int

/-- The events of a step that has come, come. -/
def metP (F : Nat → PF) : List Ev → Mc → Mc × List Ev
  | [], s => (s, [])
  | e :: r, s => if e.st ≤ s.steps then metP F r (comesP F e.k e.n s) else (s, e :: r)

/-- A run behind n steps, the events ahead of the next one met. -/
def evS (F : Nat → PF) (s0 : Mc) (E0 : List Ev) : Nat → Mc × List Ev
  | 0 => metP F E0 s0
  | n + 1 => if (evS F s0 E0 n).1.fin = 0 then (if (stepP F (evS F s0 E0 n).1).fin = 0 then metP F (evS F s0 E0 n).2 (stepP F (evS F s0 E0 n).1) else (stepP F (evS F s0 E0 n).1, (evS F s0 E0 n).2)) else evS F s0 E0 n

/-- Events that may be: of a kind, and of a function that there is. -/
def EvOk (m : Nat) (e : Ev) : Prop := 0 ≤ e.st ∧ (e.k = 1 ∨ e.k = 2 ∨ e.k = 3 ∨ e.k = 4) ∧ (e.k ≤ 2 → 0 ≤ e.n ∧ e.n < m)
/-- Rising from a on. -/
def Rising (a : Int) : List Ev → Prop
  | [] => True
  | e :: r => a ≤ e.st ∧ Rising e.st r
theorem Rising.mono {a b : Int} {E : List Ev} (h : Rising a E) (hb : b ≤ a) : Rising b E := by
  cases E with
  | nil => trivial
  | cons e r => exact ⟨by have := h.1; omega, h.2⟩

theorem downs_len (all : Bool) (n : Int) : ∀ (fr : List Fr) (hs : List Bool), (downs all n fr hs).1.length = hs.length
  | [], hs => by cases hs <;> rfl
  | _ :: _, [] => rfl
  | f :: fr, h :: hs => by
    unfold downs
    dsimp only
    have := downs_len all n fr hs
    split <;> simp [this]

/-- What an event leaves as it was. -/
structure Cm (s s' : Mc) : Prop where
  fr : s'.fr = s.fr
  arr : s'.arr = s.arr
  out : s'.out = s.out
  gives : s'.gives = s.gives
  steps : s'.steps = s.steps
  fin : s'.fin = s.fin
  hl : s'.high.length = s.high.length
  cH : s'.cH = s.cH
theorem Cm.refl (s : Mc) : Cm s s := ⟨rfl, rfl, rfl, rfl, rfl, rfl, rfl, rfl⟩
theorem Cm.trans {s t u : Mc} (h : Cm s t) (k : Cm t u) : Cm s u := ⟨k.fr.trans h.fr, k.arr.trans h.arr, k.out.trans h.out, k.gives.trans h.gives, k.steps.trans h.steps, k.fin.trans h.fin, k.hl.trans h.hl, k.cH.trans h.cH⟩
theorem comes_cm (kd n : Int) (s : Mc) (hl : s.high.length = s.fr.length) : Cm s (comesP F kd n s) := by
  unfold comesP
  split
  · exact ⟨rfl, rfl, rfl, rfl, rfl, rfl, rfl, rfl⟩
  · split
    · split
      · exact Cm.refl s
      · rename_i f r hfr
        split
        · refine ⟨hfr ▸ rfl, rfl, rfl, rfl, rfl, rfl, ?_, rfl⟩
          show (true :: s.high.drop 1).length = _
          rw [hfr] at hl
          simp at hl
          simp
          omega
        · exact Cm.refl s
    · exact ⟨rfl, rfl, rfl, rfl, rfl, rfl, downs_len _ _ _ _, rfl⟩
theorem met_cm : ∀ (E : List Ev) (s : Mc), s.high.length = s.fr.length → Cm s (metP F E s).1
  | [], s, _ => Cm.refl s
  | e :: r, s, hl => by
    unfold metP
    split
    · have h1 := comes_cm (F := F) e.k e.n s hl
      exact h1.trans (met_cm r _ (by rw [h1.hl, h1.fr]; exact hl))
    · exact Cm.refl s
theorem Cm.inv {s s' : Mc} (h : Cm s s') (hI : Inv m F K H s) : Inv m F K H s' := by
  obtain ⟨⟨f, rest, h1, h2, h3, h4⟩, h5, h6, h7⟩ := hI
  exact ⟨⟨f, rest, h.fr.trans h1, by rw [h.arr]; exact h2, by rw [h.arr]; exact h3, h4⟩, by rw [h.hl, h.fr]; exact h5, by rw [h.arr]; exact h6, by rw [h.arr]; exact h7⟩
theorem Cm.low {s s' : Mc} (h : Cm s s') (hl : Low16 H s) : Low16 H s' := fun g hg => hl g (by rw [← h.fr]; exact hg)
theorem Cm.bd {s s' : Mc} (h : Cm s s') (hb : Bd s) : Bd s' := ⟨by rw [h.out, h.steps]; exact hb.out, by rw [h.arr, h.steps]; exact hb.arr, by rw [h.cH, h.steps]; exact hb.cH⟩

theorem met_rest : ∀ (E : List Ev) (s : Mc) (a : Int), Rising a E → s.high.length = s.fr.length → Rising (s.steps + 1) (metP F E s).2 ∧ ∀ e, e ∈ (metP F E s).2 → e ∈ E
  | [], s, a, _, _ => ⟨trivial, fun e he => he⟩
  | e :: r, s, a, h, hl => by
    unfold metP
    split
    · have h1 := comes_cm (F := F) e.k e.n s hl
      obtain ⟨h2, h3⟩ := met_rest r (comesP F e.k e.n s) e.st h.2 (by rw [h1.hl, h1.fr]; exact hl)
      rw [h1.steps] at h2
      exact ⟨h2, fun e' he => List.mem_cons_of_mem _ (h3 e' he)⟩
    · exact ⟨⟨by omega, h.2⟩, fun e he => he⟩

/-- What is known of a run behind n steps. -/
structure EvAt (m : Nat) (F : Nat → PF) (K : Nat → Nat → Bool) (H : Nat → Nat → Int) (n : Nat) (x : Mc × List Ev) : Prop where
  go : x.1.fin = 0 → Inv m F K H x.1 ∧ Low16 H x.1 ∧ Bd x.1 ∧ x.1.steps = n ∧ Rising (n + 1) x.2
  ok : ∀ e, e ∈ x.2 → EvOk m e
  fin : x.1.fin = 0 ∨ x.1.fin = 1 ∨ (3 ≤ x.1.fin ∧ x.1.fin ≤ 8)
  fr : x.1.fr = [] ↔ x.1.fin = 1
  le : x.1.steps ≤ n

theorem met_at {n : Nat} {E : List Ev} {s : Mc} {a : Int} (hI : Inv m F K H s) (h16 : Low16 H s) (hb : Bd s) (hs : s.steps = n) (h0 : s.fin = 0) (hr : Rising a E) (hok : ∀ e, e ∈ E → EvOk m e) : EvAt m F K H n (metP F E s) := by
  have hc := met_cm (F := F) E s hI.highs
  obtain ⟨h1, h2⟩ := met_rest (F := F) E s a hr hI.highs
  rw [hs] at h1
  refine ⟨fun _ => ⟨hc.inv hI, hc.low h16, hc.bd hb, hc.steps.trans hs, h1⟩, fun e he => hok e (h2 e he), Or.inl (hc.fin.trans h0), ⟨fun e => absurd (hc.fr.symm.trans e) hI.some, fun e => by rw [hc.fin, h0] at e; exact absurd e (by decide)⟩, by rw [hc.steps, hs]; exact Nat.le_refl _⟩

theorem evs_at (hF : Fine m F K H) {s0 : Mc} {E0 : List Ev} (hI : Inv m F K H s0) (h16 : Low16 H s0) (hb : Bd s0) (hs : s0.steps = 0) (h0 : s0.fin = 0) (hr : Rising 0 E0) (hok : ∀ e, e ∈ E0 → EvOk m e) : ∀ n, EvAt m F K H n (evS F s0 E0 n)
  | 0 => met_at hI h16 hb hs h0 hr hok
  | n + 1 => by
    have ih := evs_at hF hI h16 hb hs h0 hr hok n
    unfold evS
    generalize evS F s0 E0 n = x at *
    split
    · rename_i hz
      obtain ⟨i1, i2, i3, i4, i5⟩ := ih.go hz
      have hst := step_facts (F := F) hz i1.some
      obtain ⟨f, rest, hfr, _⟩ := i1.top
      split
      · rename_i h1
        exact met_at (step_inv hF i1 h1) (step16 hF i1 i2 h1) (Bd.step i3 hz hfr) (by rw [hst.steps, i4]) h1 i5 ih.ok
      · rename_i h1
        exact ⟨fun e => absurd e h1, ih.ok, hst.fin, hst.fr, by rw [hst.steps, i4]; omega⟩
    · rename_i hz
      exact ⟨fun e => absurd e hz, ih.ok, ih.fin, ih.fr, by have := ih.le; omega⟩

theorem met_none {E : List Ev} {s : Mc} (h : Rising (s.steps + 1) E) : metP F E s = (s, E) := by
  cases E with
  | nil => rfl
  | cons e r =>
    unfold metP
    rw [if_neg (by have := h.1; omega)]

theorem evs_stay {s0 : Mc} {E0 : List Ev} {n : Nat} (h : (evS F s0 E0 n).1.fin ≠ 0) : ∀ k, n ≤ k → evS F s0 E0 k = evS F s0 E0 n
  | 0, hk => by
    obtain rfl : n = 0 := by omega
    rfl
  | k + 1, hk => by
    by_cases e : n = k + 1
    · rw [e]
    · have ih := evs_stay h k (by omega)
      show (if (evS F s0 E0 k).1.fin = 0 then _ else evS F s0 E0 k) = _
      rw [ih, if_neg h]

/-- n steps with no event between them. -/
theorem evs_steps (hF : Fine m F K H) {s0 : Mc} {E0 : List Ev} (hA : ∀ n, EvAt m F K H n (evS F s0 E0 n)) : ∀ (n j : Nat) (s t : Mc) (E : List Ev), evS F s0 E0 j = (s, E) → s.fin = 0 → Steps F n s t → 1 ≤ n → (E ≠ [] → (j : Int) + n ≤ (E.headD ⟨0, 0, 0⟩).st) →
    evS F s0 E0 (j + n) = if t.fin = 0 then metP F E t else (t, E)
  | 0, _, _, _, _, _, _, _, h, _ => by omega
  | n + 1, j, s, t, E, he, hz, hst, _, hE => by
    cases hst with
    | more h0 hst =>
      have hj := hA j
      rw [he] at hj
      obtain ⟨i1, i2, i3, i4, i5⟩ := hj.go hz
      have hsf := step_facts (F := F) hz i1.some
      have e1 : evS F s0 E0 (j + 1) = if (stepP F s).fin = 0 then metP F E (stepP F s) else (stepP F s, E) := by
        show (if (evS F s0 E0 j).1.fin = 0 then _ else _) = _
        rw [he, if_pos hz]
      cases n with
      | zero =>
        cases hst with
        | none => exact e1
      | succ n =>
        have h1 : (stepP F s).fin = 0 := by cases hst with | more h0 _ => exact h0
        rw [if_pos h1] at e1
        have hr : Rising ((stepP F s).steps + 1) E := by
          rw [hsf.steps, i4]
          cases E with
          | nil => trivial
          | cons e r =>
            have := hE (by simp)
            simp only [List.headD_cons] at this
            exact ⟨by omega, i5.2⟩
        rw [met_none hr] at e1
        have := evs_steps hF hA (n + 1) (j + 1) (stepP F s) t E e1 h1 hst (by omega) (fun h => by have := hE h; omega)
        rw [show j + (n + 1 + 1) = j + 1 + (n + 1) by omega]
        exact this
end Go.Proofs.YtkafkipjedpohaaGreatDoor

/-
  Frames that go down, counted from the oldest on. No Go here.
-/
namespace Go.Proofs.YtkafkipjedpohaaGreatDoor

/-- Does the frame go down? -/
def goesDown (all : Bool) (n : Int) (f : Fr) : Bool := all || decide ((f.fn : Int) = n)
/-- Which frames are high when the j oldest ones have been looked at. -/
def lowTo (all : Bool) (n : Int) (fr : List Fr) (hs : List Bool) (j : Nat) : List Bool := ((List.range fr.length).map fun i => if i < j ∧ goesDown all n (frAt fr i) = true then false else hiAt hs i).reverse
def lowCnt (all : Bool) (n : Int) (fr : List Fr) (hs : List Bool) (j : Nat) : Nat := ((List.range j).filter fun i => goesDown all n (frAt fr i) && hiAt hs i).length

theorem lowTo_len (all : Bool) (n : Int) (fr : List Fr) (hs : List Bool) (j : Nat) : (lowTo all n fr hs j).length = fr.length := by simp [lowTo]
theorem lowTo_at (all : Bool) (n : Int) (fr : List Fr) (hs : List Bool) (j i : Nat) (hi : i < fr.length) : hiAt (lowTo all n fr hs j) i = if i < j ∧ goesDown all n (frAt fr i) = true then false else hiAt hs i := by
  unfold hiAt lowTo
  rw [List.reverse_reverse, List.getD_eq_getElem?_getD, List.getElem?_map, List.getElem?_range hi]
  rfl
theorem list_hiAt (hs : List Bool) : hs = ((List.range hs.length).map (hiAt hs)).reverse := by
  have : hs.reverse = (List.range hs.length).map (hiAt hs) := by
    refine List.ext_getElem (by simp) (fun i h1 h2 => ?_)
    simp only [List.length_reverse] at h1
    simp only [List.getElem_map, List.getElem_range]
    unfold hiAt
    rw [List.getD_eq_getElem?_getD, List.getElem?_eq_getElem (by simpa using h1)]
    rfl
  rw [← this, List.reverse_reverse]
theorem lowTo_zero (all : Bool) (n : Int) (fr : List Fr) (hs : List Bool) (h : hs.length = fr.length) : lowTo all n fr hs 0 = hs := by
  conv => rhs; rw [list_hiAt hs]
  unfold lowTo
  rw [h]
  refine congrArg List.reverse (List.map_congr_left (fun i hi => ?_))
  rw [if_neg (by omega)]
theorem lowCnt_succ (all : Bool) (n : Int) (fr : List Fr) (hs : List Bool) (j : Nat) : lowCnt all n fr hs (j + 1) = lowCnt all n fr hs j + if (goesDown all n (frAt fr j) && hiAt hs j) = true then 1 else 0 := by
  unfold lowCnt
  rw [List.range_succ, List.filter_append, List.length_append]
  congr 1
  simp only [List.filter_cons, List.filter_nil]
  split <;> rfl

theorem downs_is (all : Bool) (n : Int) : ∀ (fr : List Fr) (hs : List Bool), hs.length = fr.length → downs all n fr hs = (lowTo all n fr hs fr.length, lowCnt all n fr hs fr.length)
  | [], hs, h => by
    obtain rfl : hs = [] := List.eq_nil_of_length_eq_zero h
    rfl
  | f :: fr, [], h => by simp at h
  | f :: fr, b :: hs, h => by
    have hl : hs.length = fr.length := by simpa using h
    have ih := downs_is all n fr hs hl
    have e1 : lowTo all n (f :: fr) (b :: hs) (fr.length + 1) = (if goesDown all n f = true then false else b) :: lowTo all n fr hs fr.length := by
      unfold lowTo
      rw [List.length_cons, List.range_succ, List.map_append, List.reverse_append, List.map_cons, List.map_nil, List.reverse_singleton, List.singleton_append]
      refine congr (congrArg List.cons ?_) (congrArg List.reverse (List.map_congr_left (fun i hi => ?_)))
      · rw [frAt_top, hiAt_top b hs hl.symm]
        by_cases c : goesDown all n f = true
        · rw [if_pos ⟨by omega, c⟩, if_pos c]
        · rw [if_neg (fun h => c h.2), if_neg c]
      · have hi' := List.mem_range.1 hi
        rw [frAt_rest _ _ _ hi', hiAt_rest _ _ _ (by omega)]
        by_cases c : goesDown all n (frAt fr i) = true
        · rw [if_pos ⟨by omega, c⟩, if_pos ⟨by omega, c⟩]
        · rw [if_neg (fun h => c h.2), if_neg (fun h => c h.2)]
    have e2 : lowCnt all n (f :: fr) (b :: hs) (fr.length + 1) = lowCnt all n fr hs fr.length + if (goesDown all n f && b) = true then 1 else 0 := by
      rw [lowCnt_succ, frAt_top, hiAt_top b hs hl.symm]
      congr 1
      unfold lowCnt
      congr 1
      refine List.filter_congr (fun i hi => ?_)
      have hi' := List.mem_range.1 hi
      rw [frAt_rest _ _ _ hi', hiAt_rest _ _ _ (by omega)]
    show (let r := downs all n fr hs; if b = true ∧ (all = true ∨ (f.fn : Int) = n) then (false :: r.1, r.2 + 1) else (b :: r.1, r.2)) = _
    rw [List.length_cons, e1, e2, ih]
    dsimp only
    have e3 : (all = true ∨ (f.fn : Int) = n) ↔ goesDown all n f = true := by unfold goesDown; simp
    by_cases c : goesDown all n f = true
    · have c' := e3.2 c
      cases b <;> simp [c, c']
    · have c' : ¬ (all = true ∨ (f.fn : Int) = n) := fun h => c (e3.1 h)
      rw [if_neg (fun h => c' h.2), if_neg c]
      cases b <;> simp [c]
end Go.Proofs.YtkafkipjedpohaaGreatDoor
