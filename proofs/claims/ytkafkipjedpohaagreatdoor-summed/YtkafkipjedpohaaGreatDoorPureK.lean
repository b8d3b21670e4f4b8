import Derived.Test.YtkafkipjedpohaaGreatDoorPureJ
import Derived.Test.YtkafkipjedpohaaGreatDoorC3
import Derived.Test.YtkafkipjedpohaaGreatDoorZc

/-
  Runs with events, as plain mathematics. No Go here.
-/
namespace Go.Proofs.YtkafkipjedpohaaGreatDoor

variable {m : Nat} {F : Nat → PF} {K : Nat → Nat → Bool} {H : Nat → Nat → Int}

/-- An event: its step, its kind, its number. -/
structure Ev where
  st : Int
  k : Int
  n : Int

/-- The events of a step that has come, come. -/
def metP (F : Nat → PF) : List Ev → Mc → Mc × List Ev
  | [], s => (s, [])
  | e :: r, s => if e.st ≤ s.steps then metP F r (comesP F e.k e.n s) else (s, e :: r)

/-- A run behind n steps, the events ahead of the next one met. -/
def evS (F : Nat → PF) (s0 : Mc) (E0 : List Ev) : Nat → Mc × List Ev
  | 0 => metP F E0 s0
  | n + 1 => if (evS F s0 E0 n).1.fin = 0 then (if (stepP F (evS F s0 E0 n).1).fin = 0 then metP F (evS F s0 E0 n).2 (stepP F (evS F s0 E0 n).1) else (stepP F (evS F s0 E0 n).1, (evS F s0 E0 n).2)) else evS F s0 E0 n

/-- Events that may be: of a kind, and of a function that there is. -/
def EvOk (m : Nat) (e : Ev) : Prop := 0 ≤ e.st ∧ (e.k = 1 ∨ e.k = 2 ∨ e.k = 3 ∨ e.k = 4) ∧ (e.k ≤ 2 → 0 ≤ e.n ∧ e.n < m)
/-- Rising from a on. -/
def Rising (a : Int) : List Ev → Prop
  | [] => True
  | e :: r => a ≤ e.st ∧ Rising e.st r
theorem Rising.mono {a b : Int} {E : List Ev} (h : Rising a E) (hb : b ≤ a) : Rising b E := by
  cases E with
  | nil => trivial
  | cons e r => exact ⟨by have := h.1; omega, h.2⟩

theorem downs_len (all : Bool) (n : Int) : ∀ (fr : List Fr) (hs : List Bool), (downs all n fr hs).1.length = hs.length
  | [], hs => by cases hs <;> rfl
  | _ :: _, [] => rfl
  | f :: fr, h :: hs => by
    unfold downs
    dsimp only
    have := downs_len all n fr hs
    split <;> simp [this]

/-- What an event leaves as it was. -/
structure Cm (s s' : Mc) : Prop where
  fr : s'.fr = s.fr
  arr : s'.arr = s.arr
  out : s'.out = s.out
  gives : s'.gives = s.gives
  steps : s'.steps = s.steps
  fin : s'.fin = s.fin
  hl : s'.high.length = s.high.length
  cH : s'.cH = s.cH
theorem Cm.refl (s : Mc) : Cm s s := ⟨rfl, rfl, rfl, rfl, rfl, rfl, rfl, rfl⟩
theorem Cm.trans {s t u : Mc} (h : Cm s t) (k : Cm t u) : Cm s u := ⟨k.fr.trans h.fr, k.arr.trans h.arr, k.out.trans h.out, k.gives.trans h.gives, k.steps.trans h.steps, k.fin.trans h.fin, k.hl.trans h.hl, k.cH.trans h.cH⟩
theorem comes_cm (kd n : Int) (s : Mc) (hl : s.high.length = s.fr.length) : Cm s (comesP F kd n s) := by
  unfold comesP
  split
  · exact ⟨rfl, rfl, rfl, rfl, rfl, rfl, rfl, rfl⟩
  · split
    · split
      · exact Cm.refl s
      · rename_i f r hfr
        split
        · refine ⟨hfr ▸ rfl, rfl, rfl, rfl, rfl, rfl, ?_, rfl⟩
          show (true :: s.high.drop 1).length = _
          rw [hfr] at hl
          simp at hl
          simp
          omega
        · exact Cm.refl s
    · exact ⟨rfl, rfl, rfl, rfl, rfl, rfl, downs_len _ _ _ _, rfl⟩
theorem met_cm : ∀ (E : List Ev) (s : Mc), s.high.length = s.fr.length → Cm s (metP F E s).1
  | [], s, _ => Cm.refl s
  | e :: r, s, hl => by
    unfold metP
    split
    · have h1 := comes_cm (F := F) e.k e.n s hl
      exact h1.trans (met_cm r _ (by rw [h1.hl, h1.fr]; exact hl))
    · exact Cm.refl s
theorem Cm.inv {s s' : Mc} (h : Cm s s') (hI : Inv m F K H s) : Inv m F K H s' := by
  obtain ⟨⟨f, rest, h1, h2, h3, h4⟩, h5, h6, h7⟩ := hI
  exact ⟨⟨f, rest, h.fr.trans h1, by rw [h.arr]; exact h2, by rw [h.arr]; exact h3, h4⟩, by rw [h.hl, h.fr]; exact h5, by rw [h.arr]; exact h6, by rw [h.arr]; exact h7⟩
theorem Cm.low {s s' : Mc} (h : Cm s s') (hl : Low16 H s) : Low16 H s' := fun g hg => hl g (by rw [← h.fr]; exact hg)
theorem Cm.bd {s s' : Mc} (h : Cm s s') (hb : Bd s) : Bd s' := ⟨by rw [h.out, h.steps]; exact hb.out, by rw [h.arr, h.steps]; exact hb.arr, by rw [h.cH, h.steps]; exact hb.cH⟩

theorem met_rest : ∀ (E : List Ev) (s : Mc) (a : Int), Rising a E → s.high.length = s.fr.length → Rising (s.steps + 1) (metP F E s).2 ∧ ∀ e, e ∈ (metP F E s).2 → e ∈ E
  | [], s, a, _, _ => ⟨trivial, fun e he => he⟩
  | e :: r, s, a, h, hl => by
    unfold metP
    split
    · have h1 := comes_cm (F := F) e.k e.n s hl
      obtain ⟨h2, h3⟩ := met_rest r (comesP F e.k e.n s) e.st h.2 (by rw [h1.hl, h1.fr]; exact hl)
      rw [h1.steps] at h2
      exact ⟨h2, fun e' he => List.mem_cons_of_mem _ (h3 e' he)⟩
    · exact ⟨⟨by omega, h.2⟩, fun e he => he⟩

/-- What is known of a run behind n steps. -/
structure EvAt (m : Nat) (F : Nat → PF) (K : Nat → Nat → Bool) (H : Nat → Nat → Int) (n : Nat) (x : Mc × List Ev) : Prop where
  go : x.1.fin = 0 → Inv m F K H x.1 ∧ Low16 H x.1 ∧ Bd x.1 ∧ x.1.steps = n ∧ Rising (n + 1) x.2
  ok : ∀ e, e ∈ x.2 → EvOk m e
  fin : x.1.fin = 0 ∨ x.1.fin = 1 ∨ (3 ≤ x.1.fin ∧ x.1.fin ≤ 8)
  fr : x.1.fr = [] ↔ x.1.fin = 1
  le : x.1.steps ≤ n

theorem met_at {n : Nat} {E : List Ev} {s : Mc} {a : Int} (hI : Inv m F K H s) (h16 : Low16 H s) (hb : Bd s) (hs : s.steps = n) (h0 : s.fin = 0) (hr : Rising a E) (hok : ∀ e, e ∈ E → EvOk m e) : EvAt m F K H n (metP F E s) := by
  have hc := met_cm (F := F) E s hI.highs
  obtain ⟨h1, h2⟩ := met_rest (F := F) E s a hr hI.highs
  rw [hs] at h1
  refine ⟨fun _ => ⟨hc.inv hI, hc.low h16, hc.bd hb, hc.steps.trans hs, h1⟩, fun e he => hok e (h2 e he), Or.inl (hc.fin.trans h0), ⟨fun e => absurd (hc.fr.symm.trans e) hI.some, fun e => by rw [hc.fin, h0] at e; exact absurd e (by decide)⟩, by rw [hc.steps, hs]; exact Nat.le_refl _⟩

theorem evs_at (hF : Fine m F K H) {s0 : Mc} {E0 : List Ev} (hI : Inv m F K H s0) (h16 : Low16 H s0) (hb : Bd s0) (hs : s0.steps = 0) (h0 : s0.fin = 0) (hr : Rising 0 E0) (hok : ∀ e, e ∈ E0 → EvOk m e) : ∀ n, EvAt m F K H n (evS F s0 E0 n)
  | 0 => met_at hI h16 hb hs h0 hr hok
  | n + 1 => by
    have ih := evs_at hF hI h16 hb hs h0 hr hok n
    unfold evS
    generalize evS F s0 E0 n = x at *
    split
    · rename_i hz
      obtain ⟨i1, i2, i3, i4, i5⟩ := ih.go hz
      have hst := step_facts (F := F) hz i1.some
      obtain ⟨f, rest, hfr, _⟩ := i1.top
      split
      · rename_i h1
        exact met_at (step_inv hF i1 h1) (step16 hF i1 i2 h1) (Bd.step i3 hz hfr) (by rw [hst.steps, i4]) h1 i5 ih.ok
      · rename_i h1
        exact ⟨fun e => absurd e h1, ih.ok, hst.fin, hst.fr, by rw [hst.steps, i4]; omega⟩
    · rename_i hz
      exact ⟨fun e => absurd e hz, ih.ok, ih.fin, ih.fr, by have := ih.le; omega⟩

theorem met_none {E : List Ev} {s : Mc} (h : Rising (s.steps + 1) E) : metP F E s = (s, E) := by
  cases E with
  | nil => rfl
  | cons e r =>
    unfold metP
    rw [if_neg (by have := h.1; omega)]

theorem evs_stay {s0 : Mc} {E0 : List Ev} {n : Nat} (h : (evS F s0 E0 n).1.fin ≠ 0) : ∀ k, n ≤ k → evS F s0 E0 k = evS F s0 E0 n
  | 0, hk => by
    obtain rfl : n = 0 := by omega
    rfl
  | k + 1, hk => by
    by_cases e : n = k + 1
    · rw [e]
    · have ih := evs_stay h k (by omega)
      show (if (evS F s0 E0 k).1.fin = 0 then _ else evS F s0 E0 k) = _
      rw [ih, if_neg h]

/-- n steps with no event between them. -/
theorem evs_steps (hF : Fine m F K H) {s0 : Mc} {E0 : List Ev} (hA : ∀ n, EvAt m F K H n (evS F s0 E0 n)) : ∀ (n j : Nat) (s t : Mc) (E : List Ev), evS F s0 E0 j = (s, E) → s.fin = 0 → Steps F n s t → 1 ≤ n → (E ≠ [] → (j : Int) + n ≤ (E.headD ⟨0, 0, 0⟩).st) →
    evS F s0 E0 (j + n) = if t.fin = 0 then metP F E t else (t, E)
  | 0, _, _, _, _, _, _, _, h, _ => by omega
  | n + 1, j, s, t, E, he, hz, hst, _, hE => by
    cases hst with
    | more h0 hst =>
      have hj := hA j
      rw [he] at hj
      obtain ⟨i1, i2, i3, i4, i5⟩ := hj.go hz
      have hsf := step_facts (F := F) hz i1.some
      have e1 : evS F s0 E0 (j + 1) = if (stepP F s).fin = 0 then metP F E (stepP F s) else (stepP F s, E) := by
        show (if (evS F s0 E0 j).1.fin = 0 then _ else _) = _
        rw [he, if_pos hz]
      cases n with
      | zero =>
        cases hst with
        | none => exact e1
      | succ n =>
        have h1 : (stepP F s).fin = 0 := by cases hst with | more h0 _ => exact h0
        rw [if_pos h1] at e1
        have hr : Rising ((stepP F s).steps + 1) E := by
          rw [hsf.steps, i4]
          cases E with
          | nil => trivial
          | cons e r =>
            have := hE (by simp)
            simp only [List.headD_cons] at this
            exact ⟨by omega, i5.2⟩
        rw [met_none hr] at e1
        have := evs_steps hF hA (n + 1) (j + 1) (stepP F s) t E e1 h1 hst (by omega) (fun h => by have := hE h; omega)
        rw [show j + (n + 1 + 1) = j + 1 + (n + 1) by omega]
        exact this
end Go.Proofs.YtkafkipjedpohaaGreatDoor

/-
  Frames that go down, counted from the oldest on. No Go here.
-/
namespace Go.Proofs.YtkafkipjedpohaaGreatDoor

/-- Does the frame go down? -/
def goesDown (all : Bool) (n : Int) (f : Fr) : Bool := all || decide ((f.fn : Int) = n)
/-- Which frames are high when the j oldest ones have been looked at. -/
def lowTo (all : Bool) (n : Int) (fr : List Fr) (hs : List Bool) (j : Nat) : List Bool := ((List.range fr.length).map fun i => if i < j ∧ goesDown all n (frAt fr i) = true then false else hiAt hs i).reverse
def lowCnt (all : Bool) (n : Int) (fr : List Fr) (hs : List Bool) (j : Nat) : Nat := ((List.range j).filter fun i => goesDown all n (frAt fr i) && hiAt hs i).length

theorem lowTo_len (all : Bool) (n : Int) (fr : List Fr) (hs : List Bool) (j : Nat) : (lowTo all n fr hs j).length = fr.length := by simp [lowTo]
theorem lowTo_at (all : Bool) (n : Int) (fr : List Fr) (hs : List Bool) (j i : Nat) (hi : i < fr.length) : hiAt (lowTo all n fr hs j) i = if i < j ∧ goesDown all n (frAt fr i) = true then false else hiAt hs i := by
  unfold hiAt lowTo
  rw [List.reverse_reverse, List.getD_eq_getElem?_getD, List.getElem?_map, List.getElem?_range hi]
  rfl
theorem list_hiAt (hs : List Bool) : hs = ((List.range hs.length).map (hiAt hs)).reverse := by
  have : hs.reverse = (List.range hs.length).map (hiAt hs) := by
    refine List.ext_getElem (by simp) (fun i h1 h2 => ?_)
    simp only [List.length_reverse] at h1
    simp only [List.getElem_map, List.getElem_range]
    unfold hiAt
    rw [List.getD_eq_getElem?_getD, List.getElem?_eq_getElem (by simpa using h1)]
    rfl
  rw [← this, List.reverse_reverse]
theorem lowTo_zero (all : Bool) (n : Int) (fr : List Fr) (hs : List Bool) (h : hs.length = fr.length) : lowTo all n fr hs 0 = hs := by
  conv => rhs; rw [list_hiAt hs]
  unfold lowTo
  rw [h]
  refine congrArg List.reverse (List.map_congr_left (fun i hi => ?_))
  rw [if_neg (by omega)]
theorem lowCnt_succ (all : Bool) (n : Int) (fr : List Fr) (hs : List Bool) (j : Nat) : lowCnt all n fr hs (j + 1) = lowCnt all n fr hs j + if (goesDown all n (frAt fr j) && hiAt hs j) = true then 1 else 0 := by
  unfold lowCnt
  rw [List.range_succ, List.filter_append, List.length_append]
  congr 1
  simp only [List.filter_cons, List.filter_nil]
  split <;> rfl

theorem downs_is (all : Bool) (n : Int) : ∀ (fr : List Fr) (hs : List Bool), hs.length = fr.length → downs all n fr hs = (lowTo all n fr hs fr.length, lowCnt all n fr hs fr.length)
  | [], hs, h => by
    obtain rfl : hs = [] := List.eq_nil_of_length_eq_zero h
    rfl
  | f :: fr, [], h => by simp at h
  | f :: fr, b :: hs, h => by
    have hl : hs.length = fr.length := by simpa using h
    have ih := downs_is all n fr hs hl
    have e1 : lowTo all n (f :: fr) (b :: hs) (fr.length + 1) = (if goesDown all n f = true then false else b) :: lowTo all n fr hs fr.length := by
      unfold lowTo
      rw [List.length_cons, List.range_succ, List.map_append, List.reverse_append, List.map_cons, List.map_nil, List.reverse_singleton, List.singleton_append]
      refine congr (congrArg List.cons ?_) (congrArg List.reverse (List.map_congr_left (fun i hi => ?_)))
      · rw [frAt_top, hiAt_top b hs hl.symm]
        by_cases c : goesDown all n f = true
        · rw [if_pos ⟨by omega, c⟩, if_pos c]
        · rw [if_neg (fun h => c h.2), if_neg c]
      · have hi' := List.mem_range.1 hi
        rw [frAt_rest _ _ _ hi', hiAt_rest _ _ _ (by omega)]
        by_cases c : goesDown all n (frAt fr i) = true
        · rw [if_pos ⟨by omega, c⟩, if_pos ⟨by omega, c⟩]
        · rw [if_neg (fun h => c h.2), if_neg (fun h => c h.2)]
    have e2 : lowCnt all n (f :: fr) (b :: hs) (fr.length + 1) = lowCnt all n fr hs fr.length + if (goesDown all n f && b) = true then 1 else 0 := by
      rw [lowCnt_succ, frAt_top, hiAt_top b hs hl.symm]
      congr 1
      unfold lowCnt
      congr 1
      refine List.filter_congr (fun i hi => ?_)
      have hi' := List.mem_range.1 hi
      rw [frAt_rest _ _ _ hi', hiAt_rest _ _ _ (by omega)]
    show (let r := downs all n fr hs; if b = true ∧ (all = true ∨ (f.fn : Int) = n) then (false :: r.1, r.2 + 1) else (b :: r.1, r.2)) = _
    rw [List.length_cons, e1, e2, ih]
    dsimp only
    have e3 : (all = true ∨ (f.fn : Int) = n) ↔ goesDown all n f = true := by unfold goesDown; simp
    by_cases c : goesDown all n f = true
    · have c' := e3.2 c
      cases b <;> simp [c, c']
    · have c' : ¬ (all = true ∨ (f.fn : Int) = n) := fun h => c (e3.1 h)
      rw [if_neg (fun h => c' h.2), if_neg c]
      cases b <;> simp [c]
end Go.Proofs.YtkafkipjedpohaaGreatDoor

/-
  The project's machine: a run with its code and its events; lower.
-/
namespace Go.Proofs.YtkafkipjedpohaaGreatDoor
open Go.RowKit

/-- The events that have not come, as the machine has them. -/
def EvV (w : World) (B : Nat) (v : Value) (E : List Ev) : Prop :=
  ∃ p c, v = .slice p E.length c ∧ E.length ≤ c ∧ (E ≠ [] → ∃ eb eo, p = some ⟨eb, eo, none⟩ ∧ eb < B ∧ ∀ i, i < E.length → w.cell? ⟨eb, eo + i * 3, none⟩ = some (.int .i64 (E.getD i ⟨0, 0, 0⟩).st) ∧ w.cell? ⟨eb, eo + i * 3 + 1, none⟩ = some (.int .i64 (E.getD i ⟨0, 0, 0⟩).k) ∧ w.cell? ⟨eb, eo + i * 3 + 2, none⟩ = some (.int .i64 (E.getD i ⟨0, 0, 0⟩).n))
theorem EvV.below {w w' : World} {B : Nat} {v : Value} {E : List Ev} (h : EvV w B v E) (hb : Below B w w') : EvV w' B v E := by
  obtain ⟨p, c, h1, h2, h3⟩ := h
  refine ⟨p, c, h1, h2, fun hE => ?_⟩
  obtain ⟨eb, eo, e1, e2, e3⟩ := h3 hE
  refine ⟨eb, eo, e1, e2, fun i hi => ?_⟩
  obtain ⟨a1, a2, a3⟩ := e3 i hi
  exact ⟨(hb.cell (p := ⟨eb, eo + i * 3, none⟩) e2).trans a1, (hb.cell (p := ⟨eb, eo + i * 3 + 1, none⟩) e2).trans a2, (hb.cell (p := ⟨eb, eo + i * 3 + 2, none⟩) e2).trans a3⟩

/-- The spare room of the functions' code is not below their lengths. -/
def CapsAt (w : World) (B : Nat) (pv : Value) (m : Nat) (F : Nat → PF) : Prop :=
  ∃ pb po pc, pv = .slice (some ⟨pb, po, none⟩) m pc ∧ pb < B ∧ ∀ k, k < m → ∃ ca cc, w.cell? ⟨pb, po + k * 3 + 2, none⟩ = some (.slice ca (F k).cn cc) ∧ (F k).cn ≤ cc
theorem CapsAt.below {w w' : World} {B : Nat} {pv : Value} {m : Nat} {F : Nat → PF} (h : CapsAt w B pv m F) (hb : Below B w w') : CapsAt w' B pv m F := by
  obtain ⟨pb, po, pc, h1, h2, h3⟩ := h
  refine ⟨pb, po, pc, h1, h2, fun k hk => ?_⟩
  obtain ⟨ca, cc, h4, h5⟩ := h3 k hk
  exact ⟨ca, cc, (hb.cell (p := ⟨pb, po + k * 3 + 2, none⟩) h2).trans h4, h5⟩

/-- A run with its code and its events. -/
structure RSt (w : World) (B mb m : Nat) (F : Nat → PF) (MV : Nat → Value) (A : AdM) (s : Mc) (en : Int) (L : Bxs) (E : List Ev) : Prop where
  st : MSt w B mb m F MV A s en
  bx : Bx w A.tag L
  md : ∀ k, k < m → s.made k = true → CompV L (F k) (MV k)
  fc : ∀ i, i < s.fr.length → hiAt s.high i = true → CompV L (F (frAt s.fr i).fn) (A.g.CV i)
  ev : EvV w B A.g.ev E
  cp : CapsAt w B A.g.pv m F

/-- What a call leaves of it that turns gears alone. -/
def RGo (w : World) (B mb m : Nat) (F : Nat → PF) (MV : Nat → Value) (A : AdM) (s' : Mc) (en : Int) (L : Bxs) (E : List Ev) (w' : World) : Prop :=
  ∃ A' : AdM, RSt w' B mb m F MV A' s' en L E ∧ SameG A A' ∧ Ch B N5 A.tag A'.tag w w' ∧ ∀ i, A'.FB i = A.FB i

theorem LayM.lowered {w : World} {B mb : Nat} {A : AdM} {s : Mc} {en : Int} (h : LayM w B mb A s en) {i : Nat} (hi : i < s.fr.length) (cv : Value) :
    LayM (w.setCell ⟨A.FB i, 4, none⟩ cv) B mb { A with g := { A.g with CV := upd A.g.CV i cv } } s en ∧ Ch B (fun d => d = 10 + 4 * i) A.tag A.tag w (w.setCell ⟨A.FB i, 4, none⟩ cv) := by
  obtain ⟨g1, g2, g3⟩ := h.fb i hi
  have hc : Ch B (fun d => d = 10 + 4 * i) A.tag A.tag w (w.setCell ⟨A.FB i, 4, none⟩ cv) := Ch.set w _ _ _ g2 g3
  obtain ⟨r1, r2⟩ := blk_keep h.run hc (by rw [h.own.2]; omega)
  refine ⟨⟨r1, h.own, h.fr.keep hc (by omega), fun j hj => ?_, h.ar.keep hc (by omega), h.out.keep hc (by omega), fun j hj => (h.loc j hj).keep hc (by omega), fun j hj => (h.stk j hj).keep hc (by omega), fun j hj => (h.arr j hj).keep hc (by omega)⟩, hc⟩
  obtain ⟨k1, k2, k3⟩ := h.fb j hj
  refine ⟨?_, k2, k3⟩
  show (w.setCell ⟨A.FB i, 4, none⟩ cv).heap[A.FB j]? = some (Obj.cells (frcells (frAt s.fr j) (A.LV j) (A.SV j) (upd A.g.CV i cv j)) _ _)
  by_cases e : j = i
  · subst e
    rw [upd_same, heap_set g1]
    rfl
  · rw [upd_other _ _ _ _ e]
    exact (blk_keep k1 hc (by rw [k3]; omega)).1

set_option maxRecDepth 100000 in
set_option maxHeartbeats 1000000 in
/-- The frame i goes down, if it is high. -/
theorem lowerM {w : World} {B mb m : Nat} {F : Nat → PF} {MV : Nat → Value} {A : AdM} {s : Mc} {en : Int} {L : Bxs} {E : List Ev} (h : RSt w B mb m F MV A s en L E) {i : Nat} (hi : i < s.fr.length) (hd : s.cD ≤ 1000000) (hs' : List Bool) (hl' : hs'.length = s.fr.length) (hat : ∀ j, j < s.fr.length → hiAt hs' j = if j = i then false else hiAt s.high j) :
    Calls Tryz.prog 126 #[ptr mb, ptr (A.FB i)] w fun e w' => e = .returned (.tuple #[]) ∧ RGo w B mb m F MV A { s with high := hs', cD := s.cD + if hiAt s.high i = true then 1 else 0 } en L E w' := by
  have hM := h.st
  have hcv := hM.cod i hi
  obtain ⟨g1, g2, g3⟩ := hM.lay.fb i hi
  have hneb : ¬ A.FB i = mb := fun e => by rw [e, hM.lay.own.2] at g3; omega
  have x4 : w.cell? ⟨A.FB i, 4, none⟩ = some (A.g.CV i) := (cell_heap g1).trans rfl
  have x10 : w.cell? ⟨mb, 10, none⟩ = some (.int .i64 s.cD) := by rw [cell_heap hM.lay.run, ← hM.cnt.2.2]; rfl
  have z4 : w.frozen? ⟨A.FB i, 4, none⟩ = false := frozen_heap g1
  have z10 : w.frozen? ⟨mb, 10, none⟩ = false := frozen_heap hM.lay.run
  have hcn := fun X => codeNil hcv X
  obtain ⟨p, n, c, hsl⟩ := codeSlc hcv
  have e5 : wrap64 ((s.cD : Int) + 1) = (s.cD : Int) + 1 := by unfold wrap64; omega
  cases hb : hiAt s.high i with
  | false =>
    rw [hb] at hcn hcv
    have HQ := hid (show RGo w B mb m F MV A { s with high := hs', cD := s.cD + if false = true then 1 else 0 } en L E w from by
      have hsame : ∀ j, j < s.fr.length → hiAt hs' j = hiAt s.high j := fun j hj => by
        rw [hat j hj]
        by_cases e : j = i
        · rw [if_pos e, e, hb]
        · rw [if_neg e]
      refine ⟨A, ⟨hM.ch (hM.lay.like rfl rfl rfl rfl rfl) hl' (fun j hj => by rw [hsame j hj]; exact hM.cod j hj) ⟨hM.cnt.1, hM.cnt.2.1, by rw [if_neg (by simp)]; exact hM.cnt.2.2⟩ rfl (SameG.refl _) (Ch.refl _ _ _ _), h.bx, h.md, fun j hj hj2 => ?_, h.ev, h.cp⟩, SameG.refl _, Ch.refl _ _ _ _, fun _ => rfl⟩
      have : hiAt s.high j = true := by rw [← hsame j hj]; exact hj2
      exact h.fc j hj this)
    rw [hsl] at x4 hcn
    clear h hM hcv hsl g1 g2 g3 hat hl'
    generalize A.FB i = fb at *
    go_enter Tryz.func126, Tryz.ntmps126
    go_wp2
    go_end0
    exact ⟨rfl, HQ.out⟩
  | true =>
    rw [hb] at hcn hcv
    obtain ⟨l1, c1⟩ := hM.lay.lowered hi (.slice none 0 0)
    obtain ⟨l2, c2⟩ := l1.counted 10 (by omega) ((s.cD : Int) + 1)
    have hchN : Ch B N5 A.tag A.tag w ((w.setCell ⟨A.FB i, 4, none⟩ (.slice none 0 0)).setCell ⟨mb, 10, none⟩ (.int .i64 ((s.cD : Int) + 1))) := (c1.mono (q := N5) (fun d hd => by unfold N5; omega)).trans (c2.mono (q := N5) (fun d hd => by unfold N5; omega))
    have HQ := hid (show RGo w B mb m F MV A { s with high := hs', cD := s.cD + if true = true then 1 else 0 } en L E ((w.setCell ⟨A.FB i, 4, none⟩ (.slice none 0 0)).setCell ⟨mb, 10, none⟩ (.int .i64 ((s.cD : Int) + 1))) from by
      refine ⟨_, ⟨hM.ch (l2.like rfl rfl rfl rfl rfl) hl' (fun j hj => ?_) ⟨?_, ?_, ?_⟩ rfl ⟨rfl, rfl, rfl⟩ hchN, h.bx.keep hchN n55, h.md, fun j hj hj2 => ?_, h.ev.below (hchN.below hM.le), h.cp.below (hchN.below hM.le)⟩, ⟨rfl, rfl, rfl⟩, hchN, fun _ => rfl⟩
      · show CodeV (upd A.g.CV i (.slice none 0 0) j) (hiAt hs' j)
        rw [hat j hj]
        by_cases e : j = i
        · subst e
          rw [upd_same, if_pos rfl]
          exact Or.inl ⟨rfl, rfl⟩
        · rw [upd_other _ _ _ _ e, if_neg e]
          exact hM.cod j hj
      · show (A.g.hi : Int) = s.cH
        exact hM.cnt.1
      · show (A.g.up : Int) = s.cU
        exact hM.cnt.2.1
      · show ((s.cD : Int) + 1) = ((s.cD + if true = true then 1 else 0 : Nat) : Int)
        rw [if_pos rfl]
        omega
      · show CompV L _ (upd A.g.CV i (.slice none 0 0) j)
        have hj2' : hiAt hs' j = true := hj2
        rw [hat j hj] at hj2'
        by_cases e : j = i
        · rw [if_pos e] at hj2'; cases hj2'
        · rw [if_neg e] at hj2'
          rw [upd_other _ _ _ _ e]
          exact h.fc j hj hj2')
    rw [hsl] at x4 hcn
    clear h hM hcv hsl g1 g2 g3 hat hl' l1 l2 c1 c2 hchN
    generalize A.FB i = fb at *
    go_enter Tryz.func126, Tryz.ntmps126
    go_wp2
    go_end0
    exact ⟨rfl, HQ.out⟩
end Go.Proofs.YtkafkipjedpohaaGreatDoor
