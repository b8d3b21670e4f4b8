import Derived.Test.YtkafkipjedpohaaGreatDoorZc
import Derived.Test.YtkafkipjedpohaaGreatDoorM16

/-
  Frames that go down, counted from the oldest on. No Go here.
-/
namespace Go.Proofs.YtkafkipjedpohaaGreatDoor

/-- Does the frame go down? -/
def goesDown (all : Bool) (n : Int) (f : Fr) : Bool := all || decide ((f.fn : Int) = n)
/-- Which frames are high when the j oldest ones have been looked at. -/
def lowTo (all : Bool) (n : Int) (fr : List Fr) (hs : List Bool) (j : Nat) : List Bool := ((List.range fr.length).map fun i => if i < j ∧ goesDown all n (frAt fr i) = true then false else hiAt hs i).reverse
def lowCnt (all : Bool) (n : Int) (fr : List Fr) (hs : List Bool) (j : Nat) : Nat := ((List.range j).filter fun i => goesDown all n (frAt fr i) && hiAt hs i).length

theorem lowTo_len (all : Bool) (n : Int) (fr : List Fr) (hs : List Bool) (j : Nat) : (lowTo all n fr hs j).length = fr.length := by simp [lowTo]
theorem lowTo_at (all : Bool) (n : Int) (fr : List Fr) (hs : List Bool) (j i : Nat) (hi : i < fr.length) : hiAt (lowTo all n fr hs j) i = if i < j ∧ goesDown all n (frAt fr i) = true then false else hiAt hs i := by
  unfold hiAt lowTo
  rw [List.reverse_reverse, List.getD_eq_getElem?_getD, List.getElem?_map, List.getElem?_range hi]
  rfl
theorem list_hiAt (hs : List Bool) : hs = ((List.range hs.length).map (hiAt hs)).reverse := by
  have : hs.reverse = (List.range hs.length).map (hiAt hs) := by
    refine List.ext_getElem (by simp) (fun i h1 h2 => ?_)
    simp only [List.length_reverse] at h1
    simp only [List.getElem_map, List.getElem_range]
    unfold hiAt
    rw [List.getD_eq_getElem?_getD, List.getElem?_eq_getElem (by simpa using h1)]
    rfl
  rw [← this, List.reverse_reverse]
theorem lowTo_zero (all : Bool) (n : Int) (fr : List Fr) (hs : List Bool) (h : hs.length = fr.length) : lowTo all n fr hs 0 = hs := by
  conv => rhs; rw [list_hiAt hs]
  unfold lowTo
  rw [h]
  refine congrArg List.reverse (List.map_congr_left (fun i hi => ?_))
  rw [if_neg (by omega)]
theorem lowCnt_succ (all : Bool) (n : Int) (fr : List Fr) (hs : List Bool) (j : Nat) : lowCnt all n fr hs (j + 1) = lowCnt all n fr hs j + if (goesDown all n (frAt fr j) && hiAt hs j) = true then 1 else 0 := by
  unfold lowCnt
  rw [List.range_succ, List.filter_append, List.length_append]
  congr 1
  simp only [List.filter_cons, List.filter_nil]
  split <;> rfl

theorem downs_is (all : Bool) (n : Int) : ∀ (fr : List Fr) (hs : List Bool), hs.length = fr.length → downs all n fr hs = (lowTo all n fr hs fr.length, lowCnt all n fr hs fr.length)
  | [], hs, h => by
    obtain rfl : hs = [] := List.eq_nil_of_length_eq_zero h
    rfl
  | f :: fr, [], h => by simp at h
  | f :: fr, b :: hs, h => by
    have hl : hs.length = fr.length := by simpa using h
    have ih := downs_is all n fr hs hl
    have e1 : lowTo all n (f :: fr) (b :: hs) (fr.length + 1) = (if goesDown all n f = true then false else b) :: lowTo all n fr hs fr.length := by
      unfold lowTo
      rw [List.length_cons, List.range_succ, List.map_append, List.reverse_append, List.map_cons, List.map_nil, List.reverse_singleton, List.singleton_append]
      refine congr (congrArg List.cons ?_) (congrArg List.reverse (List.map_congr_left (fun i hi => ?_)))
      · rw [frAt_top, hiAt_top b hs hl.symm]
        by_cases c : goesDown all n f = true
        · rw [if_pos ⟨by omega, c⟩, if_pos c]
        · rw [if_neg (fun h => c h.2), if_neg c]
      · have hi' := List.mem_range.1 hi
        rw [frAt_rest _ _ _ hi', hiAt_rest _ _ _ (by omega)]
        by_cases c : goesDown all n (frAt fr i) = true
        · rw [if_pos ⟨by omega, c⟩, if_pos ⟨by omega, c⟩]
        · rw [if_neg (fun h => c h.2), if_neg (fun h => c h.2)]
    have e2 : lowCnt all n (f :: fr) (b :: hs) (fr.length + 1) = lowCnt all n fr hs fr.length + if (goesDown all n f && b) = true then 1 else 0 := by
      rw [lowCnt_succ, frAt_top, hiAt_top b hs hl.symm]
      congr 1
      unfold lowCnt
      congr 1
      refine List.filter_congr (fun i hi => ?_)
      have hi' := List.mem_range.1 hi
      rw [frAt_rest _ _ _ hi', hiAt_rest _ _ _ (by omega)]
    show (let r := downs all n fr hs; if b = true ∧ (all = true ∨ (f.fn : Int) = n) then (false :: r.1, r.2 + 1) else (b :: r.1, r.2)) = _
    rw [List.length_cons, e1, e2, ih]
    dsimp only
    have e3 : (all = true ∨ (f.fn : Int) = n) ↔ goesDown all n f = true := by unfold goesDown; simp
    by_cases c : goesDown all n f = true
    · have c' := e3.2 c
      cases b <;> simp [c, c']
    · have c' : ¬ (all = true ∨ (f.fn : Int) = n) := fun h => c (e3.1 h)
      rw [if_neg (fun h => c' h.2), if_neg c]
      cases b <;> simp [c]
end Go.Proofs.YtkafkipjedpohaaGreatDoor

/-
  The project's machine: a run with its code and its events; lower.
-/
namespace Go.Proofs.YtkafkipjedpohaaGreatDoor
open Go.RowKit

/-- The events that have not come, as the machine has them. -/
def EvV (w : World) (B : Nat) (v : Value) (E : List Ev) : Prop :=
  ∃ p c, v = .slice p E.length c ∧ E.length ≤ c ∧ (E ≠ [] → ∃ eb eo, p = some ⟨eb, eo, none⟩ ∧ eb < B ∧ ∀ i, i < E.length → w.cell? ⟨eb, eo + i * 3, none⟩ = some (.int .i64 (E.getD i ⟨0, 0, 0⟩).st) ∧ w.cell? ⟨eb, eo + i * 3 + 1, none⟩ = some (.int .i64 (E.getD i ⟨0, 0, 0⟩).k) ∧ w.cell? ⟨eb, eo + i * 3 + 2, none⟩ = some (.int .i64 (E.getD i ⟨0, 0, 0⟩).n))
theorem EvV.below {w w' : World} {B : Nat} {v : Value} {E : List Ev} (h : EvV w B v E) (hb : Below B w w') : EvV w' B v E := by
  obtain ⟨p, c, h1, h2, h3⟩ := h
  refine ⟨p, c, h1, h2, fun hE => ?_⟩
  obtain ⟨eb, eo, e1, e2, e3⟩ := h3 hE
  refine ⟨eb, eo, e1, e2, fun i hi => ?_⟩
  obtain ⟨a1, a2, a3⟩ := e3 i hi
  exact ⟨(hb.cell (p := ⟨eb, eo + i * 3, none⟩) e2).trans a1, (hb.cell (p := ⟨eb, eo + i * 3 + 1, none⟩) e2).trans a2, (hb.cell (p := ⟨eb, eo + i * 3 + 2, none⟩) e2).trans a3⟩

/-- The spare room of the functions' code is not below their lengths. -/
def CapsAt (w : World) (B : Nat) (pv : Value) (m : Nat) (F : Nat → PF) : Prop :=
  ∃ pb po pc, pv = .slice (some ⟨pb, po, none⟩) m pc ∧ pb < B ∧ ∀ k, k < m → ∃ ca cc, w.cell? ⟨pb, po + k * 3 + 2, none⟩ = some (.slice ca (F k).cn cc) ∧ (F k).cn ≤ cc
theorem CapsAt.below {w w' : World} {B : Nat} {pv : Value} {m : Nat} {F : Nat → PF} (h : CapsAt w B pv m F) (hb : Below B w w') : CapsAt w' B pv m F := by
  obtain ⟨pb, po, pc, h1, h2, h3⟩ := h
  refine ⟨pb, po, pc, h1, h2, fun k hk => ?_⟩
  obtain ⟨ca, cc, h4, h5⟩ := h3 k hk
  exact ⟨ca, cc, (hb.cell (p := ⟨pb, po + k * 3 + 2, none⟩) h2).trans h4, h5⟩

/-- A run with its code and its events. -/
structure RSt (w : World) (B mb m : Nat) (F : Nat → PF) (MV : Nat → Value) (A : AdM) (s : Mc) (en : Int) (L : Bxs) (E : List Ev) : Prop where
  st : MSt w B mb m F MV A s en
  bx : Bx w A.tag L
  md : ∀ k, k < m → s.made k = true → CompV L (F k) (MV k)
  fc : ∀ i, i < s.fr.length → hiAt s.high i = true → CompV L (F (frAt s.fr i).fn) (A.g.CV i)
  ev : EvV w B A.g.ev E
  cp : CapsAt w B A.g.pv m F

/-- What a call leaves of it that turns gears alone. -/
def RGo (w : World) (B mb m : Nat) (F : Nat → PF) (MV : Nat → Value) (A : AdM) (s' : Mc) (en : Int) (L : Bxs) (E : List Ev) (w' : World) : Prop :=
  ∃ A' : AdM, RSt w' B mb m F MV A' s' en L E ∧ SameG A A' ∧ Ch B N5 A.tag A'.tag w w' ∧ ∀ i, A'.FB i = A.FB i

theorem LayM.lowered {w : World} {B mb : Nat} {A : AdM} {s : Mc} {en : Int} (h : LayM w B mb A s en) {i : Nat} (hi : i < s.fr.length) (cv : Value) :
    LayM (w.setCell ⟨A.FB i, 4, none⟩ cv) B mb { A with g := { A.g with CV := upd A.g.CV i cv } } s en ∧ Ch B (fun d => d = 10 + 4 * i) A.tag A.tag w (w.setCell ⟨A.FB i, 4, none⟩ cv) := by
  obtain ⟨g1, g2, g3⟩ := h.fb i hi
  have hc : Ch B (fun d => d = 10 + 4 * i) A.tag A.tag w (w.setCell ⟨A.FB i, 4, none⟩ cv) := Ch.set w _ _ _ g2 g3
  obtain ⟨r1, r2⟩ := blk_keep h.run hc (by rw [h.own.2]; omega)
  refine ⟨⟨r1, h.own, h.fr.keep hc (by omega), fun j hj => ?_, h.ar.keep hc (by omega), h.out.keep hc (by omega), fun j hj => (h.loc j hj).keep hc (by omega), fun j hj => (h.stk j hj).keep hc (by omega), fun j hj => (h.arr j hj).keep hc (by omega)⟩, hc⟩
  obtain ⟨k1, k2, k3⟩ := h.fb j hj
  refine ⟨?_, k2, k3⟩
  show (w.setCell ⟨A.FB i, 4, none⟩ cv).heap[A.FB j]? = some (Obj.cells (frcells (frAt s.fr j) (A.LV j) (A.SV j) (upd A.g.CV i cv j)) _ _)
  by_cases e : j = i
  · subst e
    rw [upd_same, heap_set g1]
    rfl
  · rw [upd_other _ _ _ _ e]
    exact (blk_keep k1 hc (by rw [k3]; omega)).1

set_option maxRecDepth 100000 in
set_option maxHeartbeats 1000000 in
/-- The frame i goes down, if it is high. -/
theorem lowerM {w : World} {B mb m : Nat} {F : Nat → PF} {MV : Nat → Value} {A : AdM} {s : Mc} {en : Int} {L : Bxs} {E : List Ev} (h : RSt w B mb m F MV A s en L E) {i : Nat} (hi : i < s.fr.length) (hd : s.cD ≤ 1000000) (hs' : List Bool) (hl' : hs'.length = s.fr.length) (hat : ∀ j, j < s.fr.length → hiAt hs' j = if j = i then false else hiAt s.high j) :
    Calls Tryz.prog 126 #[ptr mb, ptr (A.FB i)] w fun e w' => e = .returned (.tuple #[]) ∧ RGo w B mb m F MV A { s with high := hs', cD := s.cD + if hiAt s.high i = true then 1 else 0 } en L E w' := by
  have hM := h.st
  have hcv := hM.cod i hi
  obtain ⟨g1, g2, g3⟩ := hM.lay.fb i hi
  have hneb : ¬ A.FB i = mb := fun e => by rw [e, hM.lay.own.2] at g3; omega
  have x4 : w.cell? ⟨A.FB i, 4, none⟩ = some (A.g.CV i) := (cell_heap g1).trans rfl
  have x10 : w.cell? ⟨mb, 10, none⟩ = some (.int .i64 s.cD) := by rw [cell_heap hM.lay.run, ← hM.cnt.2.2]; rfl
  have z4 : w.frozen? ⟨A.FB i, 4, none⟩ = false := frozen_heap g1
  have z10 : w.frozen? ⟨mb, 10, none⟩ = false := frozen_heap hM.lay.run
  have hcn := fun X => codeNil hcv X
  obtain ⟨p, n, c, hsl⟩ := codeSlc hcv
  have e5 : wrap64 ((s.cD : Int) + 1) = (s.cD : Int) + 1 := by unfold wrap64; omega
  cases hb : hiAt s.high i with
  | false =>
    rw [hb] at hcn hcv
    have HQ := hid (show RGo w B mb m F MV A { s with high := hs', cD := s.cD + if false = true then 1 else 0 } en L E w from by
      have hsame : ∀ j, j < s.fr.length → hiAt hs' j = hiAt s.high j := fun j hj => by
        rw [hat j hj]
        by_cases e : j = i
        · rw [if_pos e, e, hb]
        · rw [if_neg e]
      refine ⟨A, ⟨hM.ch (hM.lay.like rfl rfl rfl rfl rfl) hl' (fun j hj => by rw [hsame j hj]; exact hM.cod j hj) ⟨hM.cnt.1, hM.cnt.2.1, by rw [if_neg (by simp)]; exact hM.cnt.2.2⟩ rfl (SameG.refl _) (Ch.refl _ _ _ _), h.bx, h.md, fun j hj hj2 => ?_, h.ev, h.cp⟩, SameG.refl _, Ch.refl _ _ _ _, fun _ => rfl⟩
      have : hiAt s.high j = true := by rw [← hsame j hj]; exact hj2
      exact h.fc j hj this)
    rw [hsl] at x4 hcn
    clear h hM hcv hsl g1 g2 g3 hat hl'
    generalize A.FB i = fb at *
    go_enter Tryz.func126, Tryz.ntmps126
    go_wp2
    go_end0
    exact ⟨rfl, HQ.out⟩
  | true =>
    rw [hb] at hcn hcv
    obtain ⟨l1, c1⟩ := hM.lay.lowered hi (.slice none 0 0)
    obtain ⟨l2, c2⟩ := l1.counted 10 (by omega) ((s.cD : Int) + 1)
    have hchN : Ch B N5 A.tag A.tag w ((w.setCell ⟨A.FB i, 4, none⟩ (.slice none 0 0)).setCell ⟨mb, 10, none⟩ (.int .i64 ((s.cD : Int) + 1))) := (c1.mono (q := N5) (fun d hd => by unfold N5; omega)).trans (c2.mono (q := N5) (fun d hd => by unfold N5; omega))
    have HQ := hid (show RGo w B mb m F MV A { s with high := hs', cD := s.cD + if true = true then 1 else 0 } en L E ((w.setCell ⟨A.FB i, 4, none⟩ (.slice none 0 0)).setCell ⟨mb, 10, none⟩ (.int .i64 ((s.cD : Int) + 1))) from by
      refine ⟨_, ⟨hM.ch (l2.like rfl rfl rfl rfl rfl) hl' (fun j hj => ?_) ⟨?_, ?_, ?_⟩ rfl ⟨rfl, rfl, rfl⟩ hchN, h.bx.keep hchN n55, h.md, fun j hj hj2 => ?_, h.ev.below (hchN.below hM.le), h.cp.below (hchN.below hM.le)⟩, ⟨rfl, rfl, rfl⟩, hchN, fun _ => rfl⟩
      · show CodeV (upd A.g.CV i (.slice none 0 0) j) (hiAt hs' j)
        rw [hat j hj]
        by_cases e : j = i
        · subst e
          rw [upd_same, if_pos rfl]
          exact Or.inl ⟨rfl, rfl⟩
        · rw [upd_other _ _ _ _ e, if_neg e]
          exact hM.cod j hj
      · show (A.g.hi : Int) = s.cH
        exact hM.cnt.1
      · show (A.g.up : Int) = s.cU
        exact hM.cnt.2.1
      · show ((s.cD : Int) + 1) = ((s.cD + if true = true then 1 else 0 : Nat) : Int)
        rw [if_pos rfl]
        omega
      · show CompV L _ (upd A.g.CV i (.slice none 0 0) j)
        have hj2' : hiAt hs' j = true := hj2
        rw [hat j hj] at hj2'
        by_cases e : j = i
        · rw [if_pos e] at hj2'; cases hj2'
        · rw [if_neg e] at hj2'
          rw [upd_other _ _ _ _ e]
          exact h.fc j hj hj2')
    rw [hsl] at x4 hcn
    clear h hM hcv hsl g1 g2 g3 hat hl' l1 l2 c1 c2 hchN
    generalize A.FB i = fb at *
    go_enter Tryz.func126, Tryz.ntmps126
    go_wp2
    go_end0
    exact ⟨rfl, HQ.out⟩
end Go.Proofs.YtkafkipjedpohaaGreatDoor

/-
  The project's machine: exit, drop.
-/
namespace Go.Proofs.YtkafkipjedpohaaGreatDoor
open Go.RowKit

theorem RSt.keep {w w' : World} {B mb m : Nat} {F : Nat → PF} {MV : Nat → Value} {A : AdM} {s : Mc} {en : Int} {L : Bxs} {E : List Ev} (h : RSt w B mb m F MV A s en L E) {tag' : Nat → Nat} (k : Ch B (fun _ => False) A.tag tag' w w') : RSt w' B mb m F MV { A with tag := tag' } s en L E :=
  ⟨h.st.same (h.st.lay.keep k) rfl (k.mono (q := N5) (fun _ h => h.elim)) ⟨rfl, rfl, rfl, rfl, rfl, rfl⟩, h.bx.keep k (fun h => h), h.md, h.fc, h.ev.below (k.below h.st.le), h.cp.below (k.below h.st.le)⟩
theorem RSt.below {w w' : World} {B mb m : Nat} {F : Nat → PF} {MV : Nat → Value} {A : AdM} {s : Mc} {en : Int} {L : Bxs} {E : List Ev} (h : RSt w B mb m F MV A s en L E) (k : Below w.heap.size w w') : RSt w' B mb m F MV A s en L E := h.keep (Ch.of_below k)
theorem RSt.like {w : World} {B mb m : Nat} {F : Nat → PF} {MV : Nat → Value} {A : AdM} {s s' : Mc} {en : Int} {L : Bxs} {E : List Ev} (h : RSt w B mb m F MV A s en L E) (e1 : s'.fr = s.fr) (e2 : s'.arr = s.arr) (e3 : s'.out = s.out) (e4 : s'.gives = s.gives) (e5 : s'.steps = s.steps) (e6 : s'.high = s.high) (e7 : s'.made = s.made) (e8 : s'.cH = s.cH) (e9 : s'.cU = s.cU) (e10 : s'.cD = s.cD) : RSt w B mb m F MV A s' en L E :=
  ⟨h.st.like e1 e2 e3 e4 e5 e6 e7 e8 e9 e10, h.bx, by rw [e7]; exact h.md, by rw [e1, e6]; exact h.fc, h.ev, h.cp⟩

theorem lowTo_step {all : Bool} {n : Int} {fr : List Fr} {hs : List Bool} {j : Nat} (c : goesDown all n (frAt fr j) = true) : ∀ k, k < fr.length → hiAt (lowTo all n fr hs (j + 1)) k = if k = j then false else hiAt (lowTo all n fr hs j) k := fun k hk => by
  rw [lowTo_at _ _ _ _ _ _ hk, lowTo_at _ _ _ _ _ _ hk]
  by_cases e : k = j
  · subst e
    rw [if_pos rfl, if_pos ⟨by omega, c⟩]
  · rw [if_neg e]
    by_cases d : k < j ∧ goesDown all n (frAt fr k) = true
    · rw [if_pos d, if_pos ⟨by omega, d.2⟩]
    · rw [if_neg d, if_neg (fun h => d ⟨by omega, h.2⟩)]
theorem lowTo_skip {all : Bool} {n : Int} {fr : List Fr} {hs : List Bool} {j : Nat} (c : goesDown all n (frAt fr j) = false) : lowTo all n fr hs (j + 1) = lowTo all n fr hs j ∧ lowCnt all n fr hs (j + 1) = lowCnt all n fr hs j := by
  refine ⟨?_, by rw [lowCnt_succ, c]; simp⟩
  unfold lowTo
  refine congrArg List.reverse (List.map_congr_left (fun i hi => ?_))
  by_cases e : i = j
  · subst e
    rw [if_neg (fun h => by rw [c] at h; exact absurd h.2 (by simp)), if_neg (fun h => by omega)]
  · by_cases d : i < j ∧ goesDown all n (frAt fr i) = true
    · rw [if_pos d, if_pos ⟨by omega, d.2⟩]
    · rw [if_neg d, if_neg (fun h => d ⟨by omega, h.2⟩)]
theorem lowCnt_le (all : Bool) (n : Int) (fr : List Fr) (hs : List Bool) (j : Nat) : lowCnt all n fr hs j ≤ j := by
  unfold lowCnt
  exact Nat.le_trans (List.length_filter_le _ _) (by simp)
theorem lowCnt_step {all : Bool} {n : Int} {fr : List Fr} {hs : List Bool} {j : Nat} (c : goesDown all n (frAt fr j) = true) (hj : j < fr.length) : lowCnt all n fr hs (j + 1) = lowCnt all n fr hs j + if hiAt (lowTo all n fr hs j) j = true then 1 else 0 := by
  have e : hiAt (lowTo all n fr hs j) j = hiAt hs j := by rw [lowTo_at _ _ _ _ _ _ hj, if_neg (fun h => absurd h.1 (by omega))]
  rw [lowCnt_succ, c, e, Bool.true_and]

/-- How a run stands while its frames are looked at: the j oldest ones. -/
def LowAt (w : World) (B mb m : Nat) (F : Nat → PF) (MV : Nat → Value) (A : AdM) (s : Mc) (en : Int) (L : Bxs) (E : List Ev) (all : Bool) (n : Int) (lb : Nat) (cur : Array Value) (j : Nat) (wr : World) : Prop :=
  ∃ A' : AdM, RSt wr B mb m F MV A' { s with high := lowTo all n s.fr s.high j, cD := s.cD + lowCnt all n s.fr s.high j } en L E ∧ SameG A A' ∧ Ch B N5 A.tag A'.tag w wr ∧ (∀ i, A'.FB i = A.FB i) ∧ wr.heap[lb]? = some (.cells cur 133 (0, 0)) ∧ A'.tag lb = 5

theorem LowAt.next {w wr : World} {B mb m : Nat} {F : Nat → PF} {MV : Nat → Value} {A : AdM} {s : Mc} {en : Int} {L : Bxs} {E : List Ev} {all : Bool} {n : Int} {lb : Nat} {cur : Array Value} {j : Nat} (h : LowAt w B mb m F MV A s en L E all n lb cur j wr) (hj : j < s.fr.length) (hd : s.cD + s.fr.length ≤ 1000000) (c : goesDown all n (frAt s.fr j) = true) :
    Calls Tryz.prog 126 #[ptr mb, ptr (A.FB j)] wr fun e w' => e = .returned (.tuple #[]) ∧ LowAt w B mb m F MV A s en L E all n lb cur (j + 1) w' := by
  obtain ⟨A', h1, h2, h3, h4, h5, h6⟩ := h
  rw [← h4 j]
  have hle := lowCnt_le all n s.fr s.high j
  refine (lowerM h1 (i := j) hj (by show s.cD + lowCnt all n s.fr s.high j ≤ _; omega) (lowTo all n s.fr s.high (j + 1)) (lowTo_len _ _ _ _ _) (lowTo_step c)).mono ?_
  rintro e w' ⟨rfl, A2, k1, k2, k3, k4⟩
  obtain ⟨b1, b2⟩ := blk_keep h5 k3 (by rw [h6]; exact n55)
  refine ⟨rfl, A2, k1.like rfl rfl rfl rfl rfl rfl rfl rfl rfl ?_, h2.trans k2, h3.trans k3, fun i => (k4 i).trans (h4 i), b1, b2.trans h6⟩
  show s.cD + lowCnt all n s.fr s.high (j + 1) = s.cD + lowCnt all n s.fr s.high j + (if hiAt (lowTo all n s.fr s.high j) j = true then 1 else 0)
  rw [lowCnt_step c hj]
  omega

/-- The frames' list is made. -/
theorem low_start {w w1 : World} {B mb m : Nat} {F : Nat → PF} {MV : Nat → Value} {A : AdM} {s : Mc} {en : Int} {L : Bxs} {E : List Ev} (h : RSt w B mb m F MV A s en L E) (hne : 1 ≤ s.fr.length) (hb : Below w.heap.size w w1) {v : Value} (ho : OutF w w1 v s.fr.length A.FB) (all : Bool) (n : Int) :
    ∃ lb cap cur, v = .slice (some ⟨lb, 0, none⟩) s.fr.length cap ∧ (∀ j, j < s.fr.length → cur[j]? = some (.pointer (some ⟨A.FB j, 0, none⟩))) ∧ LowAt w B mb m F MV A s en L E all n lb cur 0 w1 := by
  rcases ho with ⟨_, h0⟩ | ⟨lb, cap, cur, hv, hlb, _, hh, _, _, _, hc⟩
  · omega
  have hk : Ch B (fun _ => False) A.tag (upd A.tag lb 5) w w1 := Ch.of_tags hb (fun b hb => upd_other _ _ _ _ (by omega))
  have h0 : lowCnt all n s.fr s.high 0 = 0 := rfl
  refine ⟨lb, cap, cur, hv, fun j hj => hc j (by omega), _, (h.keep hk).like rfl rfl rfl rfl rfl ?_ rfl rfl rfl rfl, ⟨rfl, rfl, rfl⟩, hk.mono (q := N5) (fun _ h => h.elim), fun _ => rfl, hh, upd_same _ _ _⟩
  exact lowTo_zero _ _ _ _ h.st.hl

set_option maxRecDepth 100000 in
set_option maxHeartbeats 1000000 in
theorem exitM {w : World} {B mb m : Nat} {F : Nat → PF} {MV : Nat → Value} {A : AdM} {s : Mc} {en : Int} {L : Bxs} {E : List Ev} (h : RSt w B mb m F MV A s en L E) (hne : 1 ≤ s.fr.length) (hfl : s.fr.length ≤ 100) (hd : s.cD ≤ 900000) (n : Int) :
    Calls Tryz.prog 118 #[ptr mb] w fun e w' => e = .returned (.tuple #[]) ∧ RGo w B mb m F MV A (comesP F 4 n s) en L E w' := by
  obtain ⟨fp, fc, hfv, _⟩ := h.st.lay.fr.any
  have x3 : w.cell? ⟨mb, 3, none⟩ = some A.fv := (cell_heap h.st.lay.run).trans rfl
  have HL := hid (listF w mb 3 B A.tag 1 A.fv s.fr.length A.FB x3 h.st.lay.fr (by omega))
  have hcm : comesP F 4 n s = { s with high := lowTo true n s.fr s.high s.fr.length, cD := s.cD + lowCnt true n s.fr s.high s.fr.length } := by
    unfold comesP
    rw [if_neg (by decide), if_neg (by decide)]
    show ({ s with high := (downs true n s.fr s.high).1, cD := s.cD + (downs true n s.fr s.high).2 } : Mc) = _
    rw [downs_is true n s.fr s.high h.st.hl]
  have HC := hid hcm
  generalize comesP F 4 n s = s' at *
  have HR := hid h
  clear h x3 hfv hcm
  generalize hfn : s.fr.length = fl at *
  have HFN := hid hfn
  clear hfn
  go_enter Tryz.func118, Tryz.ntmps118
  go_wp2_with fail
  refine HL.out.mono ?_
  rintro e w1 ⟨v, rfl, hb, ho⟩
  rw [← HFN.out] at ho
  obtain ⟨lb, cap, cur, hv, hcur, hI⟩ := low_start HR.out (by rw [HFN.out]; exact hne) hb ho true n
  rw [HFN.out] at hv hcur
  subst hv
  have HI := hid (And.intro hcur hI)
  clear hcur hI ho hb HL
  go_wp2
  go_loopw [9] (fun v wr => ∃ j : Nat, j ≤ fl ∧ v = .int .i64 j ∧ LowAt w B mb m F MV A s en L E true n lb cur j wr) (fun v _ => fl - (intOf v).toNat)
  case atStart => exact ⟨0, by omega, rfl, HI.out.2⟩
  case round =>
    obtain ⟨j, hj, rfl, hI⟩ := hrel
    by_cases hlt : j < fl
    · have hdec : decide ((j : Int) < (fl : Int)) = true := by simp; omega
      have y0 : wr.cell? ⟨lb, j, none⟩ = some (.pointer (some ⟨A.FB j, 0, none⟩)) := by
        obtain ⟨A', _, _, _, _, h5, _⟩ := hI
        exact (cell_heap h5).trans (HI.out.1 j hlt)
      have HT := hid (hI.next (by rw [HFN.out]; exact hlt) (by rw [HFN.out]; omega) (by simp [goesDown]))
      have i0 : (0 : Int) ≤ (j : Int) := by omega
      have i1 : (j : Int) < (fl : Int) := by omega
      clear hI
      generalize A.FB j = fbj at *
      go_wp2_with fail
      refine HT.out.mono ?_
      rintro e w2 ⟨rfl, h2⟩
      have HQ := hid h2
      clear h2 HT y0
      go_wp2
      exact ⟨⟨j + 1, by omega, by go_num, HQ.out⟩, by simp [intOf]; omega⟩
    · have hdec : decide ((j : Int) < (fl : Int)) = false := by simp; omega
      obtain rfl : j = fl := by omega
      have HQ := hid (show RGo w B mb m F MV A s' en L E wr from by
        obtain ⟨A', h1, h2, h3, h4, _, _⟩ := hI
        rw [HC.out]
        exact ⟨A', h1, h2, h3, h4⟩)
      clear hI
      go_wp2
      go_end0
      exact ⟨rfl, HQ.out⟩
end Go.Proofs.YtkafkipjedpohaaGreatDoor
