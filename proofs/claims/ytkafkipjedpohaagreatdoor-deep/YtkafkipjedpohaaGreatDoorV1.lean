import Derived.Test.YtkafkipjedpohaaGreatDoorZb
import Derived.Test.YtkafkipjedpohaaGreatDoorM26

/-
  The project's machine: a run with its code and its events; lower.
-/
namespace Go.Proofs.YtkafkipjedpohaaGreatDoor
open Go.RowKit

/-- The events that have not come, as the machine has them. -/
def EvV (w : World) (B : Nat) (v : Value) (E : List Ev) : Prop :=
  ∃ p c, v = .slice p E.length c ∧ E.length ≤ c ∧ (E ≠ [] → ∃ eb eo, p = some ⟨eb, eo, none⟩ ∧ eb < B ∧ ∀ i, i < E.length → w.cell? ⟨eb, eo + i * 3, none⟩ = some (.int .i64 (E.getD i ⟨0, 0, 0⟩).st) ∧ w.cell? ⟨eb, eo + i * 3 + 1, none⟩ = some (.int .i64 (E.getD i ⟨0, 0, 0⟩).k) ∧ w.cell? ⟨eb, eo + i * 3 + 2, none⟩ = some (.int .i64 (E.getD i ⟨0, 0, 0⟩).n))
theorem EvV.below {w w' : World} {B : Nat} {v : Value} {E : List Ev} (h : EvV w B v E) (hb : Below B w w') : EvV w' B v E := by
  obtain ⟨p, c, h1, h2, h3⟩ := h
  refine ⟨p, c, h1, h2, fun hE => ?_⟩
  obtain ⟨eb, eo, e1, e2, e3⟩ := h3 hE
  refine ⟨eb, eo, e1, e2, fun i hi => ?_⟩
  obtain ⟨a1, a2, a3⟩ := e3 i hi
  exact ⟨(hb.cell (p := ⟨eb, eo + i * 3, none⟩) e2).trans a1, (hb.cell (p := ⟨eb, eo + i * 3 + 1, none⟩) e2).trans a2, (hb.cell (p := ⟨eb, eo + i * 3 + 2, none⟩) e2).trans a3⟩

/-- The spare room of the functions' code is not below their lengths. -/
def CapsAt (w : World) (B : Nat) (pv : Value) (m : Nat) (F : Nat → PF) : Prop :=
  ∃ pb po pc, pv = .slice (some ⟨pb, po, none⟩) m pc ∧ pb < B ∧ ∀ k, k < m → ∃ ca cc, w.cell? ⟨pb, po + k * 3 + 2, none⟩ = some (.slice ca (F k).cn cc) ∧ (F k).cn ≤ cc
theorem CapsAt.below {w w' : World} {B : Nat} {pv : Value} {m : Nat} {F : Nat → PF} (h : CapsAt w B pv m F) (hb : Below B w w') : CapsAt w' B pv m F := by
  obtain ⟨pb, po, pc, h1, h2, h3⟩ := h
  refine ⟨pb, po, pc, h1, h2, fun k hk => ?_⟩
  obtain ⟨ca, cc, h4, h5⟩ := h3 k hk
  exact ⟨ca, cc, (hb.cell (p := ⟨pb, po + k * 3 + 2, none⟩) h2).trans h4, h5⟩

/-- A run with its code and its events. -/
structure RSt (w : World) (B mb m : Nat) (F : Nat → PF) (MV : Nat → Value) (A : AdM) (s : Mc) (en : Int) (L : Bxs) (E : List Ev) : Prop where
  st : MSt w B mb m F MV A s en
  bx : Bx w A.tag L
  md : ∀ k, k < m → s.made k = true → CompV L (F k) (MV k)
  fc : ∀ i, i < s.fr.length → hiAt s.high i = true → CompV L (F (frAt s.fr i).fn) (A.g.CV i)
  ev : EvV w B A.g.ev E
  cp : CapsAt w B A.g.pv m F

/-- What a call leaves of it that turns gears alone. -/
def RGo (w : World) (B mb m : Nat) (F : Nat → PF) (MV : Nat → Value) (A : AdM) (s' : Mc) (en : Int) (L : Bxs) (E : List Ev) (w' : World) : Prop :=
  ∃ A' : AdM, RSt w' B mb m F MV A' s' en L E ∧ SameG A A' ∧ Ch B N5 A.tag A'.tag w w' ∧ ∀ i, A'.FB i = A.FB i

theorem LayM.lowered {w : World} {B mb : Nat} {A : AdM} {s : Mc} {en : Int} (h : LayM w B mb A s en) {i : Nat} (hi : i < s.fr.length) (cv : Value) :
    LayM (w.setCell ⟨A.FB i, 4, none⟩ cv) B mb { A with g := { A.g with CV := upd A.g.CV i cv } } s en ∧ Ch B (fun d => d = 10 + 4 * i) A.tag A.tag w (w.setCell ⟨A.FB i, 4, none⟩ cv) := by
  obtain ⟨g1, g2, g3⟩ := h.fb i hi
  have hc : Ch B (fun d => d = 10 + 4 * i) A.tag A.tag w (w.setCell ⟨A.FB i, 4, none⟩ cv) := Ch.set w _ _ _ g2 g3
  obtain ⟨r1, r2⟩ := blk_keep h.run hc (by rw [h.own.2]; omega)
  refine ⟨⟨r1, h.own, h.fr.keep hc (by omega), fun j hj => ?_, h.ar.keep hc (by omega), h.out.keep hc (by omega), fun j hj => (h.loc j hj).keep hc (by omega), fun j hj => (h.stk j hj).keep hc (by omega), fun j hj => (h.arr j hj).keep hc (by omega)⟩, hc⟩
  obtain ⟨k1, k2, k3⟩ := h.fb j hj
  refine ⟨?_, k2, k3⟩
  show (w.setCell ⟨A.FB i, 4, none⟩ cv).heap[A.FB j]? = some (Obj.cells (frcells (frAt s.fr j) (A.LV j) (A.SV j) (upd A.g.CV i cv j)) _ _)
  by_cases e : j = i
  · subst e
    rw [upd_same, heap_set g1]
    rfl
  · rw [upd_other _ _ _ _ e]
    exact (blk_keep k1 hc (by rw [k3]; omega)).1

set_option maxRecDepth 100000 in
set_option maxHeartbeats 1000000 in
/-- The frame i goes down, if it is high. -/
theorem lowerM {w : World} {B mb m : Nat} {F : Nat → PF} {MV : Nat → Value} {A : AdM} {s : Mc} {en : Int} {L : Bxs} {E : List Ev} (h : RSt w B mb m F MV A s en L E) {i : Nat} (hi : i < s.fr.length) (hd : s.cD ≤ 1000000) (hs' : List Bool) (hl' : hs'.length = s.fr.length) (hat : ∀ j, j < s.fr.length → hiAt hs' j = if j = i then false else hiAt s.high j) :
    Calls Tryz.prog 126 #[ptr mb, ptr (A.FB i)] w fun e w' => e = .returned (.tuple #[]) ∧ RGo w B mb m F MV A { s with high := hs', cD := s.cD + if hiAt s.high i = true then 1 else 0 } en L E w' := by
  have hM := h.st
  have hcv := hM.cod i hi
  obtain ⟨g1, g2, g3⟩ := hM.lay.fb i hi
  have hneb : ¬ A.FB i = mb := fun e => by rw [e, hM.lay.own.2] at g3; omega
  have x4 : w.cell? ⟨A.FB i, 4, none⟩ = some (A.g.CV i) := (cell_heap g1).trans rfl
  have x10 : w.cell? ⟨mb, 10, none⟩ = some (.int .i64 s.cD) := by rw [cell_heap hM.lay.run, ← hM.cnt.2.2]; rfl
  have z4 : w.frozen? ⟨A.FB i, 4, none⟩ = false := frozen_heap g1
  have z10 : w.frozen? ⟨mb, 10, none⟩ = false := frozen_heap hM.lay.run
  have hcn := fun X => codeNil hcv X
  obtain ⟨p, n, c, hsl⟩ := codeSlc hcv
  have e5 : wrap64 ((s.cD : Int) + 1) = (s.cD : Int) + 1 := by unfold wrap64; omega
  cases hb : hiAt s.high i with
  | false =>
    rw [hb] at hcn hcv
    have HQ := hid (show RGo w B mb m F MV A { s with high := hs', cD := s.cD + if false = true then 1 else 0 } en L E w from by
      have hsame : ∀ j, j < s.fr.length → hiAt hs' j = hiAt s.high j := fun j hj => by
        rw [hat j hj]
        by_cases e : j = i
        · rw [if_pos e, e, hb]
        · rw [if_neg e]
      refine ⟨A, ⟨hM.ch (hM.lay.like rfl rfl rfl rfl rfl) hl' (fun j hj => by rw [hsame j hj]; exact hM.cod j hj) ⟨hM.cnt.1, hM.cnt.2.1, by rw [if_neg (by simp)]; exact hM.cnt.2.2⟩ rfl (SameG.refl _) (Ch.refl _ _ _ _), h.bx, h.md, fun j hj hj2 => ?_, h.ev, h.cp⟩, SameG.refl _, Ch.refl _ _ _ _, fun _ => rfl⟩
      have : hiAt s.high j = true := by rw [← hsame j hj]; exact hj2
      exact h.fc j hj this)
    rw [hsl] at x4 hcn
    clear h hM hcv hsl g1 g2 g3 hat hl'
    generalize A.FB i = fb at *
    go_enter Tryz.func126, Tryz.ntmps126
    go_wp2
    go_end0
    exact ⟨rfl, HQ.out⟩
  | true =>
    rw [hb] at hcn hcv
    obtain ⟨l1, c1⟩ := hM.lay.lowered hi (.slice none 0 0)
    obtain ⟨l2, c2⟩ := l1.counted 10 (by omega) ((s.cD : Int) + 1)
    have hchN : Ch B N5 A.tag A.tag w ((w.setCell ⟨A.FB i, 4, none⟩ (.slice none 0 0)).setCell ⟨mb, 10, none⟩ (.int .i64 ((s.cD : Int) + 1))) := (c1.mono (q := N5) (fun d hd => by unfold N5; omega)).trans (c2.mono (q := N5) (fun d hd => by unfold N5; omega))
    have HQ := hid (show RGo w B mb m F MV A { s with high := hs', cD := s.cD + if true = true then 1 else 0 } en L E ((w.setCell ⟨A.FB i, 4, none⟩ (.slice none 0 0)).setCell ⟨mb, 10, none⟩ (.int .i64 ((s.cD : Int) + 1))) from by
      refine ⟨_, ⟨hM.ch (l2.like rfl rfl rfl rfl rfl) hl' (fun j hj => ?_) ⟨?_, ?_, ?_⟩ rfl ⟨rfl, rfl, rfl⟩ hchN, h.bx.keep hchN n55, h.md, fun j hj hj2 => ?_, h.ev.below (hchN.below hM.le), h.cp.below (hchN.below hM.le)⟩, ⟨rfl, rfl, rfl⟩, hchN, fun _ => rfl⟩
      · show CodeV (upd A.g.CV i (.slice none 0 0) j) (hiAt hs' j)
        rw [hat j hj]
        by_cases e : j = i
        · subst e
          rw [upd_same, if_pos rfl]
          exact Or.inl ⟨rfl, rfl⟩
        · rw [upd_other _ _ _ _ e, if_neg e]
          exact hM.cod j hj
      · show (A.g.hi : Int) = s.cH
        exact hM.cnt.1
      · show (A.g.up : Int) = s.cU
        exact hM.cnt.2.1
      · show ((s.cD : Int) + 1) = ((s.cD + if true = true then 1 else 0 : Nat) : Int)
        rw [if_pos rfl]
        omega
      · show CompV L _ (upd A.g.CV i (.slice none 0 0) j)
        have hj2' : hiAt hs' j = true := hj2
        rw [hat j hj] at hj2'
        by_cases e : j = i
        · rw [if_pos e] at hj2'; cases hj2'
        · rw [if_neg e] at hj2'
          rw [upd_other _ _ _ _ e]
          exact h.fc j hj hj2')
    rw [hsl] at x4 hcn
    clear h hM hcv hsl g1 g2 g3 hat hl' l1 l2 c1 c2 hchN
    generalize A.FB i = fb at *
    go_enter Tryz.func126, Tryz.ntmps126
    go_wp2
    go_end0
    exact ⟨rfl, HQ.out⟩
end Go.Proofs.YtkafkipjedpohaaGreatDoor

/-
  The project's machine: exit, drop.
-/
namespace Go.Proofs.YtkafkipjedpohaaGreatDoor
open Go.RowKit

theorem RSt.keep {w w' : World} {B mb m : Nat} {F : Nat → PF} {MV : Nat → Value} {A : AdM} {s : Mc} {en : Int} {L : Bxs} {E : List Ev} (h : RSt w B mb m F MV A s en L E) {tag' : Nat → Nat} (k : Ch B (fun _ => False) A.tag tag' w w') : RSt w' B mb m F MV { A with tag := tag' } s en L E :=
  ⟨h.st.same (h.st.lay.keep k) rfl (k.mono (q := N5) (fun _ h => h.elim)) ⟨rfl, rfl, rfl, rfl, rfl, rfl⟩, h.bx.keep k (fun h => h), h.md, h.fc, h.ev.below (k.below h.st.le), h.cp.below (k.below h.st.le)⟩
theorem RSt.below {w w' : World} {B mb m : Nat} {F : Nat → PF} {MV : Nat → Value} {A : AdM} {s : Mc} {en : Int} {L : Bxs} {E : List Ev} (h : RSt w B mb m F MV A s en L E) (k : Below w.heap.size w w') : RSt w' B mb m F MV A s en L E := h.keep (Ch.of_below k)
theorem RSt.like {w : World} {B mb m : Nat} {F : Nat → PF} {MV : Nat → Value} {A : AdM} {s s' : Mc} {en : Int} {L : Bxs} {E : List Ev} (h : RSt w B mb m F MV A s en L E) (e1 : s'.fr = s.fr) (e2 : s'.arr = s.arr) (e3 : s'.out = s.out) (e4 : s'.gives = s.gives) (e5 : s'.steps = s.steps) (e6 : s'.high = s.high) (e7 : s'.made = s.made) (e8 : s'.cH = s.cH) (e9 : s'.cU = s.cU) (e10 : s'.cD = s.cD) : RSt w B mb m F MV A s' en L E :=
  ⟨h.st.like e1 e2 e3 e4 e5 e6 e7 e8 e9 e10, h.bx, by rw [e7]; exact h.md, by rw [e1, e6]; exact h.fc, h.ev, h.cp⟩

theorem lowTo_step {all : Bool} {n : Int} {fr : List Fr} {hs : List Bool} {j : Nat} (c : goesDown all n (frAt fr j) = true) : ∀ k, k < fr.length → hiAt (lowTo all n fr hs (j + 1)) k = if k = j then false else hiAt (lowTo all n fr hs j) k := fun k hk => by
  rw [lowTo_at _ _ _ _ _ _ hk, lowTo_at _ _ _ _ _ _ hk]
  by_cases e : k = j
  · subst e
    rw [if_pos rfl, if_pos ⟨by omega, c⟩]
  · rw [if_neg e]
    by_cases d : k < j ∧ goesDown all n (frAt fr k) = true
    · rw [if_pos d, if_pos ⟨by omega, d.2⟩]
    · rw [if_neg d, if_neg (fun h => d ⟨by omega, h.2⟩)]
theorem lowTo_skip {all : Bool} {n : Int} {fr : List Fr} {hs : List Bool} {j : Nat} (c : goesDown all n (frAt fr j) = false) : lowTo all n fr hs (j + 1) = lowTo all n fr hs j ∧ lowCnt all n fr hs (j + 1) = lowCnt all n fr hs j := by
  refine ⟨?_, by rw [lowCnt_succ, c]; simp⟩
  unfold lowTo
  refine congrArg List.reverse (List.map_congr_left (fun i hi => ?_))
  by_cases e : i = j
  · subst e
    rw [if_neg (fun h => by rw [c] at h; exact absurd h.2 (by simp)), if_neg (fun h => by omega)]
  · by_cases d : i < j ∧ goesDown all n (frAt fr i) = true
    · rw [if_pos d, if_pos ⟨by omega, d.2⟩]
    · rw [if_neg d, if_neg (fun h => d ⟨by omega, h.2⟩)]
theorem lowCnt_le (all : Bool) (n : Int) (fr : List Fr) (hs : List Bool) (j : Nat) : lowCnt all n fr hs j ≤ j := by
  unfold lowCnt
  exact Nat.le_trans (List.length_filter_le _ _) (by simp)
theorem lowCnt_step {all : Bool} {n : Int} {fr : List Fr} {hs : List Bool} {j : Nat} (c : goesDown all n (frAt fr j) = true) (hj : j < fr.length) : lowCnt all n fr hs (j + 1) = lowCnt all n fr hs j + if hiAt (lowTo all n fr hs j) j = true then 1 else 0 := by
  have e : hiAt (lowTo all n fr hs j) j = hiAt hs j := by rw [lowTo_at _ _ _ _ _ _ hj, if_neg (fun h => absurd h.1 (by omega))]
  rw [lowCnt_succ, c, e, Bool.true_and]

/-- How a run stands while its frames are looked at: the j oldest ones. -/
def LowAt (w : World) (B mb m : Nat) (F : Nat → PF) (MV : Nat → Value) (A : AdM) (s : Mc) (en : Int) (L : Bxs) (E : List Ev) (all : Bool) (n : Int) (lb : Nat) (cur : Array Value) (j : Nat) (wr : World) : Prop :=
  ∃ A' : AdM, RSt wr B mb m F MV A' { s with high := lowTo all n s.fr s.high j, cD := s.cD + lowCnt all n s.fr s.high j } en L E ∧ SameG A A' ∧ Ch B N5 A.tag A'.tag w wr ∧ (∀ i, A'.FB i = A.FB i) ∧ wr.heap[lb]? = some (.cells cur 133 (0, 0)) ∧ A'.tag lb = 5

theorem LowAt.next {w wr : World} {B mb m : Nat} {F : Nat → PF} {MV : Nat → Value} {A : AdM} {s : Mc} {en : Int} {L : Bxs} {E : List Ev} {all : Bool} {n : Int} {lb : Nat} {cur : Array Value} {j : Nat} (h : LowAt w B mb m F MV A s en L E all n lb cur j wr) (hj : j < s.fr.length) (hd : s.cD + s.fr.length ≤ 1000000) (c : goesDown all n (frAt s.fr j) = true) :
    Calls Tryz.prog 126 #[ptr mb, ptr (A.FB j)] wr fun e w' => e = .returned (.tuple #[]) ∧ LowAt w B mb m F MV A s en L E all n lb cur (j + 1) w' := by
  obtain ⟨A', h1, h2, h3, h4, h5, h6⟩ := h
  rw [← h4 j]
  have hle := lowCnt_le all n s.fr s.high j
  refine (lowerM h1 (i := j) hj (by show s.cD + lowCnt all n s.fr s.high j ≤ _; omega) (lowTo all n s.fr s.high (j + 1)) (lowTo_len _ _ _ _ _) (lowTo_step c)).mono ?_
  rintro e w' ⟨rfl, A2, k1, k2, k3, k4⟩
  obtain ⟨b1, b2⟩ := blk_keep h5 k3 (by rw [h6]; exact n55)
  refine ⟨rfl, A2, k1.like rfl rfl rfl rfl rfl rfl rfl rfl rfl ?_, h2.trans k2, h3.trans k3, fun i => (k4 i).trans (h4 i), b1, b2.trans h6⟩
  show s.cD + lowCnt all n s.fr s.high (j + 1) = s.cD + lowCnt all n s.fr s.high j + (if hiAt (lowTo all n s.fr s.high j) j = true then 1 else 0)
  rw [lowCnt_step c hj]
  omega

/-- The frames' list is made. -/
theorem low_start {w w1 : World} {B mb m : Nat} {F : Nat → PF} {MV : Nat → Value} {A : AdM} {s : Mc} {en : Int} {L : Bxs} {E : List Ev} (h : RSt w B mb m F MV A s en L E) (hne : 1 ≤ s.fr.length) (hb : Below w.heap.size w w1) {v : Value} (ho : OutF w w1 v s.fr.length A.FB) (all : Bool) (n : Int) :
    ∃ lb cap cur, v = .slice (some ⟨lb, 0, none⟩) s.fr.length cap ∧ (∀ j, j < s.fr.length → cur[j]? = some (.pointer (some ⟨A.FB j, 0, none⟩))) ∧ LowAt w B mb m F MV A s en L E all n lb cur 0 w1 := by
  rcases ho with ⟨_, h0⟩ | ⟨lb, cap, cur, hv, hlb, _, hh, _, _, _, hc⟩
  · omega
  have hk : Ch B (fun _ => False) A.tag (upd A.tag lb 5) w w1 := Ch.of_tags hb (fun b hb => upd_other _ _ _ _ (by omega))
  have h0 : lowCnt all n s.fr s.high 0 = 0 := rfl
  refine ⟨lb, cap, cur, hv, fun j hj => hc j (by omega), _, (h.keep hk).like rfl rfl rfl rfl rfl ?_ rfl rfl rfl rfl, ⟨rfl, rfl, rfl⟩, hk.mono (q := N5) (fun _ h => h.elim), fun _ => rfl, hh, upd_same _ _ _⟩
  exact lowTo_zero _ _ _ _ h.st.hl

set_option maxRecDepth 100000 in
set_option maxHeartbeats 1000000 in
theorem exitM {w : World} {B mb m : Nat} {F : Nat → PF} {MV : Nat → Value} {A : AdM} {s : Mc} {en : Int} {L : Bxs} {E : List Ev} (h : RSt w B mb m F MV A s en L E) (hne : 1 ≤ s.fr.length) (hfl : s.fr.length ≤ 100) (hd : s.cD ≤ 900000) (n : Int) :
    Calls Tryz.prog 118 #[ptr mb] w fun e w' => e = .returned (.tuple #[]) ∧ RGo w B mb m F MV A (comesP F 4 n s) en L E w' := by
  obtain ⟨fp, fc, hfv, _⟩ := h.st.lay.fr.any
  have x3 : w.cell? ⟨mb, 3, none⟩ = some A.fv := (cell_heap h.st.lay.run).trans rfl
  have HL := hid (listF w mb 3 B A.tag 1 A.fv s.fr.length A.FB x3 h.st.lay.fr (by omega))
  have hcm : comesP F 4 n s = { s with high := lowTo true n s.fr s.high s.fr.length, cD := s.cD + lowCnt true n s.fr s.high s.fr.length } := by
    unfold comesP
    rw [if_neg (by decide), if_neg (by decide)]
    show ({ s with high := (downs true n s.fr s.high).1, cD := s.cD + (downs true n s.fr s.high).2 } : Mc) = _
    rw [downs_is true n s.fr s.high h.st.hl]
  have HC := hid hcm
  generalize comesP F 4 n s = s' at *
  have HR := hid h
  clear h x3 hfv hcm
  generalize hfn : s.fr.length = fl at *
  have HFN := hid hfn
  clear hfn
  go_enter Tryz.func118, Tryz.ntmps118
  go_wp2_with fail
  refine HL.out.mono ?_
  rintro e w1 ⟨v, rfl, hb, ho⟩
  rw [← HFN.out] at ho
  obtain ⟨lb, cap, cur, hv, hcur, hI⟩ := low_start HR.out (by rw [HFN.out]; exact hne) hb ho true n
  rw [HFN.out] at hv hcur
  subst hv
  have HI := hid (And.intro hcur hI)
  clear hcur hI ho hb HL
  go_wp2
  go_loopw [9] (fun v wr => ∃ j : Nat, j ≤ fl ∧ v = .int .i64 j ∧ LowAt w B mb m F MV A s en L E true n lb cur j wr) (fun v _ => fl - (intOf v).toNat)
  case atStart => exact ⟨0, by omega, rfl, HI.out.2⟩
  case round =>
    obtain ⟨j, hj, rfl, hI⟩ := hrel
    by_cases hlt : j < fl
    · have hdec : decide ((j : Int) < (fl : Int)) = true := by simp; omega
      have y0 : wr.cell? ⟨lb, j, none⟩ = some (.pointer (some ⟨A.FB j, 0, none⟩)) := by
        obtain ⟨A', _, _, _, _, h5, _⟩ := hI
        exact (cell_heap h5).trans (HI.out.1 j hlt)
      have HT := hid (hI.next (by rw [HFN.out]; exact hlt) (by rw [HFN.out]; omega) (by simp [goesDown]))
      have i0 : (0 : Int) ≤ (j : Int) := by omega
      have i1 : (j : Int) < (fl : Int) := by omega
      clear hI
      generalize A.FB j = fbj at *
      go_wp2_with fail
      refine HT.out.mono ?_
      rintro e w2 ⟨rfl, h2⟩
      have HQ := hid h2
      clear h2 HT y0
      go_wp2
      exact ⟨⟨j + 1, by omega, by go_num, HQ.out⟩, by simp [intOf]; omega⟩
    · have hdec : decide ((j : Int) < (fl : Int)) = false := by simp; omega
      obtain rfl : j = fl := by omega
      have HQ := hid (show RGo w B mb m F MV A s' en L E wr from by
        obtain ⟨A', h1, h2, h3, h4, _, _⟩ := hI
        rw [HC.out]
        exact ⟨A', h1, h2, h3, h4⟩)
      clear hI
      go_wp2
      go_end0
      exact ⟨rfl, HQ.out⟩
end Go.Proofs.YtkafkipjedpohaaGreatDoor

/-
  The project's machine: drop.
-/
namespace Go.Proofs.YtkafkipjedpohaaGreatDoor
open Go.RowKit

/-- What turns, but no box. -/
def No5 (d : Nat) : Prop := d ≠ 5
theorem no5_of {d : Nat} (h : N5 d) : No5 d := h.1
theorem nno5 : ¬ No5 5 := fun h => h rfl

/-- What an event leaves. -/
def ComeE (w : World) (B mb m : Nat) (F : Nat → PF) (A : AdM) (s' : Mc) (en : Int) (L : Bxs) (E : List Ev) (w' : World) : Prop :=
  ∃ (A' : AdM) (MV' : Nat → Value) (L' : Bxs), RSt w' B mb m F MV' A' s' en L' E ∧ SameG A A' ∧ Ch B No5 A.tag A'.tag w w' ∧ (∀ t, t ∈ L → t ∈ L') ∧ ∀ i, A'.FB i = A.FB i
theorem RGo.come {w w' : World} {B mb m : Nat} {F : Nat → PF} {MV : Nat → Value} {A : AdM} {s' : Mc} {en : Int} {L : Bxs} {E : List Ev} (h : RGo w B mb m F MV A s' en L E w') : ComeE w B mb m F A s' en L E w' := by
  obtain ⟨A', h1, h2, h3, h4⟩ := h
  exact ⟨A', MV, L, h1, h2, h3.mono (fun _ => no5_of), fun t ht => ht, h4⟩

/-- What is made of a function is set. -/
theorem RSt.setMade {w : World} {B mb m : Nat} {F : Nat → PF} {MV : Nat → Value} {A : AdM} {s : Mc} {en : Int} {L : Bxs} {E : List Ev} (h : RSt w B mb m F MV A s en L E) {vb vcap fn : Nat} (hfn : fn < m) (hmv : A.g.mv = .slice (some ⟨vb, 0, none⟩) m vcap) (v : Value) (b : Bool) (hv : CodeV v b) (hc : b = true → CompV L (F fn) v) :
    RSt (w.setCell ⟨vb, fn, none⟩ v) B mb m F (upd MV fn v) A { s with made := upd s.made fn b } en L E ∧ Ch B (fun d => d = 6) A.tag A.tag w (w.setCell ⟨vb, fn, none⟩ v) := by
  have hM := h.st
  have hrow := hM.made
  obtain ⟨vb', vcap', hmv', hvB, _, hvt, _⟩ := hrow.form (by omega)
  rw [hmv] at hmv' hrow
  injection hmv' with e1 _ e2
  injection e1 with e1
  injection e1 with e1 _
  subst e1 e2
  have hch : Ch B (fun d => d = 6) A.tag A.tag w (w.setCell ⟨vb, fn, none⟩ v) := Ch.set w _ _ _ hvB hvt
  have hl2 : LayM (w.setCell ⟨vb, fn, none⟩ v) B mb A s en := by
    have h := hM.lay
    obtain ⟨r1, r2⟩ := blk_keep h.run hch (by rw [h.own.2]; omega)
    refine ⟨r1, h.own, h.fr.keep hch (by omega), fun j hj => ?_, h.ar.keep hch (by omega), h.out.keep hch (by omega), fun j hj => (h.loc j hj).keep hch (by omega), fun j hj => (h.stk j hj).keep hch (by omega), fun j hj => (h.arr j hj).keep hch (by omega)⟩
    obtain ⟨k1, k2, k3⟩ := h.fb j hj
    exact ⟨(blk_keep k1 hch (by rw [k3]; omega)).1, k2, k3⟩
  refine ⟨⟨⟨hl2.like rfl rfl rfl rfl rfl, hM.hl, hM.cod, hM.cnt, ?_, fun k hk => ?_, hM.pg.below (hch.below hM.le), by have := hch.size; have := hM.le; omega⟩, h.bx.keep hch (by omega), fun k hk hk2 => ?_, h.fc, h.ev.below (hch.below hM.le), h.cp.below (hch.below hM.le)⟩, hch⟩
  · rw [hmv]
    exact hrow.set fn v
  · show CodeV (upd MV fn v k) (upd s.made fn b k)
    by_cases e : k = fn
    · subst e
      rw [upd_same, upd_same]
      exact hv
    · rw [upd_other _ _ _ _ e, upd_other _ _ _ _ e]
      exact hM.mds k hk
  · show CompV L (F k) (upd MV fn v k)
    have hk2' : upd s.made fn b k = true := hk2
    by_cases e : k = fn
    · subst e
      rw [upd_same] at hk2' ⊢
      exact hc hk2'
    · rw [upd_other _ _ _ _ e] at hk2' ⊢
      exact h.md k hk hk2'

set_option maxRecDepth 100000 in
set_option maxHeartbeats 1000000 in
theorem dropM {w : World} {B mb m : Nat} {F : Nat → PF} {MV : Nat → Value} {A : AdM} {s : Mc} {en : Int} {L : Bxs} {E : List Ev} (h : RSt w B mb m F MV A s en L E) (hne : 1 ≤ s.fr.length) (hfl : s.fr.length ≤ 100) (hd : s.cD ≤ 900000) (fn : Nat) (hfn : fn < m) :
    Calls Tryz.prog 116 #[ptr mb, .int .i64 fn] w fun e w' => e = .returned (.tuple #[]) ∧ ComeE w B mb m F A (comesP F 2 fn s) en L E w' := by
  obtain ⟨vb, vcap, hmv, hvB, hvz, hvt, hvc⟩ := h.st.made.form (by omega)
  obtain ⟨h1, c1⟩ := h.setMade hfn hmv (.slice none 0 0) false (Or.inl ⟨rfl, rfl⟩) (fun e => by cases e)
  have x2 : w.cell? ⟨mb, 2, none⟩ = some (.slice (some ⟨vb, 0, none⟩) m vcap) := by rw [cell_heap h.st.lay.run, ← hmv]; rfl
  have hrow := h.st.made
  rw [hmv] at hrow
  have xv := hrow.cell (i := fn) (by omega)
  have zv := hrow.frozen fn
  obtain ⟨p0, n0, c0, hsl⟩ := codeSlc (h.st.mds fn hfn)
  rw [hsl] at xv
  have hmb : ¬ mb = vb := fun e => by have := h.st.lay.own.2; rw [e, hvt] at this; omega
  have x3 : (w.setCell ⟨vb, fn, none⟩ (.slice none 0 0)).cell? ⟨mb, 3, none⟩ = some A.fv := (cell_heap h1.st.lay.run).trans rfl
  have HL := hid (listF (w.setCell ⟨vb, fn, none⟩ (.slice none 0 0)) mb 3 B A.tag 1 A.fv s.fr.length A.FB x3 h1.st.lay.fr (by omega))
  have hcm : comesP F 2 fn s = { s with high := lowTo false fn s.fr s.high s.fr.length, cD := s.cD + lowCnt false fn s.fr s.high s.fr.length, made := upd s.made fn false } := by
    unfold comesP
    rw [if_neg (by decide), if_neg (by decide)]
    show ({ s with high := (downs false fn s.fr s.high).1, cD := s.cD + (downs false fn s.fr s.high).2, made := upd s.made (fn : Int).toNat false } : Mc) = _
    rw [downs_is false fn s.fr s.high h.st.hl]
    rfl
  have HC := hid hcm
  generalize comesP F 2 fn s = s' at *
  have HR := hid (And.intro h1 c1)
  have HFR := hid (show ∀ j, j < s.fr.length → ∀ wr A', RSt wr B mb m F (upd MV fn (.slice none 0 0)) A' { s with high := lowTo false fn s.fr s.high j, cD := s.cD + lowCnt false fn s.fr s.high j, made := upd s.made fn false } en L E → (∀ i, A'.FB i = A.FB i) → wr.cell? ⟨A.FB j, 0, none⟩ = some (.int .i64 (frAt s.fr j).fn) from fun j hj wr A' hr hf => by
    obtain ⟨g1, _, _⟩ := hr.st.lay.fb j hj
    rw [hf] at g1
    exact (cell_heap g1).trans rfl)
  have i0 : (0 : Int) ≤ (fn : Int) := by omega
  have i1 : (fn : Int) < (m : Int) := by omega
  clear h h1 c1 hcm hrow hsl x3
  generalize hfl' : s.fr.length = fl at *
  have HFN := hid hfl'
  clear hfl'
  go_enter Tryz.func116, Tryz.ntmps116
  go_wp2_with fail
  clear x2 xv zv
  generalize hW : w.setCell ⟨vb, fn, none⟩ (.slice none 0 0) = W at *
  refine HL.out.mono ?_
  rintro e w1 ⟨v, rfl, hb, ho⟩
  have HN : Hid (({ s with made := upd s.made fn false } : Mc).fr.length = fl) := HFN
  rw [← HN.out] at ho
  obtain ⟨lb, cap, cur, hv, hcur, hI⟩ := low_start HR.out.1 (by rw [HN.out]; exact hne) hb ho false fn
  rw [HN.out] at hv hcur
  subst hv
  have HI := hid (And.intro hcur hI)
  clear hcur hI ho hb HL
  go_wp2
  go_loopw [17] (fun v wr => ∃ j : Nat, j ≤ fl ∧ v = .int .i64 j ∧ LowAt W B mb m F (upd MV fn (.slice none 0 0)) A { s with made := upd s.made fn false } en L E false fn lb cur j wr) (fun v _ => fl - (intOf v).toNat)
  case atStart => exact ⟨0, by omega, rfl, HI.out.2⟩
  case round =>
    obtain ⟨j, hj, rfl, hI⟩ := hrel
    by_cases hlt : j < fl
    · have hdec : decide ((j : Int) < (fl : Int)) = true := by simp; omega
      have y0 : wr.cell? ⟨lb, j, none⟩ = some (.pointer (some ⟨A.FB j, 0, none⟩)) ∧ wr.cell? ⟨A.FB j, 0, none⟩ = some (.int .i64 (frAt s.fr j).fn) := by
        obtain ⟨A', h1, _, _, h4, h5, _⟩ := hI
        exact ⟨(cell_heap h5).trans (HI.out.1 j hlt), HFR.out j hlt wr A' h1 h4⟩
      obtain ⟨y0, y1⟩ := y0
      have i2 : (0 : Int) ≤ (j : Int) := by omega
      have i3 : (j : Int) < (fl : Int) := by omega
      by_cases hgd : ((frAt s.fr j).fn : Int) = (fn : Int)
      · have HT := hid (hI.next (by rw [HN.out]; exact hlt) (by show s.cD + _ ≤ _; rw [HN.out]; omega) (by show goesDown false fn (frAt s.fr j) = true; simp [goesDown]; omega))
        have e1 : (((frAt s.fr j).fn : Int) == (fn : Int)) = true := by simpa using hgd
        clear hI hgd
        generalize A.FB j = fbj at *
        go_wp2_with fail
        refine HT.out.mono ?_
        rintro e w2 ⟨rfl, h2⟩
        have HQ := hid h2
        clear h2 HT y0 y1
        go_wp2
        exact ⟨⟨j + 1, by omega, by go_num, HQ.out⟩, by simp [intOf]; omega⟩
      · have hsk := lowTo_skip (all := false) (n := (fn : Int)) (fr := s.fr) (hs := s.high) (j := j) (by simp [goesDown]; omega)
        have HQ := hid (show LowAt W B mb m F (upd MV fn (.slice none 0 0)) A { s with made := upd s.made fn false } en L E false fn lb cur (j + 1) wr from by
          obtain ⟨A', h1, h2, h3, h4, h5, h6⟩ := hI
          refine ⟨A', ?_, h2, h3, h4, h5, h6⟩
          show RSt wr B mb m F _ A' { s with high := lowTo false fn s.fr s.high (j + 1), cD := s.cD + lowCnt false fn s.fr s.high (j + 1), made := upd s.made fn false } en L E
          rw [hsk.1, hsk.2]
          exact h1)
        have e1 : (((frAt s.fr j).fn : Int) == (fn : Int)) = false := by simpa using hgd
        clear hI hgd hsk
        generalize A.FB j = fbj at *
        go_wp2
        exact ⟨⟨j + 1, by omega, by go_num, HQ.out⟩, by simp [intOf]; omega⟩
    · have hdec : decide ((j : Int) < (fl : Int)) = false := by simp; omega
      obtain rfl : j = fl := by omega
      have HQ := hid (show ComeE w B mb m F A s' en L E wr from by
        obtain ⟨A', h1, h2, h3, h4, _, _⟩ := hI
        rw [HC.out]
        exact ⟨A', _, L, h1, h2, (HR.out.2.mono (q := No5) (fun d hd => by unfold No5; omega)).trans (h3.mono (fun _ => no5_of)), fun t ht => ht, h4⟩)
      clear hI
      go_wp2
      go_end0
      exact ⟨rfl, HQ.out⟩
end Go.Proofs.YtkafkipjedpohaaGreatDoor
