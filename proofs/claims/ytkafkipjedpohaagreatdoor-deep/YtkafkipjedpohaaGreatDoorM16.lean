import Derived.Test.YtkafkipjedpohaaGreatDoorM14
import Derived.Test.YtkafkipjedpohaaGreatDoorC2

/-
  The project's machine: a run in any gear; newFrame.
-/
namespace Go.Proofs.YtkafkipjedpohaaGreatDoor
open Go.RowKit

theorem panic_body {P : Program} (fn : Func) (R : Ending → World → Prop) (c : _) (a : Act) (d : Option Tmp) (v : Value) (w : World) (h : bodyPost P fn R (.panic c) (Act.put a d v) w) : bodyPost P fn R (.panic c) a w := by
  have h : (Act.put a d v).defers = [] ∧ R (.panicked c) w := h
  rw [put_defers] at h
  exact h

/-- The program that is run, from block 0 to B. -/
def Pg (w : World) (B : Nat) (pv : Value) (m : Nat) (F : Nat → PF) : Prop :=
  ∃ pb po pc CA CC, ∃ w0 : World, pv = .slice (some ⟨pb, po, none⟩) m pc ∧ w0.heap.size = B ∧ ProgAt w0 pb po m F CA CC ∧ Below B w0 w
theorem Pg.below {w w' : World} {B : Nat} {pv : Value} {m : Nat} {F : Nat → PF} (h : Pg w B pv m F) (k : Below B w w') : Pg w' B pv m F := by
  obtain ⟨pb, po, pc, CA, CC, w0, h1, h2, h3, h4⟩ := h
  exact ⟨pb, po, pc, CA, CC, w0, h1, h2, h3, h4.trans k⟩
theorem Pg.at_ {w : World} {B : Nat} {pv : Value} {m : Nat} {F : Nat → PF} (h : Pg w B pv m F) : ∃ pb po pc CA CC, pv = .slice (some ⟨pb, po, none⟩) m pc ∧ ProgAt w pb po m F CA CC ∧ pb < B ∧ ∀ k, k < m → ∀ cb co, CA k = some ⟨cb, co, none⟩ → 1 ≤ (F k).cn → cb < B := by
  obtain ⟨pb, po, pc, CA, CC, w0, h1, h2, h3, h4⟩ := h
  refine ⟨pb, po, pc, CA, CC, h1, h3.below h4 (by omega), by rw [← h2]; exact h3.lt, fun k hk cb co hc hcn => ?_⟩
  obtain ⟨cb', co', e, hlt, _⟩ := (h3.fn k hk).code hcn
  rw [hc] at e
  injection e with e
  injection e with e
  omega

/-- The values that are handed to a new frame. -/
def ArgsIn (w : World) (v : Value) (al : List V) : Prop :=
  (al = [] ∧ ∃ a c, v = .slice a 0 c) ∨ ∃ ab c, v = .slice (some ⟨ab, 0, none⟩) al.length c ∧ ab < w.heap.size ∧ ∀ i, i < al.length * 2 → w.cell? ⟨ab, i, none⟩ = some (vcell al i)

theorem Tryz.sizeV : (Tryz.prog.info? 43).map (·.size) = some 2 := by kernel_rfl

theorem vcell_one (l : List V) (i : Nat) : (vcell l i).oneCell' = true := by unfold vcell; split <;> rfl

theorem copy_args (w : World) (L : Nat) (al : List V) (v : Value) (hv : ArgsIn w v al) (hl : al.length ≤ L) :
    ∃ (W2 : World) (k : Nat), (Builtin.copy_ #[44, 44] 3 #[.slice (some ⟨w.heap.size, 0, none⟩) L L, v]).run Tryz.prog (w.alloc (.cells (vArr L) 43)) = .ok (goInt k) W2 ∧ Below w.heap.size w W2 ∧ W2.heap.size = w.heap.size + 1 ∧
      ∃ cur : Array Value, W2.heap[w.heap.size]? = some (.cells cur 43 (0, 0)) ∧ cur.size = L * 2 ∧ ∀ i, i < L * 2 → cur[i]? = some (vcell (al ++ List.replicate (L - al.length) vnil) i) := by
  have hA : Below w.heap.size w (w.alloc (.cells (vArr L) 43)) := (Below.refl _ _).alloc (Nat.le_refl _) _
  have hsz : (vArr L).size = L * 2 := by simp [vArr, size_madeCells]
  have hz : ∀ i, i < L * 2 → (vArr L)[i]? = some (.int .i64 0) := fun i hi => by
    have : i % 2 = 0 ∨ i % 2 = 1 := by omega
    rcases this with e | e <;> simp [vArr, madeCells, hi, e]
  have hvn : ∀ i, al.length * 2 ≤ i → vcell (al ++ List.replicate (L - al.length) vnil) i = .int .i64 0 := fun i hi => by
    unfold vcell
    rw [List.getD_eq_getElem?_getD, List.getElem?_append_right (by omega)]
    by_cases h : i / 2 - al.length < L - al.length
    · rw [List.getElem?_replicate, if_pos h]
      split <;> rfl
    · rw [List.getElem?_replicate, if_neg h]
      split <;> rfl
  rcases hv with ⟨rfl, a, c, rfl⟩ | ⟨ab, c, rfl, hab, hcells⟩
  · refine ⟨_, 0, run_copy_zero _ _ _ _ _ _ _ _ _ _ Tryz.underlying44 2 Tryz.sizeV, hA, by simp, vArr L, Go.Deep.blk_alloc_new _ _, hsz, fun i hi => ?_⟩
    rw [hz i hi, hvn i (by simp)]
  · have hrun := run_copy_rows (P := Tryz.prog) (w.alloc (.cells (vArr L) 43)) 44 44 3 43 2 w.heap.size L L ⟨ab, 0, none⟩ al.length c (vArr L) 43 ((List.range (al.length * 2)).map (vcell al)) Tryz.underlying44 Tryz.sizeV (Go.Deep.blk_alloc_new _ _) hl (by simp)
      (fun j u hu => by
        have hj : j < al.length * 2 := by
          have := (List.getElem?_eq_some_iff.1 hu).1
          simpa using this
        have hu' : vcell al j = u := by simpa [hj] using hu
        rw [Addr.add_lit, Nat.zero_add]
        rw [← hu']
        exact (hA.cell (p := ⟨ab, j, none⟩) hab).trans (hcells j hj)) (by rw [hsz]; simp; omega) (fun u hu => by
        obtain ⟨j, _, rfl⟩ := List.mem_map.1 hu
        exact vcell_one al j)
    refine ⟨_, al.length, hrun, ?_, by simp [World.setRow], _, Go.setRow_heap _ _ _ _ 43 (0, 0) (Go.Deep.blk_alloc_new _ _), ?_, fun i hi => ?_⟩
    · exact ⟨rfl, rfl, rfl, by simp [World.setRow], fun k hk => by rw [Go.setRow_other _ _ _ _ (by omega)]; exact hA.block k hk⟩
    · simp [hsz]; omega
    · by_cases h : i < al.length * 2
      · rw [List.getElem?_toArray, List.getElem?_append_left (by simpa using h)]
        simp [h]
        unfold vcell
        rw [List.getD_eq_getElem?_getD, List.getD_eq_getElem?_getD, List.getElem?_append_left (by omega)]
      · rw [List.getElem?_toArray, List.getElem?_append_right (by simp; omega), hvn i (by omega)]
        simp only [List.length_map, List.length_range, List.getElem?_drop, Array.getElem?_toList]
        rw [show al.length * 2 + (i - al.length * 2) = i by omega]
        exact hz i hi

/-- What no step turns: the program, the events, the list of what is made. -/
structure SameG (A A' : AdM) : Prop where
  pv : A'.g.pv = A.g.pv
  ev : A'.g.ev = A.g.ev
  mv : A'.g.mv = A.g.mv
theorem SameG.refl (A : AdM) : SameG A A := ⟨rfl, rfl, rfl⟩
theorem SameG.trans {A B C : AdM} (h : SameG A B) (k : SameG B C) : SameG A C := ⟨k.pv.trans h.pv, k.ev.trans h.ev, k.mv.trans h.mv⟩
theorem SameG.of {A A' : AdM} (h : A'.g = A.g) : SameG A A' := ⟨by rw [h], by rw [h], by rw [h]⟩

/-- A list of code: none, or some. -/
def CodeV (v : Value) (b : Bool) : Prop := (b = false ∧ v = .slice none 0 0) ∨ (b = true ∧ ∃ a n c, v = .slice (some a) n c)
/-- Is the frame i, counted from the oldest on, in the high gear? -/
def hiAt (l : List Bool) (i : Nat) : Bool := l.reverse.getD i false
theorem hiAt_top (b : Bool) (r : List Bool) {k : Nat} (h : k = r.length) : hiAt (b :: r) k = b := by
  subst h
  unfold hiAt
  simp [List.getD_eq_getElem?_getD]
theorem hiAt_rest (b : Bool) (r : List Bool) (i : Nat) (h : i < r.length) : hiAt (b :: r) i = hiAt r i := by
  unfold hiAt
  rw [List.getD_eq_getElem?_getD, List.getD_eq_getElem?_getD, List.reverse_cons, List.getElem?_append_left (by simpa using h)]

/-- A run in any gear: what is made (MV), the frames' code, the counts. -/
structure MSt (w : World) (B mb m : Nat) (F : Nat → PF) (MV : Nat → Value) (A : AdM) (s : Mc) (en : Int) : Prop where
  lay : LayM w B mb A s en
  hl : s.high.length = s.fr.length
  cod : ∀ i, i < s.fr.length → CodeV (A.g.CV i) (hiAt s.high i)
  cnt : A.g.hi = s.cH ∧ A.g.up = s.cU ∧ A.g.dn = s.cD
  made : Row w B A.tag 6 136 1 A.g.mv m MV
  mds : ∀ k, k < m → CodeV (MV k) (s.made k)
  pg : Pg w B A.g.pv m F
  le : B ≤ w.heap.size

/-- What a call of the machine leaves of such a run, which had n0 frames. -/
def Goes (w : World) (B mb m : Nat) (F : Nat → PF) (MV : Nat → Value) (n0 : Nat) (A : AdM) (s' : Mc) (en : Int) (w' : World) : Prop :=
  ∃ A' : AdM, MSt w' B mb m F MV A' s' en ∧ SameG A A' ∧ Ch B N5 A.tag A'.tag w w' ∧ (∀ i, i < s'.fr.length → i < n0 → A'.FB i = A.FB i) ∧
    ∀ i, i < s'.fr.length → (i < n0 → A'.g.CV i = A.g.CV i) ∧ (n0 ≤ i → A'.g.CV i = MV (frAt s'.fr i).fn)
theorem fb_of {A A' : AdM} (h : A'.g = A.g) (i : Nat) : A'.FB i = A.FB i := by unfold AdM.FB; rw [h]

theorem MSt.ch {w w' : World} {B mb m : Nat} {F : Nat → PF} {MV : Nat → Value} {A A' : AdM} {s s' : Mc} {en en' : Int} (h : MSt w B mb m F MV A s en) (hL : LayM w' B mb A' s' en') (hhl : s'.high.length = s'.fr.length) (hcod : ∀ i, i < s'.fr.length → CodeV (A'.g.CV i) (hiAt s'.high i)) (hcnt : A'.g.hi = s'.cH ∧ A'.g.up = s'.cU ∧ A'.g.dn = s'.cD) (hmk : s'.made = s.made) (hg : SameG A A') (hc : Ch B N5 A.tag A'.tag w w') : MSt w' B mb m F MV A' s' en' :=
  ⟨hL, hhl, hcod, hcnt, by rw [hg.mv]; exact h.made.keep hc n56, by rw [hmk]; exact h.mds, by rw [hg.pv]; exact h.pg.below (hc.below h.le), Nat.le_trans h.le hc.size⟩
/-- Frames, arrays, what is printed may have turned; which frames are high, what is made, the counts have not. -/
structure Hs (s s' : Mc) : Prop where
  len : s'.fr.length = s.fr.length
  high : s'.high = s.high
  made : s'.made = s.made
  cH : s'.cH = s.cH
  cU : s'.cU = s.cU
  cD : s'.cD = s.cD
theorem MSt.same {w w' : World} {B mb m : Nat} {F : Nat → PF} {MV : Nat → Value} {A A' : AdM} {s s' : Mc} {en en' : Int} (h : MSt w B mb m F MV A s en) (hL : LayM w' B mb A' s' en') (hg : A'.g = A.g) (hc : Ch B N5 A.tag A'.tag w w') (hs : Hs s s') : MSt w' B mb m F MV A' s' en' :=
  h.ch hL (by rw [hs.high, hs.len]; exact h.hl) (fun i hi => by rw [hg, hs.high]; exact h.cod i (by rw [← hs.len]; exact hi)) (by rw [hg, hs.cH, hs.cU, hs.cD]; exact h.cnt) hs.made (SameG.of hg) hc
theorem MSt.aft {w w' : World} {B mb m : Nat} {F : Nat → PF} {MV : Nat → Value} {A : AdM} {s s' : Mc} {en en' : Int} (h : MSt w B mb m F MV A s en) (hA : Aft N5 w w' B mb A s' en') (hs : Hs s s') : Goes w B mb m F MV s.fr.length A s' en' w' := by
  obtain ⟨A', h1, h2, h3⟩ := hA
  exact ⟨A', h.same h1 h2 h3 hs, SameG.of h2, h3, fun i _ _ => fb_of h2 i, fun i hi => ⟨fun _ => by rw [h2], fun h => absurd h (by rw [hs.len] at hi; omega)⟩⟩
theorem Goes.on {w w1 w' : World} {B mb m n0 : Nat} {F : Nat → PF} {MV : Nat → Value} {A A1 : AdM} {s' : Mc} {en : Int} (hg : A1.g = A.g) (hc : Ch B N5 A.tag A1.tag w w1) (h : Goes w1 B mb m F MV n0 A1 s' en w') : Goes w B mb m F MV n0 A s' en w' := by
  obtain ⟨A', h1, h2, h3, h4, h5⟩ := h
  exact ⟨A', h1, (SameG.of hg).trans h2, hc.trans h3, fun i hi hn => (h4 i hi hn).trans (fb_of hg i), fun i hi => ⟨fun h => by rw [(h5 i hi).1 h, hg], (h5 i hi).2⟩⟩

/-- One frame more. -/
theorem LayM.pushed {w w' : World} {B mb : Nat} {A : AdM} {s : Mc} {en : Int} {tag' : Nat → Nat} {fv lv sv cv : Value} {q : Nat} {f0 : Fr} (h : LayM w B mb A s en) (k : Ch B (fun d => d = 0 ∨ d = 1) A.tag tag' w w')
    (hmb : w'.heap[mb]? = some (.cells ((mcells A s en).setIfInBounds 3 fv) 130 (0, 0))) (hfr : Row w' B tag' 1 133 1 fv (s.fr.length + 1) (pcell (upd A.FB s.fr.length q)))
    (hq : w'.heap[q]? = some (.cells (frcells f0 lv sv cv) 138 (0, 0))) (hqB : B ≤ q) (hqt : tag' q = 10 + 4 * s.fr.length)
    (hlo : Row w' B tag' (11 + 4 * s.fr.length) 43 2 lv f0.loc.length (vcell f0.loc)) (hst : Row w' B tag' (12 + 4 * s.fr.length) 43 2 sv f0.stk.length (vcell f0.stk.reverse)) :
    LayM w' B mb { A with tag := tag', g := { A.g with FB := upd A.FB s.fr.length q, CV := upd A.g.CV s.fr.length cv }, fv := fv, LV := upd A.LV s.fr.length lv, SV := upd A.SV s.fr.length sv } { s with fr := f0 :: s.fr } en := by
  refine ⟨hmb, ⟨h.own.1, (k.tags mb (heap_lt h.run)).trans h.own.2⟩, hfr, fun i hi => ?_, h.ar.keep k (by omega), h.out.keep k (by omega), fun i hi => ?_, fun i hi => ?_, fun j hj => (h.arr j hj).keep k (by omega)⟩
  · have hi' : i < s.fr.length + 1 := hi
    show w'.heap[upd A.FB s.fr.length q i]? = some (Obj.cells (frcells (frAt (f0 :: s.fr) i) (upd A.LV s.fr.length lv i) (upd A.SV s.fr.length sv i) (upd A.g.CV s.fr.length cv i)) _ _) ∧ B ≤ upd A.FB s.fr.length q i ∧ tag' (upd A.FB s.fr.length q i) = 10 + 4 * i
    by_cases e : i = s.fr.length
    · subst e
      rw [frAt_top, upd_same, upd_same, upd_same, upd_same]
      exact ⟨hq, hqB, hqt⟩
    · rw [frAt_rest _ _ _ (by omega), upd_other _ _ _ _ e, upd_other _ _ _ _ e, upd_other _ _ _ _ e, upd_other _ _ _ _ e]
      obtain ⟨g1, g2, g3⟩ := h.fb i (by omega)
      obtain ⟨g4, g5⟩ := blk_keep g1 k (by rw [g3]; omega)
      exact ⟨g4, g2, g5.trans g3⟩
  · have hi' : i < s.fr.length + 1 := hi
    show Row w' B tag' _ _ 2 (upd A.LV s.fr.length lv i) (frAt (f0 :: s.fr) i).loc.length (vcell (frAt (f0 :: s.fr) i).loc)
    by_cases e : i = s.fr.length
    · subst e
      rw [frAt_top, upd_same]
      exact hlo
    · rw [frAt_rest _ _ _ (by omega), upd_other _ _ _ _ e]
      exact (h.loc i (by omega)).keep k (by omega)
  · have hi' : i < s.fr.length + 1 := hi
    show Row w' B tag' _ _ 2 (upd A.SV s.fr.length sv i) (frAt (f0 :: s.fr) i).stk.length (vcell (frAt (f0 :: s.fr) i).stk.reverse)
    by_cases e : i = s.fr.length
    · subst e
      rw [frAt_top, upd_same]
      exact hst
    · rw [frAt_rest _ _ _ (by omega), upd_other _ _ _ _ e]
      exact (h.stk i (by omega)).keep k (by omega)

/-- What of a run is seen in memory. -/
theorem LayM.like {w : World} {B mb : Nat} {A : AdM} {s s' : Mc} {en : Int} (h : LayM w B mb A s en) (e1 : s'.fr = s.fr) (e2 : s'.arr = s.arr) (e3 : s'.out = s.out) (e4 : s'.gives = s.gives) (e5 : s'.steps = s.steps) : LayM w B mb A s' en := by
  obtain ⟨a1, a2, a3, a4, a5, a6, a7, a8, a9⟩ := h
  refine ⟨?_, a2, by rw [e1]; exact a3, by rw [e1]; exact a4, by rw [e2]; exact a5, by rw [e3]; exact a6, by rw [e1]; exact a7, by rw [e1]; exact a8, by rw [e2]; exact a9⟩
  rw [a1]
  unfold mcells
  rw [e2, e4, e5]

set_option maxRecDepth 100000 in
set_option maxHeartbeats 1000000 in
theorem newFrameM (w : World) (B mb m : Nat) (A : AdM) (s : Mc) (en : Int) (F : Nat → PF) (MV : Nat → Value) (fn : Nat) (al : List V) (v : Value) (hM : MSt w B mb m F MV A s en) (hfn : fn < m) (hv : ArgsIn w v al) (h0 : 0 ≤ (F fn).locals) (h8 : (F fn).locals ≤ 8) (hal : (al.length : Int) ≤ (F fn).locals) (hfr : s.fr.length ≤ 60) :
    Calls Tryz.prog 67 #[.pointer (some ⟨mb, 0, none⟩), .int .i64 fn, v] w fun e w' => e = .returned (.tuple #[]) ∧
      Goes w B mb m F MV s.fr.length A { s with fr := ⟨fn, 0, al ++ List.replicate ((F fn).locals.toNat - al.length) vnil, []⟩ :: s.fr, high := s.made fn :: s.high } en w' := by
  have hL := hM.lay
  have hB := hM.le
  obtain ⟨pb, po, pc, CA, CC, hpv, hPA, hpb, _⟩ := hM.pg.at_
  have c1 := (hPA.fn fn hfn).locals
  have hmk := fun wx => make_vals (F fn).locals h0 (by omega) wx
  obtain ⟨W2, kc, hcp, hB2, hz2, cur, hcur, hcsz, hcc⟩ := copy_args w (F fn).locals.toNat al v hv (by omega)
  have r0 : w.cell? ⟨mb, 0, none⟩ = some (.slice (some ⟨pb, po, none⟩) m pc) := by rw [cell_heap hL.run, ← hpv]; rfl
  have hmz := heap_lt hL.run
  have hmd := hM.made
  obtain ⟨vb, vcap, hmv, hvb, hvz, hvt, hvc⟩ := hmd.form (by omega)
  rw [hmv] at hmd
  have hvcell := hmd.cell (i := fn) (by omega)
  have hmkf := hM.mds fn hfn
  obtain ⟨cp, cl, cc, hcv⟩ : ∃ cp cl cc, MV fn = .slice cp cl cc := by
    rcases hmkf with ⟨_, h⟩ | ⟨_, a, n, c, h⟩
    · exact ⟨_, _, _, h⟩
    · exact ⟨_, _, _, h⟩
  rw [hcv] at hvcell
  -- the two new blocks and their tags
  have hX : Below w.heap.size w (W2.drew.alloc (.cells #[.int .i64 fn, .int .i64 0, .slice (some ⟨w.heap.size, 0, none⟩) (F fn).locals.toNat (F fn).locals.toNat, .slice none 0 0, .slice cp cl cc] 138)) := hB2.drew.alloc (by show w.heap.size ≤ W2.heap.size; omega) _
  have hch : Ch B (fun _ => False) A.tag (upd (upd A.tag w.heap.size (11 + 4 * s.fr.length)) (w.heap.size + 1) (10 + 4 * s.fr.length)) w (W2.drew.alloc (.cells #[.int .i64 fn, .int .i64 0, .slice (some ⟨w.heap.size, 0, none⟩) (F fn).locals.toNat (F fn).locals.toNat, .slice none 0 0, .slice cp cl cc] 138)) :=
    Ch.of_tags hX (fun b hb => by rw [upd_other _ _ _ _ (by omega), upd_other _ _ _ _ (by omega)])
  have hL3 := hL.keep hch
  have hq3 : (W2.drew.alloc (.cells #[.int .i64 fn, .int .i64 0, .slice (some ⟨w.heap.size, 0, none⟩) (F fn).locals.toNat (F fn).locals.toNat, .slice none 0 0, .slice cp cl cc] 138)).heap[w.heap.size + 1]? = some (.cells #[.int .i64 fn, .int .i64 0, .slice (some ⟨w.heap.size, 0, none⟩) (F fn).locals.toNat (F fn).locals.toNat, .slice none 0 0, .slice cp cl cc] 138 (0, 0)) := by
    rw [← hz2]; exact Go.Deep.blk_alloc_new W2.drew _
  have hlo3 : Row (W2.drew.alloc (.cells #[.int .i64 fn, .int .i64 0, .slice (some ⟨w.heap.size, 0, none⟩) (F fn).locals.toNat (F fn).locals.toNat, .slice none 0 0, .slice cp cl cc] 138)) B (upd (upd A.tag w.heap.size (11 + 4 * s.fr.length)) (w.heap.size + 1) (10 + 4 * s.fr.length)) (11 + 4 * s.fr.length) 43 2 (.slice (some ⟨w.heap.size, 0, none⟩) (F fn).locals.toNat (F fn).locals.toNat) (F fn).locals.toNat (vcell (al ++ List.replicate ((F fn).locals.toNat - al.length) vnil)) :=
    Or.inr ⟨w.heap.size, _, cur, rfl, hB, by rw [upd_other _ _ _ _ (by omega), upd_same], (Below.heap_alloc W2.drew _ _ (by show w.heap.size < W2.heap.size; omega)).trans hcur, Nat.le_refl _, by unfold maxLen; omega, hcsz, hcc⟩
  have hlen0 : (al ++ List.replicate ((F fn).locals.toNat - al.length) vnil).length = (F fn).locals.toNat := by simp; omega
  have hpush := pushF _ B mb 3 1 _ _ _ A.fv s.fr.length A.FB (w.heap.size + 1) hL3.run rfl hL3.own.1 (by have := hch.size; omega) (by rw [hL3.own.2]; omega) hL3.fr (by omega)
  have y2 : W2.cell? ⟨mb, 2, none⟩ = some (.slice (some ⟨vb, 0, none⟩) m vcap) := by rw [hB2.cell (p := ⟨mb, 2, none⟩) hmz, cell_heap hL.run, ← hmv]; rfl
  have y3 : W2.cell? ⟨vb, fn, none⟩ = some (.slice cp cl cc) := by rw [hB2.cell (p := ⟨vb, fn, none⟩) hvz]; exact hvcell
  have HX := hid (And.intro hL3 (And.intro hq3 (And.intro hlo3 (And.intro hch (And.intro hlen0 (And.intro hM hvt))))))
  have HP := hid hpush
  have HY := hid (And.intro y2 (And.intro y3 (And.intro hB2 hz2)))
  clear hX hch hL3 hq3 hlo3 hlen0 hpush hL hcur hcc hcsz hPA hpv hv hal hM hmd hmv hvcell y2 y3 hB2 hvc
  generalize (F fn).locals = lc at *
  have i0 : (0 : Int) ≤ (fn : Int) := by omega
  have i1 : (fn : Int) < (m : Int) := by omega
  have hpz : pb < w.heap.size := by omega
  go_enter Tryz.func67, Tryz.ntmps67
  go_wp2_with fail
  clear hcp hmk c1 r0
  refine region_lex (fun w' => w'.cell? ⟨mb, 2, none⟩ = some (.slice (some ⟨vb, 0, none⟩) m vcap) ∧ w'.cell? ⟨vb, fn, none⟩ = some (.slice cp cl cc)) [(false, 0), (false, 1), (false, 2), (false, 3), (false, 4), (false, 5), (false, 6), (false, 7), (false, 8), (false, 9), (false, 10), (false, 11), (false, 12), (true, 13), (true, 14)] (by kernel_rfl) (by kernel_rfl) (panic_body _ _) ⟨HY.out.1, HY.out.2.1⟩ ?_
  simp only [lexL, List.getElem?_cons_zero, List.getElem?_cons_succ]
  iterate 13 (refine lexW_free (by rfl) (by intro w' hS'; obtain ⟨q0, q1⟩ := hS'; go_simp; exact rfl) ?_; simp only [Act.put, List.setIfInBounds_toArray, List.set_cons_zero, List.set_cons_succ])
  have hvz2 : vb < W2.drew.heap.size := by show vb < W2.heap.size; have := HY.out.2.2.1.size; omega
  have hmz2 : mb < W2.drew.heap.size := by show mb < W2.heap.size; have := HY.out.2.2.1.size; omega
  refine lexW_sole (fun K hK => ?_)
  go_simp
  refine hK.out _ _ ⟨alloc_cell (w := W2.drew) HY.out.1 hmz2, alloc_cell (w := W2.drew) HY.out.2.1 hvz2⟩ ?_
  clear hK K
  have hq1 : W2.drew.heap.size = w.heap.size + 1 := HY.out.2.2.2
  refine lexW_sole (fun K hK => ?_)
  go_simp
  refine HP.out.mono ?_
  rintro e w' ⟨rfl, tag', sv', h1, h2, h3⟩
  obtain ⟨hL3, hq3, hlo3, hch, hlen0, hM, hvt⟩ := HX.out
  have hmt : upd (upd A.tag w.heap.size (11 + 4 * s.fr.length)) (w.heap.size + 1) (10 + 4 * s.fr.length) mb = 0 := hL3.own.2
  have h4 := h3.mono (q := fun d => d = 0 ∨ d = 1) (fun d hd => by rw [hmt] at hd; omega)
  have htq : upd (upd A.tag w.heap.size (11 + 4 * s.fr.length)) (w.heap.size + 1) (10 + 4 * s.fr.length) (w.heap.size + 1) = 10 + 4 * s.fr.length := upd_same _ _ _
  have htv : upd (upd A.tag w.heap.size (11 + 4 * s.fr.length)) (w.heap.size + 1) (10 + 4 * s.fr.length) vb = 6 := by rw [upd_other _ _ _ _ (by omega), upd_other _ _ _ _ (by omega)]; exact hvt
  obtain ⟨g1, g2⟩ := blk_keep hq3 h4 (by rw [htq]; omega)
  have hfin := hL3.pushed (f0 := ⟨fn, 0, al ++ List.replicate (lc.toNat - al.length) vnil, []⟩) (lv := .slice (some ⟨w.heap.size, 0, none⟩) lc.toNat lc.toNat) (sv := .slice none 0 0) (cv := .slice cp cl cc) h4 h2 h1 g1 (by omega) (g2.trans htq) (by
    show Row w' B tag' _ _ 2 _ (al ++ List.replicate (lc.toNat - al.length) vnil).length _
    rw [hlen0]
    exact hlo3.keep h4 (by omega)) (Row.nil _ _ _ _ _ _ _)
  have hcN : Ch B N5 A.tag tag' w w' := (hch.mono (q := N5) (fun _ h => h.elim)).trans (h4.mono (fun d hd => by unfold N5; omega))
  have hgo : Goes w B mb m F MV s.fr.length A { s with fr := ⟨fn, 0, al ++ List.replicate (lc.toNat - al.length) vnil, []⟩ :: s.fr, high := s.made fn :: s.high } en w' := by
    have hfin2 := hfin.like (s' := { s with fr := ⟨fn, 0, al ++ List.replicate (lc.toNat - al.length) vnil, []⟩ :: s.fr, high := s.made fn :: s.high }) rfl rfl rfl rfl rfl
    refine ⟨_, hM.ch hfin2 (by show s.high.length + 1 = s.fr.length + 1; rw [hM.hl]) (fun i hi => ?_) hM.cnt rfl ⟨rfl, rfl, rfl⟩ hcN, ⟨rfl, rfl, rfl⟩, hcN, fun i hi hn => upd_other _ _ _ _ (by omega), fun i hi => ?_⟩
    · show CodeV (upd A.g.CV s.fr.length (.slice cp cl cc) i) (hiAt (s.made fn :: s.high) i)
      have hi' : i < s.fr.length + 1 := hi
      by_cases e : i = s.fr.length
      · rw [e, upd_same, hiAt_top _ _ hM.hl.symm, ← hcv]
        exact hM.mds fn hfn
      · rw [upd_other _ _ _ _ e, hiAt_rest _ _ _ (by rw [hM.hl]; omega)]
        exact hM.cod i (by omega)
    · show (i < s.fr.length → upd A.g.CV s.fr.length (.slice cp cl cc) i = A.g.CV i) ∧ (s.fr.length ≤ i → upd A.g.CV s.fr.length (.slice cp cl cc) i = MV (frAt (⟨fn, 0, al ++ List.replicate (lc.toNat - al.length) vnil, []⟩ :: s.fr) i).fn)
      have hi' : i < s.fr.length + 1 := hi
      refine ⟨fun h => upd_other _ _ _ _ (by omega), fun h => ?_⟩
      obtain rfl : i = s.fr.length := by omega
      rw [upd_same, frAt_top, ← hcv]
  have z2 : w'.cell? ⟨mb, 2, none⟩ = some (.slice (some ⟨vb, 0, none⟩) m vcap) := by
    have e1 := cell_heap (o := 2) h2
    have e2 := cell_heap (o := 2) hL3.run
    have e3 : (W2.drew.alloc (.cells #[.int .i64 fn, .int .i64 0, .slice (some ⟨w.heap.size, 0, none⟩) lc.toNat lc.toNat, .slice none 0 0, .slice cp cl cc] 138)).cell? ⟨mb, 2, none⟩ = some (.slice (some ⟨vb, 0, none⟩) m vcap) := alloc_cell (w := W2.drew) HY.out.1 hmz2
    rw [e1]
    rw [e2] at e3
    exact e3
  have z3 : w'.cell? ⟨vb, fn, none⟩ = some (.slice cp cl cc) := by
    refine (h4.cell (a := ⟨vb, fn, none⟩) (by show vb < _; simp; omega) (by rw [htv]; omega)).trans ?_
    exact alloc_cell (w := W2.drew) HY.out.2.1 hvz2
  refine hK.out _ _ ⟨z2, z3⟩ ?_
  have HQ := hid hgo
  clear hK K hgo z2 z3 hcN hfin h1 h2 h3 h4 g1 g2 hL3 hq3 hlo3 hch hlen0 htq htv hM hvt
  refine lexW_done ?_
  go_wp2
  go_end0
  exact ⟨rfl, HQ.out⟩
end Go.Proofs.YtkafkipjedpohaaGreatDoor
