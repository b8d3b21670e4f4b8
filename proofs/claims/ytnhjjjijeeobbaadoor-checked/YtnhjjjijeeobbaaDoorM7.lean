/-
  The project's machine: what reckon does, by straight; newFrame.
-/
import Derived.Test.YtnhjjjijeeobbaaDoorM6
import Derived.Test.YtnhjjjijeeobbaaDoorR9
import Derived.Test.YtnhjjjijeeobbaaDoorD1
import Derived.Test.YtnhjjjijeeobbaaDoorC3
namespace Go.Proofs.YtnhjjjijeeobbaaDoor
open Go.RowKit

set_option maxRecDepth 100000 in
set_option maxHeartbeats 1000000 in
theorem straight_reckon (w : World) (B mb : Nat) (A : AdM) (s : Mc) (en : Int) (f : Fr) (rest : List Fr) (op x : Int) (b a : V) (st : List V) (hL : LayM w B mb A s en) (hs : s.fr = f :: rest) (hst : f.stk = b :: a :: st) (hB : B ≤ w.heap.size) (hn : st.length ≤ 60)
    (hop : op = 4 ∨ op = 5 ∨ op = 6 ∨ op = 7 ∨ op = 8) (hak : a.k = 1) (hbk : b.k = 1) (hb0 : op = 7 → b.n ≠ 0) :
    Calls Tryd.prog 95 #[.pointer (some ⟨mb, 0, none⟩), .pointer (some ⟨A.FB rest.length, 0, none⟩), .agg #[.int .i64 op, .int .i64 x]] w (WentM w B mb A s en rest { f with stk := vnum (resP op a.n b.n) :: st }) := by
  obtain ⟨l1, c1, z1⟩ := in_box hL (Tk rest.length) (.cells #[.int .i64 op, .int .i64 x] 35)
  have hr := reckonM _ B mb _ s en f rest op b a st l1 hs hst (by omega) hn hop hak hbk hb0
  have HR := hid hr
  have HC := hid c1
  clear hr c1 l1 z1 hL hak hbk hb0 hst
  unfold WentM
  rcases hop with rfl | rfl | rfl | rfl | rfl
  all_goals
    go_enter Tryd.func95, Tryd.ntmps95
    go_wp2_with fail
    refine HR.out.mono ?_
    rintro e w7 ⟨rfl, h7⟩
    have HQ := hid (Aft.on (A := A) (A1 := { A with tag := upd A.tag w.heap.size 5 }) rfl rfl HC.out h7)
    clear h7
    go_wp2
    go_end0
    exact ⟨rfl, HQ.out⟩

/-- The program that a machine runs: made ahead of block B. -/
def Pg (w : World) (B : Nat) (pv : Value) (m : Nat) (F : Nat → PF) : Prop :=
  ∃ pb po pc CA CC, ∃ w0 : World, pv = .slice (some ⟨pb, po, none⟩) m pc ∧ w0.heap.size = B ∧ ProgAt w0 pb po m F CA CC ∧ Below B w0 w
theorem Pg.below {w w' : World} {B : Nat} {pv : Value} {m : Nat} {F : Nat → PF} (h : Pg w B pv m F) (k : Below B w w') : Pg w' B pv m F := by
  obtain ⟨pb, po, pc, CA, CC, w0, h1, h2, h3, h4⟩ := h
  exact ⟨pb, po, pc, CA, CC, w0, h1, h2, h3, h4.trans k⟩
theorem Pg.at_ {w : World} {B : Nat} {pv : Value} {m : Nat} {F : Nat → PF} (h : Pg w B pv m F) : ∃ pb po pc CA CC, pv = .slice (some ⟨pb, po, none⟩) m pc ∧ ProgAt w pb po m F CA CC ∧ pb < B ∧ ∀ k, k < m → ∀ cb co, CA k = some ⟨cb, co, none⟩ → 1 ≤ (F k).cn → cb < B := by
  obtain ⟨pb, po, pc, CA, CC, w0, h1, h2, h3, h4⟩ := h
  refine ⟨pb, po, pc, CA, CC, h1, h3.below h4 (by omega), by rw [← h2]; exact h3.lt, fun k hk cb co hc hcn => ?_⟩
  obtain ⟨cb', co', e, hlt, _⟩ := (h3.fn k hk).code hcn
  rw [hc] at e
  injection e with e
  injection e with e
  omega

/-- The values that are handed to a new frame. -/
def ArgsIn (w : World) (v : Value) (al : List V) : Prop :=
  (al = [] ∧ ∃ a c, v = .slice a 0 c) ∨ ∃ ab c, v = .slice (some ⟨ab, 0, none⟩) al.length c ∧ ab < w.heap.size ∧ ∀ i, i < al.length * 2 → w.cell? ⟨ab, i, none⟩ = some (vcell al i)

theorem Tryd.sizeV : (Tryd.prog.info? 45).map (·.size) = some 2 := by kernel_rfl

theorem vcell_one (l : List V) (i : Nat) : (vcell l i).oneCell' = true := by unfold vcell; split <;> rfl

theorem copy_args (w : World) (L : Nat) (al : List V) (v : Value) (hv : ArgsIn w v al) (hl : al.length ≤ L) :
    ∃ (W2 : World) (k : Nat), (Builtin.copy_ #[46, 46] 3 #[.slice (some ⟨w.heap.size, 0, none⟩) L L, v]).run Tryd.prog (w.alloc (.cells (vArr L) 45)) = .ok (goInt k) W2 ∧ Below w.heap.size w W2 ∧ W2.heap.size = w.heap.size + 1 ∧
      ∃ cur : Array Value, W2.heap[w.heap.size]? = some (.cells cur 45 (0, 0)) ∧ cur.size = L * 2 ∧ ∀ i, i < L * 2 → cur[i]? = some (vcell (al ++ List.replicate (L - al.length) vnil) i) := by
  have hA : Below w.heap.size w (w.alloc (.cells (vArr L) 45)) := (Below.refl _ _).alloc (Nat.le_refl _) _
  have hsz : (vArr L).size = L * 2 := by simp [vArr, size_madeCells]
  have hz : ∀ i, i < L * 2 → (vArr L)[i]? = some (.int .i64 0) := fun i hi => by
    have : i % 2 = 0 ∨ i % 2 = 1 := by omega
    rcases this with e | e <;> simp [vArr, madeCells, hi, e]
  have hvn : ∀ i, al.length * 2 ≤ i → vcell (al ++ List.replicate (L - al.length) vnil) i = .int .i64 0 := fun i hi => by
    unfold vcell
    rw [List.getD_eq_getElem?_getD, List.getElem?_append_right (by omega)]
    by_cases h : i / 2 - al.length < L - al.length
    · rw [List.getElem?_replicate, if_pos h]
      split <;> rfl
    · rw [List.getElem?_replicate, if_neg h]
      split <;> rfl
  rcases hv with ⟨rfl, a, c, rfl⟩ | ⟨ab, c, rfl, hab, hcells⟩
  · refine ⟨_, 0, run_copy_zero _ _ _ _ _ _ _ _ _ _ Tryd.underlying46 2 Tryd.sizeV, hA, by simp, vArr L, Go.Deep.blk_alloc_new _ _, hsz, fun i hi => ?_⟩
    rw [hz i hi, hvn i (by simp)]
  · have hrun := run_copy_rows (P := Tryd.prog) (w.alloc (.cells (vArr L) 45)) 46 46 3 45 2 w.heap.size L L ⟨ab, 0, none⟩ al.length c (vArr L) 45 ((List.range (al.length * 2)).map (vcell al)) Tryd.underlying46 Tryd.sizeV (Go.Deep.blk_alloc_new _ _) hl (by simp)
      (fun j u hu => by
        have hj : j < al.length * 2 := by
          have := (List.getElem?_eq_some_iff.1 hu).1
          simpa using this
        have hu' : vcell al j = u := by simpa [hj] using hu
        rw [Addr.add_lit, Nat.zero_add]
        rw [← hu']
        exact (hA.cell (p := ⟨ab, j, none⟩) hab).trans (hcells j hj)) (by rw [hsz]; simp; omega) (fun u hu => by
        obtain ⟨j, _, rfl⟩ := List.mem_map.1 hu
        exact vcell_one al j)
    refine ⟨_, al.length, hrun, ?_, by simp [World.setRow], _, Go.setRow_heap _ _ _ _ 45 (0, 0) (Go.Deep.blk_alloc_new _ _), ?_, fun i hi => ?_⟩
    · exact ⟨rfl, rfl, rfl, by simp [World.setRow], fun k hk => by rw [Go.setRow_other _ _ _ _ (by omega)]; exact hA.block k hk⟩
    · simp [hsz]; omega
    · by_cases h : i < al.length * 2
      · rw [List.getElem?_toArray, List.getElem?_append_left (by simpa using h)]
        simp [h]
        unfold vcell
        rw [List.getD_eq_getElem?_getD, List.getD_eq_getElem?_getD, List.getElem?_append_left (by omega)]
      · rw [List.getElem?_toArray, List.getElem?_append_right (by simp; omega), hvn i (by omega)]
        simp only [List.length_map, List.length_range, List.getElem?_drop, Array.getElem?_toList]
        rw [show al.length * 2 + (i - al.length * 2) = i by omega]
        exact hz i hi

/-- One frame more. -/
theorem LayM.pushed {w w' : World} {B mb : Nat} {A : AdM} {s : Mc} {en : Int} {tag' : Nat → Nat} {fv lv sv : Value} {q : Nat} {f0 : Fr} (h : LayM w B mb A s en) (k : Ch B (fun d => d = 0 ∨ d = 1) A.tag tag' w w')
    (hmb : w'.heap[mb]? = some (.cells ((mcells A s en).setIfInBounds 1 fv) 119 (0, 0))) (hfr : Row w' B tag' 1 123 1 fv (s.fr.length + 1) (pcell (upd A.FB s.fr.length q)))
    (hq : w'.heap[q]? = some (.cells (frcells f0 lv sv) 127 (0, 0))) (hqB : B ≤ q) (hqt : tag' q = 10 + 4 * s.fr.length)
    (hlo : Row w' B tag' (11 + 4 * s.fr.length) 45 2 lv f0.loc.length (vcell f0.loc)) (hst : Row w' B tag' (12 + 4 * s.fr.length) 45 2 sv f0.stk.length (vcell f0.stk.reverse)) :
    LayM w' B mb { A with tag := tag', fv := fv, FB := upd A.FB s.fr.length q, LV := upd A.LV s.fr.length lv, SV := upd A.SV s.fr.length sv } { s with fr := f0 :: s.fr } en := by
  refine ⟨hmb, ⟨h.own.1, (k.tags mb (heap_lt h.run)).trans h.own.2⟩, hfr, fun i hi => ?_, h.ar.keep k (by omega), h.out.keep k (by omega), fun i hi => ?_, fun i hi => ?_, fun j hj => (h.arr j hj).keep k (by omega)⟩
  · have hi' : i < s.fr.length + 1 := hi
    show w'.heap[upd A.FB s.fr.length q i]? = some (Obj.cells (frcells (frAt (f0 :: s.fr) i) (upd A.LV s.fr.length lv i) (upd A.SV s.fr.length sv i)) _ _) ∧ B ≤ upd A.FB s.fr.length q i ∧ tag' (upd A.FB s.fr.length q i) = 10 + 4 * i
    by_cases e : i = s.fr.length
    · subst e
      rw [frAt_top, upd_same, upd_same, upd_same]
      exact ⟨hq, hqB, hqt⟩
    · rw [frAt_rest _ _ _ (by omega), upd_other _ _ _ _ e, upd_other _ _ _ _ e, upd_other _ _ _ _ e]
      obtain ⟨g1, g2, g3⟩ := h.fb i (by omega)
      obtain ⟨g4, g5⟩ := blk_keep g1 k (by rw [g3]; omega)
      exact ⟨g4, g2, g5.trans g3⟩
  · have hi' : i < s.fr.length + 1 := hi
    show Row w' B tag' _ _ 2 (upd A.LV s.fr.length lv i) (frAt (f0 :: s.fr) i).loc.length (vcell (frAt (f0 :: s.fr) i).loc)
    by_cases e : i = s.fr.length
    · subst e
      rw [frAt_top, upd_same]
      exact hlo
    · rw [frAt_rest _ _ _ (by omega), upd_other _ _ _ _ e]
      exact (h.loc i (by omega)).keep k (by omega)
  · have hi' : i < s.fr.length + 1 := hi
    show Row w' B tag' _ _ 2 (upd A.SV s.fr.length sv i) (frAt (f0 :: s.fr) i).stk.length (vcell (frAt (f0 :: s.fr) i).stk.reverse)
    by_cases e : i = s.fr.length
    · subst e
      rw [frAt_top, upd_same]
      exact hst
    · rw [frAt_rest _ _ _ (by omega), upd_other _ _ _ _ e]
      exact (h.stk i (by omega)).keep k (by omega)

theorem Ch.below' {B : Nat} {p : Nat → Prop} {t1 t2 : Nat → Nat} {u v : World} (h : Ch B p t1 t2 u v) (hB : B ≤ u.heap.size) : Below B u v := h.below hB

set_option maxRecDepth 100000 in
set_option maxHeartbeats 1000000 in
theorem newFrameM (w : World) (B mb m : Nat) (A : AdM) (s : Mc) (en : Int) (F : Nat → PF) (fn : Nat) (al : List V) (v : Value) (hL : LayM w B mb A s en) (hPg : Pg w B A.pv m F) (hB : B ≤ w.heap.size) (hfn : fn < m) (hv : ArgsIn w v al) (h0 : 0 ≤ (F fn).locals) (h8 : (F fn).locals ≤ 8) (hal : (al.length : Int) ≤ (F fn).locals) (hfr : s.fr.length ≤ 60) (_hm : m ≤ 8) :
    Calls Tryd.prog 56 #[.pointer (some ⟨mb, 0, none⟩), .int .i64 fn, v] w fun e w' => e = .returned (.tuple #[]) ∧
      ∃ A' : AdM, LayM w' B mb A' { s with fr := ⟨fn, 0, al ++ List.replicate ((F fn).locals.toNat - al.length) vnil, []⟩ :: s.fr } en ∧ A'.pv = A.pv ∧ Ch B (fun d => d = 0 ∨ d = 1) A.tag A'.tag w w' := by
  obtain ⟨pb, po, pc, CA, CC, hpv, hPA, hpb, _⟩ := hPg.at_
  have c1 := (hPA.fn fn hfn).locals
  have hmk := fun wx => make_vals (F fn).locals h0 (by omega) wx
  obtain ⟨W2, kc, hcp, hB2, hz2, cur, hcur, hcsz, hcc⟩ := copy_args w (F fn).locals.toNat al v hv (by omega)
  have r0 : w.cell? ⟨mb, 0, none⟩ = some (.slice (some ⟨pb, po, none⟩) m pc) := by rw [cell_heap hL.run, ← hpv]; rfl
  have hmz := heap_lt hL.run
  have hL2 := hL.below hB2
  -- the two new blocks and their tags
  have hX : Below w.heap.size w (W2.alloc (.cells #[.int .i64 fn, .int .i64 0, .slice (some ⟨w.heap.size, 0, none⟩) (F fn).locals.toNat (F fn).locals.toNat, .slice none 0 0] 127)) := hB2.alloc (by omega) _
  have hch : Ch B (fun _ => False) A.tag (upd (upd A.tag w.heap.size (11 + 4 * s.fr.length)) (w.heap.size + 1) (10 + 4 * s.fr.length)) w (W2.alloc (.cells #[.int .i64 fn, .int .i64 0, .slice (some ⟨w.heap.size, 0, none⟩) (F fn).locals.toNat (F fn).locals.toNat, .slice none 0 0] 127)) :=
    Ch.of_tags hX (fun b hb => by rw [upd_other _ _ _ _ (by omega), upd_other _ _ _ _ (by omega)])
  have hL3 := hL.keep hch
  have hq3 : (W2.alloc (.cells #[.int .i64 fn, .int .i64 0, .slice (some ⟨w.heap.size, 0, none⟩) (F fn).locals.toNat (F fn).locals.toNat, .slice none 0 0] 127)).heap[w.heap.size + 1]? = some (.cells #[.int .i64 fn, .int .i64 0, .slice (some ⟨w.heap.size, 0, none⟩) (F fn).locals.toNat (F fn).locals.toNat, .slice none 0 0] 127 (0, 0)) := by
    rw [← hz2]; exact Go.Deep.blk_alloc_new _ _
  have hlo3 : Row (W2.alloc (.cells #[.int .i64 fn, .int .i64 0, .slice (some ⟨w.heap.size, 0, none⟩) (F fn).locals.toNat (F fn).locals.toNat, .slice none 0 0] 127)) B (upd (upd A.tag w.heap.size (11 + 4 * s.fr.length)) (w.heap.size + 1) (10 + 4 * s.fr.length)) (11 + 4 * s.fr.length) 45 2 (.slice (some ⟨w.heap.size, 0, none⟩) (F fn).locals.toNat (F fn).locals.toNat) (F fn).locals.toNat (vcell (al ++ List.replicate ((F fn).locals.toNat - al.length) vnil)) :=
    Or.inr ⟨w.heap.size, _, cur, rfl, hB, by rw [upd_other _ _ _ _ (by omega), upd_same], (Below.heap_alloc W2 _ _ (by omega)).trans hcur, Nat.le_refl _, by unfold maxLen; omega, hcsz, hcc⟩
  have hlen0 : (al ++ List.replicate ((F fn).locals.toNat - al.length) vnil).length = (F fn).locals.toNat := by simp; omega
  have hpush := pushF _ B mb 1 1 _ _ _ A.fv s.fr.length A.FB (w.heap.size + 1) hL3.run rfl hL3.own.1 (by have := hch.size; omega) (by rw [hL3.own.2]; omega) hL3.fr (by omega)
  have HX := hid (And.intro hL3 (And.intro hq3 (And.intro hlo3 (And.intro hch hlen0))))
  have HP := hid hpush
  clear hX hch hL3 hq3 hlo3 hlen0 hpush hL2 hL hcur hcc hcsz hPA hPg hpv hv hal
  generalize (F fn).locals = lc at *
  have i0 : (0 : Int) ≤ (fn : Int) := by omega
  have i1 : (fn : Int) < (m : Int) := by omega
  have hpz : pb < w.heap.size := by omega
  go_enter Tryd.func56, Tryd.ntmps56
  go_wp2_with fail
  refine HP.out.mono ?_
  rintro e w' ⟨rfl, tag', sv', h1, h2, h3⟩
  obtain ⟨hL3, hq3, hlo3, hch, hlen0⟩ := HX.out
  have hmt : upd (upd A.tag w.heap.size (11 + 4 * s.fr.length)) (w.heap.size + 1) (10 + 4 * s.fr.length) mb = 0 := hL3.own.2
  have h4 := h3.mono (q := fun d => d = 0 ∨ d = 1) (fun d hd => by rw [hmt] at hd; omega)
  have htq : upd (upd A.tag w.heap.size (11 + 4 * s.fr.length)) (w.heap.size + 1) (10 + 4 * s.fr.length) (w.heap.size + 1) = 10 + 4 * s.fr.length := upd_same _ _ _
  obtain ⟨g1, g2⟩ := blk_keep hq3 h4 (by rw [htq]; omega)
  have hfin := hL3.pushed (f0 := ⟨fn, 0, al ++ List.replicate (lc.toNat - al.length) vnil, []⟩) (lv := .slice (some ⟨w.heap.size, 0, none⟩) lc.toNat lc.toNat) (sv := .slice none 0 0) h4 h2 h1 g1 (by omega) (g2.trans htq) (by
    show Row w' B tag' _ _ 2 _ (al ++ List.replicate (lc.toNat - al.length) vnil).length _
    rw [hlen0]
    exact hlo3.keep h4 (by omega)) (Row.nil _ _ _ _ _ _ _)
  have HQ := hid (And.intro hfin ((hch.mono (q := fun d => d = 0 ∨ d = 1) (fun _ h => h.elim)).trans h4))
  clear hfin h1 h2 h3 h4 g1 g2 hL3 hq3 hlo3 hch hlen0 htq
  go_wp2
  go_end0
  exact ⟨rfl, _, HQ.out.1, rfl, HQ.out.2⟩
end Go.Proofs.YtnhjjjijeeobbaaDoor
