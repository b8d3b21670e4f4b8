import Derived.Test.YtkafkipjedpohaaGreatDoorM31

/-
  The project's machine: State.
-/
namespace Go.Proofs.YtkafkipjedpohaaGreatDoor
open Go.RowKit

theorem Tryz.infoFrame : (Tryz.prog.info? 73).map (fun i => (i.zero, i.size, i.bytes)) = some (some (.agg #[.int .i64 0, .int .i64 0, .slice none 0 0, .slice none 0 0]), 4, 64) := by kernel_rfl

theorem Tryz.infoVals : (Tryz.prog.info? 44).map (fun i => (i.zero, i.size, i.bytes)) = some (some (.slice none 0 0), 1, 24) := by kernel_rfl

/-- A state that has gone out. -/
def StOut (w w' : World) (fr : List Fr) (arr : List (List V)) (e : Ending) : Prop :=
  ∃ fv av LV SV AV tag, e = .returned (.agg #[fv, av]) ∧ Below w.heap.size w w' ∧ FrsOut w' w.heap.size tag fv LV SV (frAt fr) fr.length ∧ ArsOut w' w.heap.size tag av AV arr arr.length

/-- While the frames are told. -/
structure ToldR (w wr : World) (fl : Value) (n : Nat) (fr : Nat → Fr) (FB : Nat → Nat) (tag : Nat → Nat) (v : Value) (LV SV : Nat → Value) (k : Nat) : Prop where
  bl : Below w.heap.size w wr
  res : wr.heap[w.heap.size]? = some (.cells #[.slice none 0 0, .slice none 0 0] 53 (0, 0))
  st : wr.heap[w.heap.size + 1]? = some (.cells #[v, .slice none 0 0] 53 (0, 0))
  t9 : tag w.heap.size = 9
  t0 : tag (w.heap.size + 1) = 0
  list : Row wr w.heap.size tag 7 133 1 fl n (pcell FB)
  out : FrsOut wr w.heap.size tag v LV SV fr k
def Told (w wr : World) (fl : Value) (fr : List Fr) (FB : Nat → Nat) (k : Nat) : Prop := ∃ tag v LV SV, ToldR w wr fl fr.length (frAt fr) FB tag v LV SV k

theorem ToldR.keep {w wr wx : World} {fl : Value} {n : Nat} {fr : Nat → Fr} {FB : Nat → Nat} {tag tag' : Nat → Nat} {v : Value} {LV SV : Nat → Value} {k : Nat} (h : ToldR w wr fl n fr FB tag v LV SV k) (c : Ch w.heap.size (fun _ => False) tag tag' wr wx) : ToldR w wx fl n fr FB tag' v LV SV k := by
  obtain ⟨r1, r2⟩ := blk_keep h.res c (fun h => h)
  obtain ⟨s1, s2⟩ := blk_keep h.st c (fun h => h)
  exact ⟨h.bl.trans (c.below h.bl.size), r1, s1, r2.trans h.t9, s2.trans h.t0, h.list.keep c (fun h => h), h.out.keep c (fun h => h) (fun _ _ => ⟨fun h => h, fun h => h⟩)⟩

/-- Behind the two copies. -/
theorem ToldR.copied {w wr w3 w4 : World} {fl : Value} {n : Nat} {fr : Nat → Fr} {FB : Nat → Nat} {tag : Nat → Nat} {v : Value} {LV SV : Nat → Value} {k : Nat} (h : ToldR w wr fl n fr FB tag v LV SV k) {lv sv : Value} {l1 l2 : List V} (hB3 : Below wr.heap.size wr w3) (hO3 : OutL wr w3 lv l1) (hB4 : Below w3.heap.size w3 w4) (hO4 : OutL w3 w4 sv l2) :
    ∃ tag', ToldR w w4 fl n fr FB tag' v LV SV k ∧ Row w4 w.heap.size tag' (11 + 4 * k) 43 2 lv l1.length (vcell l1) ∧ Row w4 w.heap.size tag' (12 + 4 * k) 43 2 sv l2.length (vcell l2) := by
  have hs := h.bl.size
  have hs3 := hB3.size
  have c3 := Ch.tagged (B := w.heap.size) hB3 (fun _ => False) tag (11 + 4 * k)
  have c4 := Ch.tagged (B := w.heap.size) hB4 (fun _ => False) (fun b => if b < wr.heap.size then tag b else 11 + 4 * k) (12 + 4 * k)
  exact ⟨_, (h.keep c3).keep c4, (hO3.tagged hs tag (11 + 4 * k)).keep c4 (fun h => h), hO4.tagged (by omega) _ _⟩

/-- Behind the append and the store. -/
theorem ToldR.more {w w4 w5 : World} {fl : Value} {n : Nat} {fr : Nat → Fr} {FB : Nat → Nat} {tag : Nat → Nat} {v : Value} {LV SV : Nat → Value} {k : Nat} (h : ToldR w w4 fl n fr FB tag v LV SV k) {lv sv : Value} (hl : Row w4 w.heap.size tag (11 + 4 * k) 43 2 lv (fr k).loc.length (vcell (fr k).loc)) (hs : Row w4 w.heap.size tag (12 + 4 * k) 43 2 sv (fr k).stk.length (vcell (fr k).stk.reverse)) {g cap : Nat} (o : Obj)
    (hown : w5.ownsRow w.heap.size 73 4 (.slice (some ⟨g, 0, none⟩) (k + 1) cap) (k + 1) ((List.range (k * 4)).map (gcell fr LV SV) ++ [.int .i64 (fr k).fn, .int .i64 (fr k).pc, lv, sv])) (hgrow : (w4.alloc o).grownBy w5 v.ownBlock) (hat : v.ownBlock = some g ∨ g = w4.heap.size + 1) :
    Below w.heap.size w w5 ∧ w5.heap[w.heap.size + 1]? = some (.cells #[v, .slice none 0 0] 53 (0, 0)) ∧ ∃ tag', ToldR w (w5.setCell ⟨w.heap.size + 1, 0, none⟩ (.slice (some ⟨g, 0, none⟩) (k + 1) cap)) fl n fr FB tag' (.slice (some ⟨g, 0, none⟩) (k + 1) cap) (upd LV k lv) (upd SV k sv) (k + 1) := by
  have hX : Ch w.heap.size (fun _ => False) tag tag w4 (w4.alloc o) := Ch.of_below ((Below.refl _ _).alloc (Nat.le_refl _) _)
  have h1 := h.keep hX
  obtain ⟨tag', hfo, hch⟩ := h1.out.add (hl.keep hX (fun h => h)) (hs.keep hX (fun h => h)) hown hgrow (by rcases hat with h | h; exact Or.inl h; right; rw [h]; simp)
  obtain ⟨r1, r2⟩ := blk_keep h1.res hch (by rw [h1.t9]; omega)
  obtain ⟨s1, s2⟩ := blk_keep h1.st hch (by rw [h1.t0]; omega)
  have hcs : Ch w.heap.size (fun d => d = 0) tag' tag' w5 (w5.setCell ⟨w.heap.size + 1, 0, none⟩ (.slice (some ⟨g, 0, none⟩) (k + 1) cap)) := Ch.set w5 _ _ _ (by omega) (s2.trans h1.t0)
  obtain ⟨q1, q2⟩ := blk_keep r1 hcs (by rw [r2, h1.t9]; omega)
  refine ⟨h1.bl.trans (hch.below h1.bl.size), s1, tag', (h1.bl.trans (hch.below h1.bl.size)).trans (hcs.below (by have := h1.bl.size; have := hch.size; omega)), q1, ?_, q2.trans (r2.trans h1.t9), s2.trans h1.t0, (h1.list.keep hch (by omega)).keep hcs (by omega), hfo.keep hcs (by omega) (fun i _ => ⟨by omega, by omega⟩)⟩
  exact heap_set (o := 0) s1 _

theorem Told.first {w W w2 : World} {fp : Option Addr} {fc : Nat} {fr : List Fr} {FB : Nat → Nat} (hW : Below w.heap.size w W) (hz : W.heap.size = w.heap.size + 2) (b0 : W.heap[w.heap.size]? = some (.cells #[.slice none 0 0, .slice none 0 0] 53 (0, 0))) (b1 : W.heap[w.heap.size + 1]? = some (.cells #[.slice none 0 0, .slice none 0 0] 53 (0, 0)))
    (hB : Below W.heap.size W w2) (hO : OutF W w2 (.slice fp fr.length fc) fr.length FB) : Told w w2 (.slice fp fr.length fc) fr FB 0 := by
  refine ⟨fun b => if b = w.heap.size then 9 else if b = w.heap.size + 1 then 0 else 7, .slice none 0 0, fun _ => .slice none 0 0, fun _ => .slice none 0 0, ⟨hW.trans (hB.mono (by omega)), (hB.block _ (by omega)).trans b0, (hB.block _ (by omega)).trans b1, ?_, ?_, ?_, ⟨Row.nil _ _ _ _ _ _ _, fun i hi => by omega, fun i hi => by omega⟩⟩⟩
  · show (if w.heap.size = w.heap.size then 9 else _) = 9
    rw [if_pos rfl]
  · show (if w.heap.size + 1 = w.heap.size then 9 else if w.heap.size + 1 = w.heap.size + 1 then 0 else 7) = 0
    rw [if_neg (by omega), if_pos rfl]
  · rcases hO with h | ⟨g, cap, cur, hv, hg, _, hr⟩
    · exact Or.inl h
    · refine Or.inr ⟨g, cap, cur, hv, by omega, ?_, hr⟩
      show (if g = w.heap.size then 9 else if g = w.heap.size + 1 then 0 else 7) = 7
      rw [if_neg (by omega), if_neg (by omega)]

/-- While the arrays are told. -/
structure ToldS (w wr : World) (n : Nat) (fr : Nat → Fr) (arr : List (List V)) (tag : Nat → Nat) (v : Value) (LV SV : Nat → Value) (av : Value) (AV : Nat → Value) (k : Nat) : Prop where
  bl : Below w.heap.size w wr
  res : wr.heap[w.heap.size]? = some (.cells #[.slice none 0 0, .slice none 0 0] 53 (0, 0))
  st : wr.heap[w.heap.size + 1]? = some (.cells #[v, av] 53 (0, 0))
  t9 : tag w.heap.size = 9
  t0 : tag (w.heap.size + 1) = 0
  out : FrsOut wr w.heap.size tag v LV SV fr n
  ars : ArsOut wr w.heap.size tag av AV arr k

theorem ToldS.keep {w wr wx : World} {n : Nat} {fr : Nat → Fr} {arr : List (List V)} {tag tag' : Nat → Nat} {v av : Value} {LV SV AV : Nat → Value} {k : Nat} (h : ToldS w wr n fr arr tag v LV SV av AV k) (c : Ch w.heap.size (fun _ => False) tag tag' wr wx) : ToldS w wx n fr arr tag' v LV SV av AV k := by
  obtain ⟨r1, r2⟩ := blk_keep h.res c (fun h => h)
  obtain ⟨s1, s2⟩ := blk_keep h.st c (fun h => h)
  exact ⟨h.bl.trans (c.below h.bl.size), r1, s1, r2.trans h.t9, s2.trans h.t0, h.out.keep c (fun h => h) (fun _ _ => ⟨fun h => h, fun h => h⟩), h.ars.keep c (fun h => h) (fun _ _ h => h)⟩

theorem ToldS.copied {w wr w3 : World} {n : Nat} {fr : Nat → Fr} {arr : List (List V)} {tag : Nat → Nat} {v av : Value} {LV SV AV : Nat → Value} {k : Nat} (h : ToldS w wr n fr arr tag v LV SV av AV k) {lv : Value} {l1 : List V} (hB3 : Below wr.heap.size wr w3) (hO3 : OutL wr w3 lv l1) :
    ∃ tag', ToldS w w3 n fr arr tag' v LV SV av AV k ∧ Row w3 w.heap.size tag' (13 + 4 * k) 43 2 lv l1.length (vcell l1) :=
  ⟨_, h.keep (Ch.tagged (B := w.heap.size) hB3 (fun _ => False) tag (13 + 4 * k)), hO3.tagged h.bl.size tag (13 + 4 * k)⟩

theorem ToldS.more {w w4 w5 : World} {n : Nat} {fr : Nat → Fr} {arr : List (List V)} {tag : Nat → Nat} {v av : Value} {LV SV AV : Nat → Value} {k : Nat} (h : ToldS w w4 n fr arr tag v LV SV av AV k) {lv : Value} (hl : Row w4 w.heap.size tag (13 + 4 * k) 43 2 lv (arr.getD k []).length (vcell (arr.getD k []))) {g cap : Nat} (o : Obj)
    (hown : w5.ownsRow w.heap.size 44 1 (.slice (some ⟨g, 0, none⟩) (k + 1) cap) (k + 1) ((List.range (k * 1)).map AV ++ [lv])) (hgrow : (w4.alloc o).grownBy w5 av.ownBlock) (hat : av.ownBlock = some g ∨ g = w4.heap.size + 1) :
    Below w.heap.size w w5 ∧ w5.heap[w.heap.size + 1]? = some (.cells #[v, av] 53 (0, 0)) ∧ ∃ tag', ToldS w (w5.setCell ⟨w.heap.size + 1, 1, none⟩ (.slice (some ⟨g, 0, none⟩) (k + 1) cap)) n fr arr tag' v LV SV (.slice (some ⟨g, 0, none⟩) (k + 1) cap) (upd AV k lv) (k + 1) := by
  have hX : Ch w.heap.size (fun _ => False) tag tag w4 (w4.alloc o) := Ch.of_below ((Below.refl _ _).alloc (Nat.le_refl _) _)
  have h1 := h.keep hX
  obtain ⟨tag', hfo, hch⟩ := h1.ars.add (hl.keep hX (fun h => h)) hown hgrow (by rcases hat with h | h; exact Or.inl h; right; rw [h]; simp)
  obtain ⟨r1, r2⟩ := blk_keep h1.res hch (by rw [h1.t9]; omega)
  obtain ⟨s1, s2⟩ := blk_keep h1.st hch (by rw [h1.t0]; omega)
  have hcs : Ch w.heap.size (fun d => d = 0) tag' tag' w5 (w5.setCell ⟨w.heap.size + 1, 1, none⟩ (.slice (some ⟨g, 0, none⟩) (k + 1) cap)) := Ch.set w5 _ _ _ (by omega) (s2.trans h1.t0)
  obtain ⟨q1, q2⟩ := blk_keep r1 hcs (by rw [r2, h1.t9]; omega)
  refine ⟨h1.bl.trans (hch.below h1.bl.size), s1, tag', (h1.bl.trans (hch.below h1.bl.size)).trans (hcs.below (by have := h1.bl.size; have := hch.size; omega)), q1, ?_, q2.trans (r2.trans h1.t9), s2.trans h1.t0, (h1.out.keep hch (by omega) (fun i _ => ⟨by omega, by omega⟩)).keep hcs (by omega) (fun i _ => ⟨by omega, by omega⟩), hfo.keep hcs (by omega) (fun i _ => by omega)⟩
  exact heap_set (o := 1) s1 _

set_option maxRecDepth 100000 in
set_option maxHeartbeats 2000000 in
theorem stateM (w : World) (B mb : Nat) (A : AdM) (s : Mc) (en : Int) (hL : LayM w B mb A s en) (hfr : s.fr.length ≤ 1000) (har : s.arr.length ≤ 200000) (hls : ∀ i, i < s.fr.length → (frAt s.fr i).loc.length ≤ 200000 ∧ (frAt s.fr i).stk.length ≤ 200000) (hal : ∀ j, j < s.arr.length → (s.arr.getD j []).length ≤ 200000) :
    Calls Tryz.prog 42 #[.pointer (some ⟨mb, 0, none⟩)] w fun e w' => StOut w w' s.fr s.arr e := by
  obtain ⟨inf, hi, hz0, hz1, hz2⟩ : ∃ i, Tryz.prog.info? 73 = some i ∧ i.zero = some (.agg #[.int .i64 0, .int .i64 0, .slice none 0 0, .slice none 0 0]) ∧ i.size = 4 ∧ i.bytes = 64 := by
    obtain ⟨i, hi, hzz⟩ := Option.map_eq_some_iff.1 Tryz.infoFrame
    simp only [Prod.mk.injEq] at hzz
    exact ⟨i, hi, hzz.1, hzz.2.1, hzz.2.2⟩
  obtain ⟨inf2, hi2, hz02, hz12, hz22⟩ : ∃ i, Tryz.prog.info? 44 = some i ∧ i.zero = some (.slice none 0 0) ∧ i.size = 1 ∧ i.bytes = 24 := by
    obtain ⟨i, hi, hzz⟩ := Option.map_eq_some_iff.1 Tryz.infoVals
    simp only [Prod.mk.injEq] at hzz
    exact ⟨i, hi, hzz.1, hzz.2.1, hzz.2.2⟩
  obtain ⟨W, hWd⟩ : ∃ W, W = (w.alloc (.cells #[.slice none 0 0, .slice none 0 0] 53)).alloc (.cells #[.slice none 0 0, .slice none 0 0] 53) := ⟨_, rfl⟩
  have hW : Below w.heap.size w W := by rw [hWd]; exact ((Below.refl _ _).alloc (Nat.le_refl _) _).alloc (by simp) _
  have l1 := hL.below hW
  have hz : W.heap.size = w.heap.size + 2 := by rw [hWd]; simp
  have hlist := listF W mb 3 B A.tag 1 A.fv s.fr.length A.FB ((cell_heap l1.run).trans rfl) l1.fr (by omega)
  have b0 : W.heap[w.heap.size]? = some (.cells #[.slice none 0 0, .slice none 0 0] 53 (0, 0)) := by
    rw [hWd]; exact (Below.heap_alloc _ _ _ (by simp)).trans (Go.Deep.blk_alloc_new _ _)
  have b1 : W.heap[w.heap.size + 1]? = some (.cells #[.slice none 0 0, .slice none 0 0] 53 (0, 0)) := by
    rw [hWd]
    have := Go.Deep.blk_alloc_new (w.alloc (.cells #[.slice none 0 0, .slice none 0 0] 53)) (.cells #[.slice none 0 0, .slice none 0 0] 53)
    simpa using this
  have HL := hid hL
  have HI := hid hlist
  have HW := hid (And.intro hW (And.intro hz (And.intro b0 b1)))
  have hmz := heap_lt hL.run
  have HH := hid (And.intro hfr (And.intro har (And.intro hls hal)))
  have HD := hid hWd
  clear l1 hW hz hlist b0 b1 hL hfr har hls hal hWd
  go_enter Tryz.func42, Tryz.ntmps42
  go_wp2_with fail
  rw [← HD.out]
  refine HI.out.mono ?_
  rintro e w2 ⟨fl, rfl, hB2, hO2⟩
  obtain ⟨fp, fc, hfl, _⟩ := Row.any hO2
  subst hfl
  have ht0 : Told w w2 (.slice fp s.fr.length fc) s.fr A.FB 0 := Told.first HW.out.1 HW.out.2.1 HW.out.2.2.1 HW.out.2.2.2 hB2 hO2
  have HT := hid ht0
  clear ht0 HI hB2 hO2 HW HD
  generalize hnf : s.fr.length = nf at *
  have HN := hid hnf
  clear hnf
  go_wp2_with fail
  go_loopw [13] (fun v wr => ∃ j : Nat, j ≤ nf ∧ v = .int .i64 j ∧ Told w wr (.slice fp nf fc) s.fr A.FB j) (fun v _ => nf - (intOf v).toNat)
  case atStart => exact ⟨0, by omega, rfl, HT.out⟩
  case round =>
    obtain ⟨j, hj, rfl, tag, v, LV, SV, hT⟩ := hrel
    have hBr := hT.bl
    have hS := hT.st
    have hfl := hT.list
    have hfo := hT.out
    have hn1000 : nf ≤ 1000 := HH.out.1
    by_cases hlt : j < nf
    · have hdec : decide ((j : Int) < (nf : Int)) = true := by simp; omega
      rw [HN.out] at hfl
      obtain ⟨flb, flc, efl, _, hflz, _, _⟩ := hfl.form (by omega)
      injection efl with e1 e2 e3
      subst e1 e3
      have hcj := hfl.cell (i := j) (by omega)
      obtain ⟨g1, g2, g3⟩ := HL.out.fb j (by rw [HN.out]; exact hlt)
      have hfz := heap_lt g1
      have g1r := (hBr.block _ hfz).trans g1
      have hlo := (HL.out.loc j (by rw [HN.out]; exact hlt)).below hBr
      have hst := (HL.out.stk j (by rw [HN.out]; exact hlt)).below hBr
      unfold pcell at hcj
      obtain ⟨hl1, hl2⟩ := HH.out.2.2.1 j hlt
      obtain ⟨vp, vc, hv, _⟩ := hfo.row.any
      subst hv
      obtain ⟨lp, lc, hlv, _⟩ := hlo.any
      generalize A.FB j = fb at *
      generalize A.LV j = lv at *
      generalize A.SV j = sv at *
      subst hlv
      have r0 : wr.cell? ⟨fb, 0, none⟩ = some (.int .i64 (frAt s.fr j).fn) := (cell_heap g1r).trans rfl
      have r1 : wr.cell? ⟨fb, 1, none⟩ = some (.int .i64 (frAt s.fr j).pc) := (cell_heap g1r).trans rfl
      have r2 : wr.cell? ⟨fb, 2, none⟩ = some (.slice lp (frAt s.fr j).loc.length lc) := (cell_heap g1r).trans rfl
      have r3 : wr.cell? ⟨fb, 3, none⟩ = some sv := (cell_heap g1r).trans rfl
      have s0 : wr.cell? ⟨w.heap.size + 1, 0, none⟩ = some (.slice vp j vc) := (cell_heap hS).trans rfl
      have i0 : (0 : Int) ≤ (j : Int) := by omega
      have i1 : (j : Int) < (nf : Int) := by omega
      have HX := hid (And.intro hT (And.intro hlo (And.intro hst (And.intro g1r r3))))
      have hwz : w.heap.size + 1 < wr.heap.size := heap_lt hS
      have hfzr : fb < wr.heap.size := by have := hBr.size; omega
      clear hBr hS hT hfl hfo hlo hst g1r g1 g2 g3 r3 HT
      generalize hff : frAt s.fr j = f at *
      have HF := hid hff
      clear hff
      go_wp2_with fail
      refine region_lexZ (fun w' => w'.cell? ⟨w.heap.size + 1, 0, none⟩ = some (.slice vp j vc) ∧ w'.cell? ⟨fb, 0, none⟩ = some (.int .i64 f.fn) ∧ w'.cell? ⟨fb, 1, none⟩ = some (.int .i64 f.pc) ∧ w'.cell? ⟨fb, 2, none⟩ = some (.slice lp f.loc.length lc)) 23 [(false, 0), (false, 1), (false, 2), (false, 3), (false, 4), (false, 5), (false, 6), (false, 7), (false, 8), (false, 9), (false, 10), (false, 11), (false, 12), (false, 13), (false, 15), (false, 16), (false, 17), (true, 14), (true, 18), (false, 19), (true, 20), (true, 21), (false, 22), (true, 23)] (by kernel_rfl) (by kernel_rfl) (fun c0 a0 d0 v0 x0 h0 => panic_body (P := Tryz.prog) Tryz.f42 (fun e w' => StOut w w' s.fr s.arr e) c0 a0 d0 v0 x0 h0) ⟨s0, r0, r1, r2⟩ ?_
      simp only [lexL, List.getElem?_cons_zero, List.getElem?_cons_succ]
      have HS := hid (And.intro s0 (And.intro r0 (And.intro r1 r2)))
      clear s0 r0 r1 r2
      iterate 17 (refine lexZ_free (by rfl) (by intro w' hS'; obtain ⟨q0, q1, q2, q3⟩ := hS'; go_simp; exact rfl) ?_; simp only [Act.put, List.setIfInBounds_toArray, List.set_cons_zero, List.set_cons_succ])
      refine lexZ_sole (fun K hK => ?_)
      go_simp
      refine (cloneV wr.drew B A.tag (11 + 4 * j) _ f.loc (HX.out.2.1.below (Below.refl _ _).drew) hl1).mono ?_
      rintro e w3 ⟨lv3, rfl, hB3, hO3⟩
      obtain ⟨p3, c3, e3, _⟩ := Row.any hO3
      subst e3
      refine hK.out _ _ ⟨(hB3.cell (p := ⟨w.heap.size + 1, 0, none⟩) hwz).trans HS.out.1, (hB3.cell (p := ⟨fb, 0, none⟩) hfzr).trans HS.out.2.1, (hB3.cell (p := ⟨fb, 1, none⟩) hfzr).trans HS.out.2.2.1, (hB3.cell (p := ⟨fb, 2, none⟩) hfzr).trans HS.out.2.2.2⟩ ?_
      clear hK K
      refine lexZ_sole (fun K hK => ?_)
      go_simp
      have hz3 : wr.heap.size ≤ w3.heap.size := hB3.size
      have hwz3 : w.heap.size + 1 < w3.heap.size := by omega
      have hfz3 : fb < w3.heap.size := by omega
      have hst3 := (HX.out.2.2.1.below (Below.refl _ _).drew).below hB3
      have hlr : f.stk.length = f.stk.reverse.length := by simp
      rw [hlr] at hst3
      clear hlr
      refine (listV w3 fb 3 B A.tag (12 + 4 * j) sv f.stk.reverse ((hB3.cell (p := ⟨fb, 3, none⟩) hfzr).trans HX.out.2.2.2.2) hst3 (by rw [List.length_reverse]; exact hl2)).mono ?_
      rintro e w4 ⟨lv4, rfl, hB4, hO4⟩
      obtain ⟨p4, c4, e4, _⟩ := Row.any hO4
      subst e4
      have s4 : w4.cell? ⟨w.heap.size + 1, 0, none⟩ = some (.slice vp j vc) := (hB4.cell (p := ⟨w.heap.size + 1, 0, none⟩) hwz3).trans ((hB3.cell (p := ⟨w.heap.size + 1, 0, none⟩) hwz).trans HS.out.1)
      have u0 : w4.cell? ⟨fb, 0, none⟩ = some (.int .i64 f.fn) := (hB4.cell (p := ⟨fb, 0, none⟩) hfz3).trans ((hB3.cell (p := ⟨fb, 0, none⟩) hfzr).trans HS.out.2.1)
      have u1 : w4.cell? ⟨fb, 1, none⟩ = some (.int .i64 f.pc) := (hB4.cell (p := ⟨fb, 1, none⟩) hfz3).trans ((hB3.cell (p := ⟨fb, 1, none⟩) hfzr).trans HS.out.2.2.1)
      have u2 : w4.cell? ⟨fb, 2, none⟩ = some (.slice lp f.loc.length lc) := (hB4.cell (p := ⟨fb, 2, none⟩) hfz3).trans ((hB3.cell (p := ⟨fb, 2, none⟩) hfzr).trans HS.out.2.2.2)
      have hz4 : w3.heap.size ≤ w4.heap.size := hB4.size
      obtain ⟨tag4, T4, L4, S4⟩ := (HX.out.1.keep (Ch.of_below (Below.refl _ _).drew)).copied hB3 hO3 hB4 hO4
      simp only [List.length_reverse] at S4
      have H4 := hid (And.intro T4 (And.intro L4 S4))
      refine hK.out _ _ ⟨s4, u0, u1, u2⟩ ?_
      have HU := hid (And.intro s4 (And.intro u0 (And.intro u1 u2)))
      clear hK K T4 L4 S4 hst3 hB3 hO3 hB4 hO4 s4 u0 u1 u2 HS
      refine lexZ_free (by rfl) (by intro w' hS'; go_simp; exact rfl) ?_
      simp only [Act.put, List.setIfInBounds_toArray, List.set_cons_zero, List.set_cons_succ]
      refine lexZ_sole (fun K hK => ?_)
      go_simp
      have hwz4 : w.heap.size + 1 < w4.heap.size := by omega
      have hfz4 : fb < w4.heap.size := by omega
      refine hK.out _ _ ⟨alloc_cell HU.out.1 hwz4, alloc_cell HU.out.2.1 hfz4, alloc_cell HU.out.2.2.1 hfz4, alloc_cell HU.out.2.2.2 hfz4⟩ ?_
      clear hK K
      refine lexZ_sole (fun K hK => ?_)
      refine step_append_lies _ (by rfl) _ _ _ (by rfl) w.heap.size 73 inf _ 4 64 Tryz.underlying50 hi hz0 hz1 hz2 rfl (by decide) (.slice vp j vc) j _ (by rfl) (by exact H4.out.1.out.row.owns.alloc _) ⟨w4.heap.size, 0, none⟩ 1 1 [.int .i64 f.fn, .int .i64 f.pc, .slice p3 f.loc.length c3, .slice p4 f.stk.length c4] (by rfl) (by rfl) (by exact World.news_of_block (Go.Deep.blk_alloc_new w4 _)) (by intro u hu; simp at hu; rcases hu with rfl | rfl | rfl | rfl <;> rfl) (by omega) (by unfold maxLen; have := HH.out.1; omega) (by have := HH.out.1; omega) (by simp; omega) (w4.heap.size + 1) (by simp) ?_
      intro g cap w5 hown hgrow hat hlt
      obtain ⟨hb5, st5, tag5, T5⟩ := H4.out.1.more (by rw [HF.out]; exact H4.out.2.1) (by rw [HF.out]; exact H4.out.2.2) _ (by rw [HF.out]; exact hown) hgrow hat
      have q0 : w5.cell? ⟨w.heap.size + 1, 0, none⟩ = some (.slice vp j vc) := (cell_heap st5).trans rfl
      have z0 : w5.frozen? ⟨w.heap.size + 1, 0, none⟩ = false := frozen_heap st5
      have k0 := (hb5.cell (p := ⟨fb, 0, none⟩) hfz).trans ((H4.out.1.bl.cell (p := ⟨fb, 0, none⟩) hfz).symm.trans HU.out.2.1)
      have k1 := (hb5.cell (p := ⟨fb, 1, none⟩) hfz).trans ((H4.out.1.bl.cell (p := ⟨fb, 1, none⟩) hfz).symm.trans HU.out.2.2.1)
      have k2 := (hb5.cell (p := ⟨fb, 2, none⟩) hfz).trans ((H4.out.1.bl.cell (p := ⟨fb, 2, none⟩) hfz).symm.trans HU.out.2.2.2)
      have HT5 := hid T5
      refine hK.out _ _ ⟨q0, k0, k1, k2⟩ ?_
      clear hK K hown hgrow hat T5 hb5 st5 k0 k1 k2
      simp only [Act.put, List.setIfInBounds_toArray, List.set_cons_zero, List.set_cons_succ]
      refine lexZ_free (by rfl) (by intro w' hS'; go_simp; exact rfl) ?_
      simp only [Act.put, List.setIfInBounds_toArray, List.set_cons_zero, List.set_cons_succ]
      refine lexZ_last (fun K hK => ?_)
      go_simp
      refine hK.out _ _ ?_
      clear hK K
      go_wp2
      exact ⟨⟨j + 1, by omega, by go_num, tag5, _, _, _, HT5.out⟩, by simp [intOf]; omega⟩
    · have hdec : decide ((j : Int) < (nf : Int)) = false := by simp; omega
      obtain rfl : j = nf := by omega
      have hT1 : ToldS w wr j (frAt s.fr) s.arr tag v LV SV (.slice none 0 0) (fun _ => .slice none 0 0) 0 := ⟨hBr, hT.res, hS, hT.t9, hT.t0, hfo, Row.nil _ _ _ _ _ _ _, fun j hj => by omega⟩
      have HT1 := hid hT1
      obtain ⟨ap, ac, hav, _⟩ := HL.out.ar.any
      have x4 : wr.cell? ⟨mb, 4, none⟩ = some (.slice ap s.arr.length ac) := by
        rw [← hav]
        exact (hBr.cell (p := ⟨mb, 4, none⟩) hmz).trans ((cell_heap HL.out.run).trans rfl)
      have HAV := hid hav
      have HFN := hid (show j ≤ 1000 from hn1000)
      clear hT1 hT hBr hS hfl hfo HT hav hn1000
      obtain ⟨vp, vc, hv, _⟩ := HT1.out.out.row.any
      subst hv
      generalize hna : s.arr.length = na at *
      have HNA := hid hna
      have hnal : na ≤ 200000 := HH.out.2.1
      clear hna
      go_wp2_with fail
      go_loopw [46] (fun v wr => ∃ i : Nat, i ≤ na ∧ v = .int .i64 i ∧ ∃ tag av AV, ToldS w wr j (frAt s.fr) s.arr tag (.slice vp j vc) LV SV av AV i) (fun v _ => na - (intOf v).toNat)
      case atStart => exact ⟨0, by omega, rfl, _, _, _, HT1.out⟩
      case round =>
        obtain ⟨i, hi1, rfl, tg, av, AV, hT⟩ := hrel
        have hBr := hT.bl
        have hS := hT.st
        by_cases hlt2 : i < na
        · have hdec2 : decide ((i : Int) < (na : Int)) = true := by simp; omega
          have har := HL.out.ar
          rw [HNA.out, HAV.out] at har
          obtain ⟨ab, ac', ear, _, habz, _, _⟩ := har.form (by omega)
          injection ear with e1 e2 e3
          subst e1 e3
          have hci := (hBr.cell (p := ⟨ab, i, none⟩) habz).trans (har.cell (i := i) (by omega))
          have hai := (HL.out.arr i (by rw [HNA.out]; exact hlt2)).below hBr
          have hl1 := HH.out.2.2.2 i hlt2
          obtain ⟨vp2, vc2, hv2, _⟩ := hT.ars.row.any
          subst hv2
          obtain ⟨lp, lc, hlv, _⟩ := hai.any
          generalize A.AV i = lv at *
          subst hlv
          have s0 : wr.cell? ⟨w.heap.size + 1, 1, none⟩ = some (.slice vp2 i vc2) := (cell_heap hS).trans rfl
          have i0 : (0 : Int) ≤ (i : Int) := by omega
          have i1 : (i : Int) < (na : Int) := by omega
          have HX := hid (And.intro hT hai)
          have hwz : w.heap.size + 1 < wr.heap.size := heap_lt hS
          clear hBr hS hT hai har HT1
          generalize hff : s.arr.getD i [] = l at *
          have HF := hid hff
          clear hff
          go_wp2_with fail
          refine region_lexZ (fun w' => w'.cell? ⟨w.heap.size + 1, 1, none⟩ = some (.slice vp2 i vc2)) 7 [(false, 0), (false, 1), (false, 2), (true, 3), (true, 4), (true, 5), (false, 6), (true, 7)] (by kernel_rfl) (by kernel_rfl) (fun c0 a0 d0 v0 x0 h0 => panic_body (P := Tryz.prog) Tryz.f42 (fun e w' => StOut w w' s.fr s.arr e) c0 a0 d0 v0 x0 h0) s0 ?_
          simp only [lexL, List.getElem?_cons_zero, List.getElem?_cons_succ]
          have HS := hid s0
          clear s0
          iterate 3 (refine lexZ_free (by rfl) (by intro w' hS'; go_simp; exact rfl) ?_; simp only [Act.put, List.setIfInBounds_toArray, List.set_cons_zero, List.set_cons_succ])
          refine lexZ_sole (fun K hK => ?_)
          go_simp
          refine (cloneV wr.drew B A.tag (13 + 4 * i) _ l (HX.out.2.below (Below.refl _ _).drew) hl1).mono ?_
          rintro e w3 ⟨lv3, rfl, hB3, hO3⟩
          obtain ⟨p3, c3, e3, _⟩ := Row.any hO3
          subst e3
          have s3 := (hB3.cell (p := ⟨w.heap.size + 1, 1, none⟩) hwz).trans HS.out
          have hz3 : wr.heap.size ≤ w3.heap.size := hB3.size
          obtain ⟨tag3, T3, L3⟩ := (HX.out.1.keep (Ch.of_below (Below.refl _ _).drew)).copied hB3 hO3
          have H3 := hid (And.intro T3 L3)
          refine hK.out _ _ s3 ?_
          have HU := hid s3
          clear hK K T3 L3 hB3 hO3 s3 HS
          have hwz3 : w.heap.size + 1 < w3.heap.size := by omega
          refine lexZ_sole (fun K hK => ?_)
          go_simp
          refine hK.out _ _ (alloc_cell HU.out hwz3) ?_
          clear hK K
          refine lexZ_sole (fun K hK => ?_)
          refine step_append_lies _ (by rfl) _ _ _ (by rfl) w.heap.size 44 inf2 _ 1 24 Tryz.underlying51 hi2 hz02 hz12 hz22 rfl (by decide) (.slice vp2 i vc2) i _ (by rfl) (by exact H3.out.1.ars.row.owns.alloc _) ⟨w3.heap.size, 0, none⟩ 1 1 [.slice p3 l.length c3] (by rfl) (by rfl) (by exact World.news_of_block (Go.Deep.blk_alloc_new w3 _)) (by intro u hu; simp at hu; subst hu; rfl) (by omega) (by unfold maxLen; omega) (by omega) (by simp; omega) (w3.heap.size + 1) (by simp) ?_
          intro g cap w5 hown hgrow hat hlt
          obtain ⟨hb5, st5, tag5, T5⟩ := H3.out.1.more (by rw [HF.out]; exact H3.out.2) _ hown hgrow hat
          have q0 : w5.cell? ⟨w.heap.size + 1, 1, none⟩ = some (.slice vp2 i vc2) := (cell_heap st5).trans rfl
          have z0 : w5.frozen? ⟨w.heap.size + 1, 1, none⟩ = false := frozen_heap st5
          have HT5 := hid T5
          refine hK.out _ _ q0 ?_
          clear hK K hown hgrow hat T5 hb5 st5
          simp only [Act.put, List.setIfInBounds_toArray, List.set_cons_zero, List.set_cons_succ]
          refine lexZ_free (by rfl) (by intro w' hS'; go_simp; exact rfl) ?_
          simp only [Act.put, List.setIfInBounds_toArray, List.set_cons_zero, List.set_cons_succ]
          refine lexZ_last (fun K hK => ?_)
          go_simp
          refine hK.out _ _ ?_
          clear hK K
          go_wp2
          exact ⟨⟨i + 1, by omega, by go_num, tag5, _, _, HT5.out⟩, by simp [intOf]; omega⟩
        · have hdec2 : decide ((i : Int) < (na : Int)) = false := by simp; omega
          obtain rfl : i = na := by omega
          obtain ⟨vp2, vc2, hv2, _⟩ := hT.ars.row.any
          subst hv2
          have hR := hT.res
          have y0 : wr.cell? ⟨w.heap.size + 1, 0, none⟩ = some (.slice vp j vc) := (cell_heap hS).trans rfl
          have y1 : wr.cell? ⟨w.heap.size + 1, 1, none⟩ = some (.slice vp2 i vc2) := (cell_heap hS).trans rfl
          have x0 : wr.cell? ⟨w.heap.size, 0, none⟩ = some (.slice none 0 0) := (cell_heap hR).trans rfl
          have x1 : wr.cell? ⟨w.heap.size, 1, none⟩ = some (.slice none 0 0) := (cell_heap hR).trans rfl
          have z0 : wr.frozen? ⟨w.heap.size, 0, none⟩ = false := frozen_heap hR
          have z1 : wr.frozen? ⟨w.heap.size, 1, none⟩ = false := frozen_heap hR
          have hcs : Ch w.heap.size (fun d => d = 9) tg tg wr ((wr.setCell ⟨w.heap.size, 0, none⟩ (.slice vp j vc)).setCell ⟨w.heap.size, 1, none⟩ (.slice vp2 i vc2)) := (Ch.set wr _ _ _ (Nat.le_refl _) hT.t9).trans (Ch.set _ _ _ _ (Nat.le_refl _) hT.t9)
          have g0 := heap_set (o := 1) (heap_set (o := 0) hR (.slice vp j vc)) (.slice vp2 i vc2)
          have hfin : StOut w ((wr.setCell ⟨w.heap.size, 0, none⟩ (.slice vp j vc)).setCell ⟨w.heap.size, 1, none⟩ (.slice vp2 i vc2)) s.fr s.arr (.returned (.agg #[.slice vp j vc, .slice vp2 i vc2])) := by
            refine ⟨_, _, LV, SV, AV, tg, rfl, hBr.trans (hcs.below hBr.size), ?_, ?_⟩
            · rw [HN.out]
              exact hT.out.keep hcs (by omega) (fun i _ => ⟨by omega, by omega⟩)
            · rw [HNA.out]
              exact hT.ars.keep hcs (by omega) (fun i _ => by omega)
          have HQ := hid (And.intro g0 hfin)
          clear hT hBr hS hR hcs g0 hfin HT1 x4
          go_wp2
          obtain ⟨g0, hfin⟩ := HQ.out
          generalize (wr.setCell ⟨w.heap.size, 0, none⟩ (.slice vp j vc)).setCell ⟨w.heap.size, 1, none⟩ (.slice vp2 i vc2) = V at *
          have v0 : V.cell? ⟨w.heap.size, 0, none⟩ = some (.slice vp j vc) := (cell_heap g0).trans rfl
          have v1 : V.cell? ⟨w.heap.size, 1, none⟩ = some (.slice vp2 i vc2) := (cell_heap g0).trans rfl
          exact bodyPost_ret (v := .agg #[.slice vp j vc, .slice vp2 i vc2]) (by simp [results, Tryz.results42, go_sem, v0, v1]) rfl hfin
end Go.Proofs.YtkafkipjedpohaaGreatDoor
