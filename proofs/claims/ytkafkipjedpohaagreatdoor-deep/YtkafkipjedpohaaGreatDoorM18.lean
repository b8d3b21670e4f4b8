import Derived.Test.YtkafkipjedpohaaGreatDoorM17

/-
  The project's machine: giveBack.
-/
namespace Go.Proofs.YtkafkipjedpohaaGreatDoor
open Go.RowKit

theorem hiAt_drop {l : List Bool} {n : Nat} (h : l.length = n + 1) (i : Nat) (hi : i < n) : hiAt (l.drop 1) i = hiAt l i := by
  cases l with
  | nil => simp at h
  | cons b r => exact (hiAt_rest b r i (by simp at h; omega)).symm

/-- The frame at hand is gone. -/
theorem LayM.popped {w : World} {B mb : Nat} {A : AdM} {s : Mc} {en : Int} {f : Fr} {rest : List Fr} (h : LayM w B mb A s en) (hs : s.fr = f :: rest) {gb cap : Nat} (hfv : A.fv = .slice (some ⟨gb, 0, none⟩) (rest.length + 1) cap) :
    LayM (w.setCell ⟨mb, 3, none⟩ (.slice (some ⟨gb, 0, none⟩) rest.length cap)) B mb { A with fv := .slice (some ⟨gb, 0, none⟩) rest.length cap } { s with fr := rest } en ∧ Ch B (fun d => d = 0) A.tag A.tag w (w.setCell ⟨mb, 3, none⟩ (.slice (some ⟨gb, 0, none⟩) rest.length cap)) := by
  have hlen : s.fr.length = rest.length + 1 := by rw [hs]; rfl
  have hc : Ch B (fun d => d = 0) A.tag A.tag w (w.setCell ⟨mb, 3, none⟩ (.slice (some ⟨gb, 0, none⟩) rest.length cap)) := Ch.set w _ _ _ h.own.1 h.own.2
  have hfr := h.fr
  rw [hlen, hfv] at hfr
  have hot : ∀ i, i < rest.length → frAt rest i = frAt s.fr i := fun i hi => by rw [hs, frAt_rest _ _ _ hi]
  refine ⟨⟨heap_set h.run _, ⟨h.own.1, h.own.2⟩, (hfr.take rest.length (by omega)).keep hc (by omega), fun i hi => ?_, h.ar.keep hc (by omega), h.out.keep hc (by omega), fun i hi => ?_, fun i hi => ?_, fun j hj => (h.arr j hj).keep hc (by omega)⟩, hc⟩
  · have hi' : i < rest.length := hi
    obtain ⟨g1, g2, g3⟩ := h.fb i (by omega)
    obtain ⟨g4, g5⟩ := blk_keep g1 hc (by rw [g3]; omega)
    refine ⟨?_, g2, g5.trans g3⟩
    show _ = some (Obj.cells (frcells (frAt rest i) _ _ _) _ _)
    rw [hot i hi']
    exact g4
  · have hi' : i < rest.length := hi
    show Row _ B A.tag _ _ 2 _ (frAt rest i).loc.length (vcell (frAt rest i).loc)
    rw [hot i hi']
    exact (h.loc i (by omega)).keep hc (by omega)
  · have hi' : i < rest.length := hi
    show Row _ B A.tag _ _ 2 _ (frAt rest i).stk.length (vcell (frAt rest i).stk.reverse)
    rw [hot i hi']
    exact (h.stk i (by omega)).keep hc (by omega)

/-- What the run gives. -/
theorem LayM.gave_ {w : World} {B mb : Nat} {A : AdM} {s : Mc} {en : Int} (h : LayM w B mb A s en) (v : V) :
    LayM ((w.setCell ⟨mb, 12, none⟩ (.int .i64 v.k)).setCell ⟨mb, 13, none⟩ (.int .i64 v.n)) B mb A { s with gives := v } en ∧ Ch B (fun d => d = 0) A.tag A.tag w ((w.setCell ⟨mb, 12, none⟩ (.int .i64 v.k)).setCell ⟨mb, 13, none⟩ (.int .i64 v.n)) := by
  have hc : Ch B (fun d => d = 0) A.tag A.tag w ((w.setCell ⟨mb, 12, none⟩ (.int .i64 v.k)).setCell ⟨mb, 13, none⟩ (.int .i64 v.n)) := (Ch.set w _ _ _ h.own.1 h.own.2).trans (Ch.set _ _ _ _ h.own.1 h.own.2)
  refine ⟨⟨heap_set (heap_set h.run _) _, h.own, h.fr.keep hc (by omega), fun i hi => ?_, h.ar.keep hc (by omega), h.out.keep hc (by omega), fun i hi => (h.loc i hi).keep hc (by omega), fun i hi => (h.stk i hi).keep hc (by omega), fun j hj => (h.arr j hj).keep hc (by omega)⟩, hc⟩
  obtain ⟨g1, g2, g3⟩ := h.fb i hi
  obtain ⟨g4, g5⟩ := blk_keep g1 hc (by rw [g3]; omega)
  exact ⟨g4, g2, g5.trans g3⟩

set_option maxRecDepth 100000 in
set_option maxHeartbeats 1000000 in
theorem giveBackEnd (w : World) (B mb m : Nat) (F : Nat → PF) (MV : Nat → Value) (A : AdM) (s : Mc) (en : Int) (f : Fr) (v : V) (hM : MSt w B mb m F MV A s en) (hs : s.fr = [f]) :
    Calls Tryz.prog 131 #[.pointer (some ⟨mb, 0, none⟩), .agg #[.int .i64 v.k, .int .i64 v.n]] w fun e w' => e = .returned (.tuple #[]) ∧
      Goes w B mb m F MV 1 A { s with fr := [], high := s.high.drop 1, gives := v } en w' ∧ w'.cell? ⟨A.FB 0, 4, none⟩ = w.cell? ⟨A.FB 0, 4, none⟩ := by
  have hbl : Below w.heap.size w (w.alloc (.cells #[.int .i64 v.k, .int .i64 v.n] 43)) := (Below.refl _ _).alloc (Nat.le_refl _) _
  have b0 : (w.alloc (.cells #[.int .i64 v.k, .int .i64 v.n] 43)).heap[w.heap.size]? = some (.cells #[.int .i64 v.k, .int .i64 v.n] 43 (0, 0)) := Go.Deep.blk_alloc_new _ _
  have hlen : s.fr.length = 0 + 1 := by rw [hs]; rfl
  obtain ⟨e1, e2, e3⟩ := hM.lay.fb (0) (by omega)
  have hfz := heap_lt e1
  have hcf : (w.alloc (.cells #[.int .i64 v.k, .int .i64 v.n] 43)).cell? ⟨A.FB 0, 4, none⟩ = w.cell? ⟨A.FB 0, 4, none⟩ := hbl.cell hfz
  obtain ⟨A3, l3, p3, t3, c3, tf⟩ : ∃ A3 : AdM, LayM (w.alloc (.cells #[.int .i64 v.k, .int .i64 v.n] 43)) B mb A3 s en ∧ A3.g = A.g ∧ A3.tag w.heap.size = 5 ∧ Ch B N5 A.tag A3.tag w (w.alloc (.cells #[.int .i64 v.k, .int .i64 v.n] 43)) ∧ A3.tag (A.FB 0) = 10 :=
    ⟨_, hM.lay.box _, rfl, upd_same _ _ _, Ch.of_tags hbl (fun b hb => upd_other _ _ _ _ (by omega)), by show upd A.tag w.heap.size 5 _ = _; rw [upd_other _ _ _ _ (by omega)]; simpa using e3⟩
  have HM := hid (And.intro l3 (And.intro p3 (And.intro t3 (And.intro c3 (And.intro b0 (And.intro hcf (And.intro tf hM)))))))
  generalize A.FB 0 = fb at *
  clear l3 p3 t3 c3 b0 hM hbl hcf tf e1 e2 e3
  go_enter Tryz.func131, Tryz.ntmps131
  go_wp2_with fail
  obtain ⟨l3, p3, t3, c3, bb, hcf, tf, hM⟩ := HM.out
  have b0 : (w.alloc (.cells #[.int .i64 v.k, .int .i64 v.n] 43)).cell? ⟨w.heap.size, 0, none⟩ = some (.int .i64 v.k) := (cell_heap bb).trans rfl
  have b1 : (w.alloc (.cells #[.int .i64 v.k, .int .i64 v.n] 43)).cell? ⟨w.heap.size, 1, none⟩ = some (.int .i64 v.n) := (cell_heap bb).trans rfl
  clear bb
  clear HM
  generalize w.alloc (.cells #[.int .i64 v.k, .int .i64 v.n] 43) = W at *
  generalize hbx : w.heap.size = bx at *
  have l4r := l3.fr
  rw [hlen] at l4r
  obtain ⟨gb, gcap, hgv, hgB, hgz, hgt, hgc⟩ := l4r.form (by omega)
  rw [hgv] at l4r
  have x1 : W.cell? ⟨mb, 3, none⟩ = some (.slice (some ⟨gb, 0, none⟩) (0 + 1) gcap) := by rw [cell_heap l3.run, ← hgv]; rfl
  have z1 : W.frozen? ⟨mb, 3, none⟩ = false := frozen_heap l3.run
  have q1 : W.cell? ⟨gb, 0, none⟩ = some (pcell A3.FB 0) := l4r.cell (i := 0) (by show 0 < (0 + 1) * 1; omega)
  obtain ⟨l4, c4⟩ := l3.popped (rest := []) hs hgv
  obtain ⟨l5, c5⟩ := l4.gave_ v
  have hmt := l3.own.2
  have hmz := heap_lt l3.run
  have hne : ¬ bx = mb := by intro e; rw [e, hmt] at t3; omega
  have y7 : W.cell? ⟨mb, 12, none⟩ = some (.int .i64 s.gives.k) := by rw [cell_heap l3.run]; rfl
  have y8 : W.cell? ⟨mb, 13, none⟩ = some (.int .i64 s.gives.n) := by rw [cell_heap l3.run]; rfl
  have z7 : W.frozen? ⟨mb, 12, none⟩ = false := frozen_heap l3.run
  have z8 : W.frozen? ⟨mb, 13, none⟩ = false := frozen_heap l3.run
  have hpopf := popF W mb 3 0 gb gcap _ x1 z1 q1 (by omega) hgc
  have HPF := hid hpopf
  have hcc : Ch B N5 A.tag A3.tag w (((W.setCell ⟨mb, 3, none⟩ (.slice (some ⟨gb, 0, none⟩) 0 gcap)).setCell ⟨mb, 12, none⟩ (.int .i64 v.k)).setCell ⟨mb, 13, none⟩ (.int .i64 v.n)) := c3.trans ((c4.mono (q := N5) (fun d hd => by unfold N5; omega)).trans (c5.mono (q := N5) (fun d hd => by unfold N5; omega)))
  have hfbz : fb < W.heap.size := by have := c3.size; omega
  have hend : (((W.setCell ⟨mb, 3, none⟩ (.slice (some ⟨gb, 0, none⟩) 0 gcap)).setCell ⟨mb, 12, none⟩ (.int .i64 v.k)).setCell ⟨mb, 13, none⟩ (.int .i64 v.n)).cell? ⟨fb, 4, none⟩ = w.cell? ⟨fb, 4, none⟩ :=
    ((c4.trans c5).cell (a := ⟨fb, 4, none⟩) hfbz (by rw [tf]; omega)).trans hcf
  have HQ := hid (And.intro (show Goes w B mb m F MV 1 A { s with fr := [], high := s.high.drop 1, gives := v } en (((W.setCell ⟨mb, 3, none⟩ (.slice (some ⟨gb, 0, none⟩) 0 gcap)).setCell ⟨mb, 12, none⟩ (.int .i64 v.k)).setCell ⟨mb, 13, none⟩ (.int .i64 v.n)) from ⟨_, hM.ch (s' := { s with fr := [], high := s.high.drop 1, gives := v }) (l5.like rfl rfl rfl rfl rfl) (by have := hM.hl; show (s.high.drop 1).length = 0; rw [List.length_drop]; omega) (fun i hi => absurd hi (by simp)) (by show A3.g.hi = _ ∧ A3.g.up = _ ∧ A3.g.dn = _; rw [p3]; exact hM.cnt) rfl (SameG.of p3) hcc, SameG.of p3, hcc, fun i _ _ => fb_of (A' := A3) p3 i, fun i hi => absurd hi (by simp)⟩) hend)
  have hlf : Hid (∀ X : World, X.cell? ⟨mb, 3, none⟩ = some (.slice (some ⟨gb, 0, none⟩) 0 gcap) → Calls Tryz.prog 92 #[.pointer (some ⟨mb, 3, none⟩)] X fun e w' => e = .returned (.int .i64 (0 : Nat)) ∧ w' = X) := fun X hX => lenF X mb 3 0 gcap _ hX
  have hs1 : Hid ((W.setCell ⟨mb, 3, none⟩ (.slice (some ⟨gb, 0, none⟩) 0 gcap)).cell? ⟨mb, 3, none⟩ = some (.slice (some ⟨gb, 0, none⟩) 0 gcap)) := by
    unfold Hid
    rw [cell_heap (heap_set l3.run _)]
    rfl
  clear hpopf l3 l4 l5 c3 c4 c5 l4r hgv hcc hmt p3 x1 z1 q1 hend hcf tf hM
  refine HPF.out.mono ?_
  rintro e w6 ⟨rfl, hw6⟩
  rw [hw6]
  clear hw6 w6 HPF
  go_wp2_with fail
  refine (hlf.out _ hs1.out).mono ?_
  rintro e w6 ⟨rfl, hw6⟩
  rw [hw6]
  clear hw6 w6
  go_wp2
  refine bodyPost_ret (results_none rfl _ _ _) rfl ?_
  exact ⟨rfl, HQ.out⟩

set_option maxRecDepth 100000 in
set_option maxHeartbeats 1000000 in
theorem giveBackMid (w : World) (B mb m : Nat) (F : Nat → PF) (MV : Nat → Value) (A : AdM) (s : Mc) (en : Int) (f g : Fr) (r : List Fr) (v : V) (hM : MSt w B mb m F MV A s en) (hs : s.fr = f :: g :: r) (hg : g.stk.length ≤ 60) (hr : r.length ≤ 60) :
    Calls Tryz.prog 131 #[.pointer (some ⟨mb, 0, none⟩), .agg #[.int .i64 v.k, .int .i64 v.n]] w fun e w' => e = .returned (.tuple #[]) ∧
      Goes w B mb m F MV (r.length + 2) A { s with fr := { g with stk := v :: g.stk } :: r, high := s.high.drop 1 } en w' ∧ w'.cell? ⟨A.FB (r.length + 1), 4, none⟩ = w.cell? ⟨A.FB (r.length + 1), 4, none⟩ := by
  have hbl : Below w.heap.size w (w.alloc (.cells #[.int .i64 v.k, .int .i64 v.n] 43)) := (Below.refl _ _).alloc (Nat.le_refl _) _
  have b0 : (w.alloc (.cells #[.int .i64 v.k, .int .i64 v.n] 43)).heap[w.heap.size]? = some (.cells #[.int .i64 v.k, .int .i64 v.n] 43 (0, 0)) := Go.Deep.blk_alloc_new _ _
  have hlen : s.fr.length = r.length + 1 + 1 := by rw [hs]; rfl
  obtain ⟨e1, e2, e3⟩ := hM.lay.fb (r.length + 1) (by omega)
  have hfz := heap_lt e1
  have hcf : (w.alloc (.cells #[.int .i64 v.k, .int .i64 v.n] 43)).cell? ⟨A.FB (r.length + 1), 4, none⟩ = w.cell? ⟨A.FB (r.length + 1), 4, none⟩ := hbl.cell hfz
  obtain ⟨A3, l3, p3, t3, c3, tf⟩ : ∃ A3 : AdM, LayM (w.alloc (.cells #[.int .i64 v.k, .int .i64 v.n] 43)) B mb A3 s en ∧ A3.g = A.g ∧ A3.tag w.heap.size = 5 ∧ Ch B N5 A.tag A3.tag w (w.alloc (.cells #[.int .i64 v.k, .int .i64 v.n] 43)) ∧ A3.tag (A.FB (r.length + 1)) = 10 + 4 * (r.length + 1) :=
    ⟨_, hM.lay.box _, rfl, upd_same _ _ _, Ch.of_tags hbl (fun b hb => upd_other _ _ _ _ (by omega)), by show upd A.tag w.heap.size 5 _ = _; rw [upd_other _ _ _ _ (by omega)]; simpa using e3⟩
  have HM := hid (And.intro l3 (And.intro p3 (And.intro t3 (And.intro c3 (And.intro b0 (And.intro hcf (And.intro tf hM)))))))
  generalize A.FB (r.length + 1) = fb at *
  clear l3 p3 t3 c3 b0 hM hbl hcf tf e1 e2 e3
  go_enter Tryz.func131, Tryz.ntmps131
  go_wp2_with fail
  obtain ⟨l3, p3, t3, c3, b0, hcf, tf, hM⟩ := HM.out
  clear HM
  generalize w.alloc (.cells #[.int .i64 v.k, .int .i64 v.n] 43) = W at *
  generalize hbx : w.heap.size = bx at *
  have l4r := l3.fr
  rw [hlen] at l4r
  obtain ⟨gb, gcap, hgv, hgB, hgz, hgt, hgc⟩ := l4r.form (by omega)
  rw [hgv] at l4r
  have x1 : W.cell? ⟨mb, 3, none⟩ = some (.slice (some ⟨gb, 0, none⟩) (r.length + 1 + 1) gcap) := by rw [cell_heap l3.run, ← hgv]; rfl
  have z1 : W.frozen? ⟨mb, 3, none⟩ = false := frozen_heap l3.run
  have q1 : W.cell? ⟨gb, r.length + 1, none⟩ = some (pcell A3.FB (r.length + 1)) := l4r.cell (i := r.length + 1) (by show r.length + 1 < (r.length + 1 + 1) * 1; omega)
  have q0 : W.cell? ⟨gb, r.length, none⟩ = some (pcell A3.FB r.length) := l4r.cell (i := r.length) (by show r.length < (r.length + 1 + 1) * 1; omega)
  obtain ⟨l4, c4⟩ := l3.popped hs hgv
  have hmt := l3.own.2
  have hmz := heap_lt l3.run
  have hpopf := popF W mb 3 (r.length + 1) gb gcap _ x1 z1 q1 (by omega) hgc
  have HPF := hid hpopf
  have hbxz := heap_lt b0
  obtain ⟨b5, _⟩ := blk_keep b0 c4 (by rw [t3]; omega)
  have q5 : (W.setCell ⟨mb, 3, none⟩ (.slice (some ⟨gb, 0, none⟩) (r.length + 1) gcap)).cell? ⟨gb, r.length, none⟩ = some (pcell A3.FB r.length) := (c4.cell (a := ⟨gb, r.length, none⟩) hgz (by rw [hgt]; omega)).trans q0
  have x5 : (W.setCell ⟨mb, 3, none⟩ (.slice (some ⟨gb, 0, none⟩) (r.length + 1) gcap)).cell? ⟨mb, 3, none⟩ = some (.slice (some ⟨gb, 0, none⟩) (r.length + 1) gcap) := by rw [cell_heap (heap_set l3.run _)]; rfl
  have hfbz : fb < W.heap.size := by have := c3.size; omega
  have f5 : (W.setCell ⟨mb, 3, none⟩ (.slice (some ⟨gb, 0, none⟩) (r.length + 1) gcap)).cell? ⟨fb, 4, none⟩ = w.cell? ⟨fb, 4, none⟩ := (c4.cell (a := ⟨fb, 4, none⟩) hfbz (by rw [tf]; omega)).trans hcf
  have hfb5 : fb < (W.setCell ⟨mb, 3, none⟩ (.slice (some ⟨gb, 0, none⟩) (r.length + 1) gcap)).heap.size := by simp [World.setCell]; omega
  have c5 : Ch B N5 A.tag A3.tag w (W.setCell ⟨mb, 3, none⟩ (.slice (some ⟨gb, 0, none⟩) (r.length + 1) gcap)) := c3.trans (c4.mono (q := N5) (fun d hd => by unfold N5; omega))
  clear hpopf l3 c3 c4 l4r hgv hcf x1 z1 q1 q0 b0
  refine HPF.out.mono ?_
  rintro e w6 ⟨rfl, hw6⟩
  rw [hw6]
  clear hw6 w6 HPF
  generalize W.setCell ⟨mb, 3, none⟩ (.slice (some ⟨gb, 0, none⟩) (r.length + 1) gcap) = X at *
  have HX := hid (And.intro l4 (And.intro c5 (And.intro p3 (And.intro b5 (And.intro f5 (And.intro tf (And.intro hM t3)))))))
  have HQ5 := hid (And.intro q5 x5)
  have hrn : ((r.length + 1 : Nat) : Int) = (r.length : Int) + 1 := by omega
  clear l4 c5 p3 b5 f5 tf hM t3 q5
  go_wp2_with fail
  refine (lenF X mb 3 (r.length + 1) gcap _ x5).mono ?_
  rintro e w6 ⟨rfl, hw6⟩
  rw [hw6]
  clear hw6 w6 x5
  have hz0 : (((r.length + 1 : Nat) : Int) == 0) = false := by simp; omega
  generalize hrl : r.length + 1 = rl at *
  have HRL := hid hrl
  clear hrl hrn
  go_wp2_with fail
  have hS0 : Hb [(bx, #[Value.int .i64 v.k, Value.int .i64 v.n], 43)] X.drew := fun t ht => by
    obtain rfl : t = (bx, #[Value.int .i64 v.k, Value.int .i64 v.n], 43) := by simpa using ht
    exact HX.out.2.2.2.1
  have S0 := hid hS0
  refine region_lex (Hb [(bx, #[Value.int .i64 v.k, Value.int .i64 v.n], 43)]) [(false, 0), (false, 1), (false, 2), (false, 6), (true, 3), (true, 4), (true, 5), (true, 7)] (by kernel_rfl) (by kernel_rfl) (panic_body _ _) hS0 ?_
  clear hS0
  simp only [lexL, List.getElem?_cons_zero, List.getElem?_cons_succ]
  iterate 4 (refine lexW_free (by rfl) (by intro w' hS'; obtain ⟨y0, y1, _, _⟩ := hS'.two List.mem_cons_self; clear hS'; go_simp; exact rfl) ?_; simp only [Act.put, List.setIfInBounds_toArray, List.set_cons_zero, List.set_cons_succ])
  refine lexW_sole (fun K hK => ?_)
  go_simp
  have htop := topF X.drew mb 3 r.length gb gcap (pcell A3.FB r.length) (by rw [HRL.out]; exact HQ5.out.2) HQ5.out.1 (by omega)
  refine htop.mono ?_
  rintro e w6 ⟨rfl, k6, hw6⟩
  have hB6 : Below X.heap.size X w6 := by rw [hw6]; exact below_drewN (Below.refl _ _).drew _
  have HB6 := hid hB6
  have S6 := hid (show Hb [(bx, #[Value.int .i64 v.k, Value.int .i64 v.n], 43)] w6 from (show Hb [(bx, #[Value.int .i64 v.k, Value.int .i64 v.n], 43)] X from S0.out).below hB6)
  refine hK.out _ _ S6.out ?_
  clear hK K htop hw6 hB6
  unfold pcell
  refine lexW_sole (fun K hK => ?_)
  go_simp
  refine hK.out _ _ S6.out ?_
  clear hK K
  refine lexW_sole (fun K hK => ?_)
  go_simp
  refine hK.out _ _ S6.out ?_
  clear hK K
  refine lexW_sole (fun K hK => ?_)
  go_simp
  have hpush := pushX (fbk := A3.FB r.length) HX.out.1 rfl (by have := HX.out.2.1.size; have := HX.out.2.2.2.2.2.2.1.le; omega) (by omega) rfl v w6 HB6.out
  refine hpush.mono ?_
  rintro e w7 ⟨rfl, A7, l7, p7, c7⟩
  have tb7 := HX.out.2.2.2.2.2.2.2
  have hbx7 := heap_lt HX.out.2.2.2.1
  have b7 : w7.heap[bx]? = some (.cells #[.int .i64 v.k, .int .i64 v.n] 43 (0, 0)) := (c7.block bx hbx7 (Or.inr (by rw [tb7]; exact tk5 _))).trans HX.out.2.2.2.1
  have f7 : w7.cell? ⟨fb, 4, none⟩ = w.cell? ⟨fb, 4, none⟩ := (c7.cell (a := ⟨fb, 4, none⟩) hfb5 (by show ¬ Tk r.length (A3.tag fb); rw [HX.out.2.2.2.2.2.1]; have := HRL.out; unfold Tk; omega)).trans HX.out.2.2.2.2.1
  have hcN : Ch B N5 A.tag A7.tag w w7 := HX.out.2.1.trans (c7.mono (fun _ => tk_n5))
  have hgG : A7.g = A.g := p7.trans HX.out.2.2.1
  have hM0 := HX.out.2.2.2.2.2.2.1
  have hhl := hM0.hl
  have hrl2 := HRL.out
  have hMf := hM0.ch (s' := { s with fr := { g with stk := v :: g.stk } :: r, high := s.high.drop 1 }) (l7.like rfl rfl rfl rfl rfl) (by show (s.high.drop 1).length = r.length + 1; rw [List.length_drop]; omega) (fun i hi => by
    have hi' : i < r.length + 1 := hi
    show CodeV (A7.g.CV i) (hiAt (s.high.drop 1) i)
    rw [hgG, hiAt_drop (n := r.length + 1) (by omega) i hi']
    exact hM0.cod i (by omega)) (by show A7.g.hi = _ ∧ A7.g.up = _ ∧ A7.g.dn = _; rw [hgG]; exact hM0.cnt) rfl (SameG.of hgG) hcN
  have HQ := hid (And.intro (show Goes w B mb m F MV (r.length + 2) A { s with fr := { g with stk := v :: g.stk } :: r, high := s.high.drop 1 } en w7 from ⟨A7, hMf, SameG.of hgG, hcN, fun i _ _ => fb_of hgG i, fun i hi => ⟨fun _ => by rw [hgG], fun h => absurd (show i < r.length + 1 from hi) (by omega)⟩⟩) f7)
  refine hK.out _ _ (fun t ht => by
    obtain rfl : t = (bx, #[Value.int .i64 v.k, Value.int .i64 v.n], 43) := by simpa using ht
    exact b7) ?_
  clear hK K hpush l7 p7 c7 b7 f7 hcN hgG hMf hM0 hhl hrl2
  refine lexW_done ?_
  go_wp2
  go_end0
  exact ⟨rfl, HQ.out⟩
end Go.Proofs.YtkafkipjedpohaaGreatDoor
