/-
  The project's machine: giveBack.
-/
import Derived.Test.YtnhjjjijeeobbaaDoorM8
namespace Go.Proofs.YtnhjjjijeeobbaaDoor
open Go.RowKit

/-- What of a run is seen in memory. -/
theorem LayM.like {w : World} {B mb : Nat} {A : AdM} {s s' : Mc} {en : Int} (h : LayM w B mb A s en) (e1 : s'.fr = s.fr) (e2 : s'.arr = s.arr) (e3 : s'.out = s.out) (e4 : s'.gives = s.gives) (e5 : s'.steps = s.steps) : LayM w B mb A s' en := by
  obtain ⟨a1, a2, a3, a4, a5, a6, a7, a8, a9⟩ := h
  refine ⟨?_, a2, by rw [e1]; exact a3, by rw [e1]; exact a4, by rw [e2]; exact a5, by rw [e3]; exact a6, by rw [e1]; exact a7, by rw [e1]; exact a8, by rw [e2]; exact a9⟩
  rw [a1]
  unfold mcells
  rw [e2, e4, e5]

/-- The frame at hand is gone. -/
theorem LayM.popped {w : World} {B mb : Nat} {A : AdM} {s : Mc} {en : Int} {f : Fr} {rest : List Fr} (h : LayM w B mb A s en) (hs : s.fr = f :: rest) {gb cap : Nat} (hfv : A.fv = .slice (some ⟨gb, 0, none⟩) (rest.length + 1) cap) :
    LayM (w.setCell ⟨mb, 1, none⟩ (.slice (some ⟨gb, 0, none⟩) rest.length cap)) B mb { A with fv := .slice (some ⟨gb, 0, none⟩) rest.length cap } { s with fr := rest } en ∧ Ch B (fun d => d = 0) A.tag A.tag w (w.setCell ⟨mb, 1, none⟩ (.slice (some ⟨gb, 0, none⟩) rest.length cap)) := by
  have hlen : s.fr.length = rest.length + 1 := by rw [hs]; rfl
  have hc : Ch B (fun d => d = 0) A.tag A.tag w (w.setCell ⟨mb, 1, none⟩ (.slice (some ⟨gb, 0, none⟩) rest.length cap)) := Ch.set w _ _ _ h.own.1 h.own.2
  have hfr := h.fr
  rw [hlen, hfv] at hfr
  have hot : ∀ i, i < rest.length → frAt rest i = frAt s.fr i := fun i hi => by rw [hs, frAt_rest _ _ _ hi]
  refine ⟨⟨heap_set h.run _, ⟨h.own.1, h.own.2⟩, (hfr.take rest.length (by omega)).keep hc (by omega), fun i hi => ?_, h.ar.keep hc (by omega), h.out.keep hc (by omega), fun i hi => ?_, fun i hi => ?_, fun j hj => (h.arr j hj).keep hc (by omega)⟩, hc⟩
  · have hi' : i < rest.length := hi
    obtain ⟨g1, g2, g3⟩ := h.fb i (by omega)
    obtain ⟨g4, g5⟩ := blk_keep g1 hc (by rw [g3]; omega)
    refine ⟨?_, g2, g5.trans g3⟩
    show _ = some (Obj.cells (frcells (frAt rest i) _ _) _ _)
    rw [hot i hi']
    exact g4
  · have hi' : i < rest.length := hi
    show Row _ B A.tag _ _ 2 _ (frAt rest i).loc.length (vcell (frAt rest i).loc)
    rw [hot i hi']
    exact (h.loc i (by omega)).keep hc (by omega)
  · have hi' : i < rest.length := hi
    show Row _ B A.tag _ _ 2 _ (frAt rest i).stk.length (vcell (frAt rest i).stk.reverse)
    rw [hot i hi']
    exact (h.stk i (by omega)).keep hc (by omega)

/-- What the run gives. -/
theorem LayM.gave_ {w : World} {B mb : Nat} {A : AdM} {s : Mc} {en : Int} (h : LayM w B mb A s en) (v : V) :
    LayM ((w.setCell ⟨mb, 7, none⟩ (.int .i64 v.k)).setCell ⟨mb, 8, none⟩ (.int .i64 v.n)) B mb A { s with gives := v } en ∧ Ch B (fun d => d = 0) A.tag A.tag w ((w.setCell ⟨mb, 7, none⟩ (.int .i64 v.k)).setCell ⟨mb, 8, none⟩ (.int .i64 v.n)) := by
  have hc : Ch B (fun d => d = 0) A.tag A.tag w ((w.setCell ⟨mb, 7, none⟩ (.int .i64 v.k)).setCell ⟨mb, 8, none⟩ (.int .i64 v.n)) := (Ch.set w _ _ _ h.own.1 h.own.2).trans (Ch.set _ _ _ _ h.own.1 h.own.2)
  refine ⟨⟨heap_set (heap_set h.run _) _, h.own, h.fr.keep hc (by omega), fun i hi => ?_, h.ar.keep hc (by omega), h.out.keep hc (by omega), fun i hi => (h.loc i hi).keep hc (by omega), fun i hi => (h.stk i hi).keep hc (by omega), fun j hj => (h.arr j hj).keep hc (by omega)⟩, hc⟩
  obtain ⟨g1, g2, g3⟩ := h.fb i hi
  obtain ⟨g4, g5⟩ := blk_keep g1 hc (by rw [g3]; omega)
  exact ⟨g4, g2, g5.trans g3⟩

set_option maxRecDepth 100000 in
set_option maxHeartbeats 1000000 in
theorem giveBackEnd (w : World) (B mb : Nat) (A : AdM) (s : Mc) (en : Int) (f : Fr) (v : V) (st : List V) (hL : LayM w B mb A s en) (_hB : B ≤ w.heap.size) (hs : s.fr = [f]) (hst : f.stk = v :: st) (hn : st.length ≤ 60) :
    Calls Tryd.prog 94 #[.pointer (some ⟨mb, 0, none⟩), .pointer (some ⟨A.FB 0, 0, none⟩)] w fun e w' => e = .returned (.tuple #[]) ∧
      ∃ A' : AdM, LayM w' B mb A' { s with fr := [], gives := v } en ∧ A'.pv = A.pv ∧ Ch B (fun d => d ≠ 5) A.tag A'.tag w w' := by
  have hpop := popX (fbk := A.FB 0) (rest := []) hL hs hst (by omega) rfl w (Below.refl _ _)
  have HP := hid hpop
  generalize A.FB 0 = fb at *
  clear hpop hL hst
  go_enter Tryd.func94, Tryd.ntmps94
  go_wp2_with fail
  refine HP.out.mono ?_
  rintro e w2 ⟨rfl, h2⟩
  obtain ⟨A3, l3, p3, f3, t3, c3⟩ := h2.boxed (.cells #[.int .i64 v.k, .int .i64 v.n] 45)
  have b0 : (w2.alloc (.cells #[.int .i64 v.k, .int .i64 v.n] 45)).cell? ⟨w2.heap.size, 0, none⟩ = some (.int .i64 v.k) := cell_new w2 _ _ _ _ rfl
  have b1 : (w2.alloc (.cells #[.int .i64 v.k, .int .i64 v.n] 45)).cell? ⟨w2.heap.size, 1, none⟩ = some (.int .i64 v.n) := cell_new w2 _ _ _ _ rfl
  have HM := hid (And.intro l3 (And.intro p3 (And.intro t3 (And.intro c3 (And.intro b0 b1)))))
  clear l3 p3 f3 t3 c3 b0 b1 h2 HP
  go_wp2_with fail
  obtain ⟨l3, p3, t3, c3, b0, b1⟩ := HM.out
  clear HM
  generalize w2.alloc (.cells #[.int .i64 v.k, .int .i64 v.n] 45) = W at *
  generalize w2.heap.size = bx at *
  obtain ⟨gb, gcap, hgv, hgB, hgz, hgt, hgc⟩ := (show Row W B A3.tag 1 123 1 A3.fv (0 + 1) (pcell A3.FB) from l3.fr).form (by omega)
  have hrow := l3.fr
  rw [hgv] at hrow
  have x1 : W.cell? ⟨mb, 1, none⟩ = some (.slice (some ⟨gb, 0, none⟩) (0 + 1) gcap) := by rw [cell_heap l3.run, ← hgv]; rfl
  have z1 : W.frozen? ⟨mb, 1, none⟩ = false := frozen_heap l3.run
  have q1 : W.cell? ⟨gb, 0, none⟩ = some (pcell A3.FB 0) := hrow.cell (i := 0) (by show 0 < (0 + 1) * 1; omega)
  obtain ⟨l4, c4⟩ := l3.popped rfl hgv
  obtain ⟨l5, c5⟩ := l4.gave_ v
  have hmt := l3.own.2
  have hmz := heap_lt l3.run
  have hne : ¬ bx = mb := by intro e; rw [e, hmt] at t3; omega
  have y7 : W.cell? ⟨mb, 7, none⟩ = some (.int .i64 s.gives.k) := by rw [cell_heap l3.run]; rfl
  have y8 : W.cell? ⟨mb, 8, none⟩ = some (.int .i64 s.gives.n) := by rw [cell_heap l3.run]; rfl
  have z7 : W.frozen? ⟨mb, 7, none⟩ = false := frozen_heap l3.run
  have z8 : W.frozen? ⟨mb, 8, none⟩ = false := frozen_heap l3.run
  have hpopf := popF W mb 1 0 gb gcap _ x1 z1 q1 (by omega) hgc
  have HPF := hid hpopf
  have hbl := (c3.mono (q := fun d => d ≠ 5) (fun d hd => by unfold Tk at hd; omega)).trans ((c4.mono (q := fun d => d ≠ 5) (fun d hd => by omega)).trans (c5.mono (q := fun d => d ≠ 5) (fun d hd => by omega)))
  have HQ := hid (And.intro l5 (And.intro p3 hbl))
  have hlf : Hid (∀ X : World, X.cell? ⟨mb, 1, none⟩ = some (.slice (some ⟨gb, 0, none⟩) 0 gcap) → Calls Tryd.prog 81 #[.pointer (some ⟨mb, 1, none⟩)] X fun e w' => e = .returned (.int .i64 (0 : Nat)) ∧ w' = X) := fun X hX => lenF X mb 1 0 gcap _ hX
  have hs1 : Hid ((W.setCell ⟨mb, 1, none⟩ (.slice (some ⟨gb, 0, none⟩) 0 gcap)).cell? ⟨mb, 1, none⟩ = some (.slice (some ⟨gb, 0, none⟩) 0 gcap)) := by
    unfold Hid
    rw [cell_heap (heap_set l3.run _)]
    rfl
  clear hpopf l3 l4 l5 c3 c4 c5 hrow hgv hbl hmt p3 x1 z1 q1
  refine HPF.out.mono ?_
  rintro e w6 ⟨rfl, hw6⟩
  rw [hw6]
  clear hw6 w6 HPF
  go_wp2_with fail
  refine (hlf.out _ hs1.out).mono ?_
  rintro e w6 ⟨rfl, hw6⟩
  rw [hw6]
  clear hw6 w6
  go_wp2
  refine bodyPost_ret (results_none rfl _ _ _) rfl ?_
  exact ⟨rfl, _, HQ.out⟩

set_option maxRecDepth 100000 in
set_option maxHeartbeats 1000000 in
theorem giveBackMid (w : World) (B mb : Nat) (A : AdM) (s : Mc) (en : Int) (f g : Fr) (r : List Fr) (v : V) (st : List V) (hL : LayM w B mb A s en) (hB : B ≤ w.heap.size) (hs : s.fr = f :: g :: r) (hst : f.stk = v :: st) (hn : st.length ≤ 60) (hg : g.stk.length ≤ 60) (hr : r.length ≤ 60) :
    Calls Tryd.prog 94 #[.pointer (some ⟨mb, 0, none⟩), .pointer (some ⟨A.FB (r.length + 1), 0, none⟩)] w fun e w' => e = .returned (.tuple #[]) ∧
      ∃ A' : AdM, LayM w' B mb A' { s with fr := { g with stk := v :: g.stk } :: r } en ∧ A'.pv = A.pv ∧ Ch B (fun d => d ≠ 5) A.tag A'.tag w w' := by
  have hpop := popX (fbk := A.FB (r.length + 1)) (rest := g :: r) hL hs hst (by omega) rfl w (Below.refl _ _)
  have HP := hid hpop
  generalize A.FB (r.length + 1) = fb at *
  clear hpop hL hst
  go_enter Tryd.func94, Tryd.ntmps94
  go_wp2_with fail
  refine HP.out.mono ?_
  rintro e w2 ⟨rfl, h2⟩
  obtain ⟨A3, l3, p3, f3, t3, c3⟩ := h2.boxed (.cells #[.int .i64 v.k, .int .i64 v.n] 45)
  have b0 : (w2.alloc (.cells #[.int .i64 v.k, .int .i64 v.n] 45)).cell? ⟨w2.heap.size, 0, none⟩ = some (.int .i64 v.k) := cell_new w2 _ _ _ _ rfl
  have b1 : (w2.alloc (.cells #[.int .i64 v.k, .int .i64 v.n] 45)).cell? ⟨w2.heap.size, 1, none⟩ = some (.int .i64 v.n) := cell_new w2 _ _ _ _ rfl
  have hbz : w2.heap.size < (w2.alloc (.cells #[.int .i64 v.k, .int .i64 v.n] 45)).heap.size := by simp
  have HM := hid (And.intro l3 (And.intro p3 (And.intro t3 (And.intro c3 (And.intro b0 (And.intro b1 hbz))))))
  clear l3 p3 f3 t3 c3 b0 b1 h2 HP hbz
  go_wp2_with fail
  obtain ⟨l3, p3, t3, c3, b0, b1, hbz⟩ := HM.out
  clear HM
  generalize w2.alloc (.cells #[.int .i64 v.k, .int .i64 v.n] 45) = W at *
  generalize w2.heap.size = bx at *
  obtain ⟨gb, gcap, hgv, hgB, hgz, hgt, hgc⟩ := (show Row W B A3.tag 1 123 1 A3.fv (r.length + 1 + 1) (pcell A3.FB) from l3.fr).form (by omega)
  have hrow := l3.fr
  rw [hgv] at hrow
  have x1 : W.cell? ⟨mb, 1, none⟩ = some (.slice (some ⟨gb, 0, none⟩) (r.length + 1 + 1) gcap) := by rw [cell_heap l3.run, ← hgv]; rfl
  have z1 : W.frozen? ⟨mb, 1, none⟩ = false := frozen_heap l3.run
  have q1 : W.cell? ⟨gb, r.length + 1, none⟩ = some (pcell A3.FB (r.length + 1)) := hrow.cell (i := r.length + 1) (by show r.length + 1 < (r.length + 1 + 1) * 1; omega)
  have q0 : W.cell? ⟨gb, r.length, none⟩ = some (pcell A3.FB r.length) := hrow.cell (i := r.length) (by show r.length < (r.length + 1 + 1) * 1; omega)
  obtain ⟨l4, c4⟩ := l3.popped rfl hgv
  have hmt := l3.own.2
  have hne : ¬ bx = mb := by intro e; rw [e, hmt] at t3; omega
  have hne2 : ¬ gb = mb := by intro e; rw [e, hmt] at hgt; omega
  have hpopf := popF W mb 1 (r.length + 1) gb gcap _ x1 z1 q1 (by omega) hgc
  have HPF := hid hpopf
  have hW1 : W.heap.size ≤ (W.setCell ⟨mb, 1, none⟩ (.slice (some ⟨gb, 0, none⟩) (r.length + 1) gcap)).heap.size := c4.size
  have hb0 : (W.setCell ⟨mb, 1, none⟩ (.slice (some ⟨gb, 0, none⟩) (r.length + 1) gcap)).cell? ⟨bx, 0, none⟩ = some (.int .i64 v.k) := (c4.cell (a := ⟨bx, 0, none⟩) hbz (by rw [t3]; omega)).trans b0
  have hb1 : (W.setCell ⟨mb, 1, none⟩ (.slice (some ⟨gb, 0, none⟩) (r.length + 1) gcap)).cell? ⟨bx, 1, none⟩ = some (.int .i64 v.n) := (c4.cell (a := ⟨bx, 1, none⟩) hbz (by rw [t3]; omega)).trans b1
  have hq0 : (W.setCell ⟨mb, 1, none⟩ (.slice (some ⟨gb, 0, none⟩) (r.length + 1) gcap)).cell? ⟨gb, r.length, none⟩ = some (pcell A3.FB r.length) := (c4.cell (a := ⟨gb, r.length, none⟩) hgz (by rw [hgt]; omega)).trans q0
  have hx1 : (W.setCell ⟨mb, 1, none⟩ (.slice (some ⟨gb, 0, none⟩) (r.length + 1) gcap)).cell? ⟨mb, 1, none⟩ = some (.slice (some ⟨gb, 0, none⟩) (r.length + 1) gcap) := by
    rw [cell_heap (heap_set l3.run _)]
    rfl
  have h3 := c3.below hB
  have hBW := hid ((c3.mono (q := fun d => d ≠ 5) (fun d hd => by unfold Tk at hd; omega)).trans (c4.mono (q := fun d => d ≠ 5) (fun d hd => by omega)))
  have HP3 := hid p3
  have HBS : Hid (B ≤ (W.setCell ⟨mb, 1, none⟩ (.slice (some ⟨gb, 0, none⟩) (r.length + 1) gcap)).heap.size) := by unfold Hid; have := h3.size; omega
  have hbz2 : bx < (W.setCell ⟨mb, 1, none⟩ (.slice (some ⟨gb, 0, none⟩) (r.length + 1) gcap)).heap.size := by omega
  have HL := hid l4
  have HT := hid t3
  clear hpopf l3 l4 c3 c4 hrow hgv hmt p3 x1 z1 q1 q0 b0 b1 h3
  refine HPF.out.mono ?_
  rintro e w6 ⟨rfl, hw6⟩
  rw [hw6]
  clear hw6 w6 HPF
  generalize W.setCell ⟨mb, 1, none⟩ (.slice (some ⟨gb, 0, none⟩) (r.length + 1) gcap) = V at *
  generalize hrl : r.length = rl at *
  have HRL := hid hrl
  clear hrl
  go_wp2_with fail
  refine (lenF V mb 1 (rl + 1) gcap (some ⟨gb, 0, none⟩) hx1).mono ?_
  rintro e w6 ⟨rfl, hw6⟩
  rw [hw6]
  clear hw6 w6
  have hpc : pcell A3.FB rl = .pointer (some ⟨A3.FB rl, 0, none⟩) := rfl
  rw [hpc] at hq0
  clear hpc
  have HPush := hid (fun (X : World) (hX : Below V.heap.size V X) => pushX (fbk := A3.FB rl) HL.out rfl HBS.out (by omega) (by rw [HRL.out]) v X hX)
  generalize A3.FB rl = fbr at *
  have HTop := hid (fun (X : World) (h1 : X.cell? ⟨mb, 1, none⟩ = some (.slice (some ⟨gb, 0, none⟩) (rl + 1) gcap)) (h2 : X.cell? ⟨gb, rl, none⟩ = some (.pointer (some ⟨fbr, 0, none⟩))) => topF X mb 1 rl gb gcap _ h1 h2 (by omega))
  go_wp2_with fail
  go_region_held3 (fun w' => w'.cell? ⟨bx, 0, none⟩ = some (.int .i64 v.k) ∧ w'.cell? ⟨bx, 1, none⟩ = some (.int .i64 v.n))
    ((refine ⟨?_, ?_⟩ <;> (first | exact hb0 | exact hb1 | assumption)))
    (first
      | (go_at_call 91; refine (HTop.out _ ?_ ?_).mono ?_; exact hx1; exact hq0; rintro e w6 ⟨rfl, k6, hw6⟩; rw [hw6]; clear hw6 w6)
      | (go_at_call 106; refine (HPush.out _ ?_).mono ?_; exact (by repeat (first | exact Below.refl _ _ | refine below_drewN ?_ _ | refine Below.drew ?_)); rintro e w7 ⟨rfl, A7, l7, p7, f7, c7⟩; have q0 := (c7.cell (a := ⟨bx, 0, none⟩) hbz2 (by show ¬ Tk r.length (A3.tag bx); rw [HT.out]; exact tk5 _)).trans hb0; have q1 := (c7.cell (a := ⟨bx, 1, none⟩) hbz2 (by show ¬ Tk r.length (A3.tag bx); rw [HT.out]; exact tk5 _)).trans hb1))
  rename_i hheld
  have HQ := hid (And.intro l7 (And.intro (p7.trans HP3.out) (hBW.out.trans (c7.mono (fun d hd => by unfold Tk at hd; omega)))))
  clear hheld q0 q1 l7 p7 f7 c7 hb0 hb1
  go_end0
  exact ⟨rfl, _, HQ.out⟩
end Go.Proofs.YtnhjjjijeeobbaaDoor
