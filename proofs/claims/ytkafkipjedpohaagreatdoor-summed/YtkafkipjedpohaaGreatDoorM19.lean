import Derived.Test.YtkafkipjedpohaaGreatDoorM18

/-
  The project's machine: count, pass, in any gear.
-/
namespace Go.Proofs.YtkafkipjedpohaaGreatDoor
open Go.RowKit

/-- Steps more are counted. -/
theorem LayM.tick {w : World} {B mb : Nat} {A : AdM} {s : Mc} {en : Int} (h : LayM w B mb A s en) (n : Nat) :
    LayM (w.setCell ⟨mb, 7, none⟩ (.int .i64 n)) B mb A { s with steps := n } en ∧ Ch B (fun d => d = 0) A.tag A.tag w (w.setCell ⟨mb, 7, none⟩ (.int .i64 n)) := by
  have hc : Ch B (fun d => d = 0) A.tag A.tag w (w.setCell ⟨mb, 7, none⟩ (.int .i64 n)) := Ch.set w _ _ _ h.own.1 h.own.2
  refine ⟨⟨heap_set h.run _, h.own, h.fr.keep hc (by omega), fun i hi => ?_, h.ar.keep hc (by omega), h.out.keep hc (by omega), fun i hi => (h.loc i hi).keep hc (by omega), fun i hi => (h.stk i hi).keep hc (by omega), fun j hj => (h.arr j hj).keep hc (by omega)⟩, hc⟩
  obtain ⟨g1, g2, g3⟩ := h.fb i hi
  obtain ⟨g4, g5⟩ := blk_keep g1 hc (by rw [g3]; omega)
  exact ⟨g4, g2, g5.trans g3⟩
/-- A count is written: High (8), Ups (9), Downs (10). -/
def AdG.cnt (g : AdG) (k : Nat) (v : Int) : AdG := { g with hi := if k = 8 then v else g.hi, up := if k = 9 then v else g.up, dn := if k = 10 then v else g.dn }
theorem LayM.counted {w : World} {B mb : Nat} {A : AdM} {s : Mc} {en : Int} (h : LayM w B mb A s en) (k : Nat) (hk : k = 8 ∨ k = 9 ∨ k = 10) (v : Int) :
    LayM (w.setCell ⟨mb, k, none⟩ (.int .i64 v)) B mb { A with g := A.g.cnt k v } s en ∧ Ch B (fun d => d = 0) A.tag A.tag w (w.setCell ⟨mb, k, none⟩ (.int .i64 v)) := by
  have hc : Ch B (fun d => d = 0) A.tag A.tag w (w.setCell ⟨mb, k, none⟩ (.int .i64 v)) := Ch.set w _ _ _ h.own.1 h.own.2
  refine ⟨⟨?_, h.own, h.fr.keep hc (by omega), fun i hi => ?_, h.ar.keep hc (by omega), h.out.keep hc (by omega), fun i hi => (h.loc i hi).keep hc (by omega), fun i hi => (h.stk i hi).keep hc (by omega), fun j hj => (h.arr j hj).keep hc (by omega)⟩, hc⟩
  · rw [heap_set h.run _]
    rcases hk with rfl | rfl | rfl <;> rfl
  · obtain ⟨g1, g2, g3⟩ := h.fb i hi
    obtain ⟨g4, g5⟩ := blk_keep g1 hc (by rw [g3]; omega)
    exact ⟨g4, g2, g5.trans g3⟩

theorem nilSlice (X : World) : (binOp .neq 136 (.slice none 0 0) (.slice none 0 0)).run Tryz.prog X = .ok (.bool false) X := by
  go_simp
theorem someSlice (a : Addr) (n c : Nat) (X : World) : (binOp .neq 136 (.slice (some a) n c) (.slice none 0 0)).run Tryz.prog X = .ok (.bool true) X := by
  go_simp
theorem codeNil {v : Value} {b : Bool} (h : CodeV v b) (X : World) : (binOp .neq 136 v (.slice none 0 0)).run Tryz.prog X = .ok (.bool b) X := by
  rcases h with ⟨rfl, rfl⟩ | ⟨rfl, a, n, c, rfl⟩
  · exact nilSlice X
  · exact someSlice a n c X
theorem codeSlc {v : Value} {b : Bool} (h : CodeV v b) : ∃ p n c, v = .slice p n c := by
  rcases h with ⟨_, h⟩ | ⟨_, a, n, c, h⟩
  · exact ⟨_, _, _, h⟩
  · exact ⟨_, _, _, h⟩

/-- What count leaves. -/
def tickW (w : World) (mb : Nat) (st hi : Nat) (n : Nat) (b : Bool) : World :=
  if b = true then (w.setCell ⟨mb, 7, none⟩ (.int .i64 (st + n : Nat))).setCell ⟨mb, 8, none⟩ (.int .i64 (hi + n : Nat)) else w.setCell ⟨mb, 7, none⟩ (.int .i64 (st + n : Nat))

set_option maxRecDepth 100000 in
theorem countM (w : World) (mb fb : Nat) (st hi n : Nat) (cv : Value) (b : Bool) (hst : w.cell? ⟨mb, 7, none⟩ = some (.int .i64 st)) (hz : w.frozen? ⟨mb, 7, none⟩ = false) (hhi : w.cell? ⟨mb, 8, none⟩ = some (.int .i64 hi)) (hz8 : w.frozen? ⟨mb, 8, none⟩ = false) (hc : w.cell? ⟨fb, 4, none⟩ = some cv) (hcv : CodeV cv b) (hne : ¬ fb = mb) (hb : st ≤ 1000000) (hh : hi ≤ 1000000) (hn : n ≤ 1000) :
    Calls Tryz.prog 88 #[.pointer (some ⟨mb, 0, none⟩), .pointer (some ⟨fb, 0, none⟩), .int .i64 n] w fun e w' => e = .returned (.tuple #[]) ∧ w' = tickW w mb st hi n b := by
  have hcn := fun X => codeNil hcv X
  obtain ⟨p, cl, cc, rfl⟩ := codeSlc hcv
  clear hcv
  have hsp : (0 : Int) ≤ (st : Int) ∧ (st : Int) ≤ 1000000 := by omega
  have hhp : (0 : Int) ≤ (hi : Int) ∧ (hi : Int) ≤ 1000000 := by omega
  have hnp : (0 : Int) ≤ (n : Int) ∧ (n : Int) ≤ 1000 := by omega
  unfold tickW
  have e6 : ((st + n : Nat) : Int) = (st : Int) + (n : Int) := by omega
  have e7 : ((hi + n : Nat) : Int) = (hi : Int) + (n : Int) := by omega
  rw [e6, e7]
  generalize (st : Int) = sp at *
  generalize (hi : Int) = hp at *
  generalize (n : Int) = np at *
  have e5 : wrap64 (sp + np) = sp + np := by unfold wrap64; omega
  have e8 : wrap64 (hp + np) = hp + np := by unfold wrap64; omega
  have hc2 : (w.setCell ⟨mb, 7, none⟩ (.int .i64 (sp + np))).cell? ⟨fb, 4, none⟩ = some (.slice p cl cc) := by
    rw [World.cell?_setCell_far _ _ _ _ (fun e => hne e.symm)]
    exact hc
  cases b
  · go_enter Tryz.func88, Tryz.ntmps88
    go_wp2
    go_end0
    exact ⟨rfl, by simp⟩
  · go_enter Tryz.func88, Tryz.ntmps88
    go_wp2
    go_end0
    exact ⟨rfl, by simp⟩

theorem LayM.ticks {w : World} {B mb : Nat} {A : AdM} {s : Mc} {en : Int} (h : LayM w B mb A s en) (n : Nat) (b : Bool) (hhi : A.g.hi = s.cH) :
    ∃ A' : AdM, LayM (tickW w mb s.steps s.cH n b) B mb A' { s with steps := s.steps + n, cH := s.cH + (if b = true then n else 0) } en ∧ A' = { A with g := { A.g with hi := A'.g.hi } } ∧ A'.g.hi = (s.cH + (if b = true then n else 0) : Nat) ∧ Ch B (fun d => d = 0) A.tag A.tag w (tickW w mb s.steps s.cH n b) := by
  obtain ⟨l1, c1⟩ := h.tick (s.steps + n)
  unfold tickW
  cases b
  · rw [if_neg (by simp)]
    exact ⟨A, l1.like rfl rfl rfl rfl rfl, rfl, by simpa using hhi, c1⟩
  · rw [if_pos rfl]
    obtain ⟨l2, c2⟩ := l1.counted 8 (by omega) (s.cH + n : Nat)
    refine ⟨_, l2.like rfl rfl rfl rfl rfl, rfl, ?_, c1.trans c2⟩
    simp [AdG.cnt]

theorem MSt.count {w : World} {B mb m : Nat} {F : Nat → PF} {MV : Nat → Value} {A : AdM} {s : Mc} {en : Int} (hM : MSt w B mb m F MV A s en) (fb : Nat) (cv : Value) (b : Bool) (hc : w.cell? ⟨fb, 4, none⟩ = some cv) (hcv : CodeV cv b) (hne : ¬ fb = mb) (hb : s.steps ≤ 1000000) (hh : s.cH ≤ 1000000) (n : Nat) (hn : n ≤ 1000) :
    Calls Tryz.prog 88 #[.pointer (some ⟨mb, 0, none⟩), .pointer (some ⟨fb, 0, none⟩), .int .i64 n] w fun e w' => e = .returned (.tuple #[]) ∧ w' = tickW w mb s.steps s.cH n b ∧ Goes w B mb m F MV s.fr.length A { s with steps := s.steps + n, cH := s.cH + (if b = true then n else 0) } en w' := by
  have x7 : w.cell? ⟨mb, 7, none⟩ = some (.int .i64 s.steps) := by rw [cell_heap hM.lay.run]; rfl
  have x8 : w.cell? ⟨mb, 8, none⟩ = some (.int .i64 s.cH) := by rw [cell_heap hM.lay.run, ← hM.cnt.1]; rfl
  refine (countM w mb fb s.steps s.cH n cv b x7 (frozen_heap hM.lay.run) x8 (frozen_heap hM.lay.run) hc hcv hne hb hh hn).mono ?_
  rintro e w' ⟨rfl, rfl⟩
  obtain ⟨A', l1, eA, eH, c1⟩ := hM.lay.ticks n b hM.cnt.1
  have cN : Ch B N5 A.tag A'.tag w (tickW w mb s.steps s.cH n b) := by rw [eA]; exact c1.mono (q := N5) (fun d hd => by unfold N5; omega)
  have hsg : SameG A A' := by rw [eA]; exact ⟨rfl, rfl, rfl⟩
  have hcv' : A'.g.CV = A.g.CV := by rw [eA]
  refine ⟨rfl, rfl, A', hM.ch l1 hM.hl (fun i hi => by rw [hcv']; exact hM.cod i hi) ⟨eH, by rw [eA]; exact hM.cnt.2.1, by rw [eA]; exact hM.cnt.2.2⟩ rfl hsg cN, hsg, cN, fun i _ _ => by unfold AdM.FB; rw [eA], fun i hi => ⟨fun _ => by rw [hcv'], fun h => absurd (show i < s.fr.length from hi) (by omega)⟩⟩

/-- The frame at hand: where its block lies, what code it has. -/
theorem MSt.top {w : World} {B mb m : Nat} {F : Nat → PF} {MV : Nat → Value} {A : AdM} {s : Mc} {en : Int} (hM : MSt w B mb m F MV A s en) {f : Fr} {rest : List Fr} (hs : s.fr = f :: rest) :
    w.cell? ⟨A.FB rest.length, 4, none⟩ = some (A.g.CV rest.length) ∧ ¬ A.FB rest.length = mb ∧ w.cell? ⟨A.FB rest.length, 1, none⟩ = some (.int .i64 f.pc) ∧ w.frozen? ⟨A.FB rest.length, 1, none⟩ = false ∧ w.cell? ⟨A.FB rest.length, 0, none⟩ = some (.int .i64 f.fn) ∧ A.tag (A.FB rest.length) = 10 + 4 * rest.length ∧ A.FB rest.length < w.heap.size := by
  have hlen : s.fr.length = rest.length + 1 := by rw [hs]; rfl
  obtain ⟨g1, g2, g3⟩ := hM.lay.fb rest.length (by omega)
  have e0 : frAt s.fr rest.length = f := by rw [hs]; exact frAt_top _ _
  rw [e0] at g1
  refine ⟨(cell_heap g1).trans rfl, fun e => ?_, (cell_heap g1).trans rfl, frozen_heap g1, (cell_heap g1).trans rfl, g3, heap_lt g1⟩
  rw [e, hM.lay.own.2] at g3
  omega
/-- The gear of the frame at hand. -/
theorem MSt.gear {w : World} {B mb m : Nat} {F : Nat → PF} {MV : Nat → Value} {A : AdM} {s : Mc} {en : Int} (hM : MSt w B mb m F MV A s en) {f : Fr} {rest : List Fr} (hs : s.fr = f :: rest) : CodeV (A.g.CV rest.length) (s.high.headD false) := by
  have hlen : s.fr.length = rest.length + 1 := by rw [hs]; rfl
  have hc := hM.cod rest.length (by omega)
  have hl := hM.hl
  cases hh : s.high with
  | nil => rw [hh] at hl; simp at hl; omega
  | cons b r =>
    rw [hh] at hc hl
    rw [hiAt_top b r (by simp at hl; omega)] at hc
    exact hc

theorem MSt.goto {w : World} {B mb m : Nat} {F : Nat → PF} {MV : Nat → Value} {A : AdM} {s : Mc} {en : Int} (hM : MSt w B mb m F MV A s en) {f : Fr} {rest : List Fr} (hs : s.fr = f :: rest) (pc : Nat) : Goes w B mb m F MV s.fr.length A { s with fr := { f with pc := pc } :: rest } en (w.setCell ⟨A.FB rest.length, 1, none⟩ (.int .i64 pc)) := by
  obtain ⟨l1, c1⟩ := hM.lay.goto hs pc
  exact hM.aft ⟨A, l1, rfl, c1.mono (q := N5) (fun _ => tk_n5)⟩ ⟨by rw [hs]; rfl, rfl, rfl, rfl, rfl, rfl⟩

theorem Goes.then_ {w w1 w' : World} {B mb m n0 : Nat} {F : Nat → PF} {MV : Nat → Value} {A A1 : AdM} {s1 s' : Mc} {en : Int} (hn : s1.fr.length = n0) (hg : SameG A A1) (hc : Ch B N5 A.tag A1.tag w w1) (hf : ∀ i, A1.FB i = A.FB i) (hcv : ∀ i, i < n0 → A1.g.CV i = A.g.CV i) (h : Goes w1 B mb m F MV s1.fr.length A1 s' en w') : Goes w B mb m F MV n0 A s' en w' := by
  obtain ⟨A', h1, h2, h3, h4, h5⟩ := h
  subst hn
  exact ⟨A', h1, hg.trans h2, hc.trans h3, fun i hi hn => (h4 i hi hn).trans (hf i), fun i hi => ⟨fun h => ((h5 i hi).1 h).trans (hcv i h), (h5 i hi).2⟩⟩

set_option maxRecDepth 100000 in
set_option maxHeartbeats 1000000 in
theorem MSt.pass {w : World} {B mb m : Nat} {F : Nat → PF} {MV : Nat → Value} {A : AdM} {s : Mc} {en : Int} (hM : MSt w B mb m F MV A s en) {f : Fr} {rest : List Fr} (hs : s.fr = f :: rest) (hb : s.steps ≤ 1000000) (hh : s.cH ≤ 1000000) (hpc : f.pc ≤ 1000) (n : Nat) (hn : n ≤ 1000) :
    Calls Tryz.prog 122 #[.pointer (some ⟨mb, 0, none⟩), .pointer (some ⟨A.FB rest.length, 0, none⟩), .int .i64 n] w fun e w' => e = .returned (.tuple #[]) ∧ Goes w B mb m F MV s.fr.length A { s with steps := s.steps + n, cH := s.cH + (if s.high.headD false = true then n else 0), fr := { f with pc := f.pc + n } :: rest } en w' := by
  obtain ⟨t1, t2, t3, t4, _, _, _⟩ := hM.top hs
  have hcg := hM.gear hs
  have HC := hid (hM.count (A.FB rest.length) _ _ t1 hcg t2 hb hh n hn)
  obtain ⟨A', l1, eA, eH, c1⟩ := hM.lay.ticks n (s.high.headD false) hM.cnt.1
  have cN : Ch B N5 A.tag A'.tag w (tickW w mb s.steps s.cH n (s.high.headD false)) := by rw [eA]; exact c1.mono (q := N5) (fun d hd => by unfold N5; omega)
  have hsg : SameG A A' := by rw [eA]; exact ⟨rfl, rfl, rfl⟩
  have hcv' : A'.g.CV = A.g.CV := by rw [eA]
  have hfb : ∀ i, A'.FB i = A.FB i := fun i => by unfold AdM.FB; rw [eA]
  have hM1 := hM.ch l1 hM.hl (fun i hi => by rw [hcv']; exact hM.cod i hi) ⟨eH, by rw [eA]; exact hM.cnt.2.1, by rw [eA]; exact hM.cnt.2.2⟩ rfl hsg cN
  obtain ⟨_, _, u3, u4, _, _, _⟩ := hM1.top hs
  have hg := hM1.goto hs (f.pc + n)
  rw [hfb] at hg u3 u4
  have e6 : ((f.pc + n : Nat) : Int) = (f.pc : Int) + (n : Int) := by omega
  rw [e6] at hg
  have HQ := hid (Goes.then_ (n0 := s.fr.length) rfl hsg cN hfb (fun i _ => by rw [hcv']) hg)
  clear hM hM1 l1 c1 cN hg t1 t2 t3 t4 e6 hsg hcv' hfb eA eH hcg
  generalize A.FB rest.length = fb at *
  generalize tickW w mb s.steps s.cH n (s.high.headD false) = W at *
  have hp0 : 0 ≤ (f.pc : Int) ∧ (f.pc : Int) ≤ 1000 := by omega
  have hnp : (0 : Int) ≤ (n : Int) ∧ (n : Int) ≤ 1000 := by omega
  obtain ⟨pcl, hpcl⟩ : ∃ pcl, pcl = (f.pc : Int) := ⟨_, rfl⟩
  obtain ⟨np, hnl⟩ : ∃ np, np = (n : Int) := ⟨_, rfl⟩
  rw [← hpcl] at u3 hp0
  rw [← hnl] at hnp
  have HZ := hid (And.intro hpcl hnl)
  rw [← hnl] at HC ⊢
  have HQ2 : Hid (Goes w B mb m F MV s.fr.length A { s with steps := s.steps + n, cH := s.cH + (if s.high.headD false = true then n else 0), fr := { f with pc := f.pc + n } :: rest } en (W.setCell ⟨fb, 1, none⟩ (.int .i64 (pcl + np)))) := by
    unfold Hid; rw [hpcl, hnl]; exact HQ.out
  clear hpcl hnl hpc hn HQ
  generalize s.fr.length = n0 at *
  generalize ({ s with steps := s.steps + n, cH := s.cH + (if s.high.headD false = true then n else 0), fr := { f with pc := f.pc + n } :: rest } : Mc) = s' at *
  have e5 : wrap64 (pcl + np) = pcl + np := by unfold wrap64; omega
  go_enter Tryz.func122, Tryz.ntmps122
  go_wp2_with fail
  refine HC.out.mono ?_
  rintro e w1 ⟨rfl, hw1, hjk⟩
  clear hjk
  rw [hw1]
  clear hw1 w1
  go_wp2
  go_end0
  exact ⟨rfl, HQ2.out⟩
end Go.Proofs.YtkafkipjedpohaaGreatDoor
