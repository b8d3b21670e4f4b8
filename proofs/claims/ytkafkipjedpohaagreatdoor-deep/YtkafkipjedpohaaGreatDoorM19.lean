import Derived.Test.YtkafkipjedpohaaGreatDoorM18

/-
  The project's machine: count, pass, in any gear.
-/
namespace Go.Proofs.YtkafkipjedpohaaGreatDoor
open Go.RowKit

/-- Steps more are counted. -/
theorem LayM.tick {w : World} {B mb : Nat} {A : AdM} {s : Mc} {en : Int} (h : LayM w B mb A s en) (n : Nat) :
    LayM (w.setCell ⟨mb, 7, none⟩ (.int .i64 n)) B mb A { s with steps := n } en ∧ Ch B (fun d => d = 0) A.tag A.tag w (w.setCell ⟨mb, 7, none⟩ (.int .i64 n)) := by
  have hc : Ch B (fun d => d = 0) A.tag A.tag w (w.setCell ⟨mb, 7, none⟩ (.int .i64 n)) := Ch.set w _ _ _ h.own.1 h.own.2
  refine ⟨⟨heap_set h.run _, h.own, h.fr.keep hc (by omega), fun i hi => ?_, h.ar.keep hc (by omega), h.out.keep hc (by omega), fun i hi => (h.loc i hi).keep hc (by omega), fun i hi => (h.stk i hi).keep hc (by omega), fun j hj => (h.arr j hj).keep hc (by omega)⟩, hc⟩
  obtain ⟨g1, g2, g3⟩ := h.fb i hi
  obtain ⟨g4, g5⟩ := blk_keep g1 hc (by rw [g3]; omega)
  exact ⟨g4, g2, g5.trans g3⟩
/-- A count is written: High (8), Ups (9), Downs (10). -/
def AdG.cnt (g : AdG) (k : Nat) (v : Int) : AdG := { g with hi := if k = 8 then v else g.hi, up := if k = 9 then v else g.up, dn := if k = 10 then v else g.dn }
theorem LayM.counted {w : World} {B mb : Nat} {A : AdM} {s : Mc} {en : Int} (h : LayM w B mb A s en) (k : Nat) (hk : k = 8 ∨ k = 9 ∨ k = 10) (v : Int) :
    LayM (w.setCell ⟨mb, k, none⟩ (.int .i64 v)) B mb { A with g := A.g.cnt k v } s en ∧ Ch B (fun d => d = 0) A.tag A.tag w (w.setCell ⟨mb, k, none⟩ (.int .i64 v)) := by
  have hc : Ch B (fun d => d = 0) A.tag A.tag w (w.setCell ⟨mb, k, none⟩ (.int .i64 v)) := Ch.set w _ _ _ h.own.1 h.own.2
  refine ⟨⟨?_, h.own, h.fr.keep hc (by omega), fun i hi => ?_, h.ar.keep hc (by omega), h.out.keep hc (by omega), fun i hi => (h.loc i hi).keep hc (by omega), fun i hi => (h.stk i hi).keep hc (by omega), fun j hj => (h.arr j hj).keep hc (by omega)⟩, hc⟩
  · rw [heap_set h.run _]
    rcases hk with rfl | rfl | rfl <;> rfl
  · obtain ⟨g1, g2, g3⟩ := h.fb i hi
    obtain ⟨g4, g5⟩ := blk_keep g1 hc (by rw [g3]; omega)
    exact ⟨g4, g2, g5.trans g3⟩

theorem nilSlice (X : World) : (binOp .neq 136 (.slice none 0 0) (.slice none 0 0)).run Tryz.prog X = .ok (.bool false) X := by
  go_simp
theorem someSlice (a : Addr) (n c : Nat) (X : World) : (binOp .neq 136 (.slice (some a) n c) (.slice none 0 0)).run Tryz.prog X = .ok (.bool true) X := by
  go_simp
theorem codeNil {v : Value} {b : Bool} (h : CodeV v b) (X : World) : (binOp .neq 136 v (.slice none 0 0)).run Tryz.prog X = .ok (.bool b) X := by
  rcases h with ⟨rfl, rfl⟩ | ⟨rfl, a, n, c, rfl⟩
  · exact nilSlice X
  · exact someSlice a n c X
theorem codeSlc {v : Value} {b : Bool} (h : CodeV v b) : ∃ p n c, v = .slice p n c := by
  rcases h with ⟨_, h⟩ | ⟨_, a, n, c, h⟩
  · exact ⟨_, _, _, h⟩
  · exact ⟨_, _, _, h⟩

/-- What count leaves. -/
def tickW (w : World) (mb : Nat) (st hi : Nat) (n : Nat) (b : Bool) : World :=
  if b = true then (w.setCell ⟨mb, 7, none⟩ (.int .i64 (st + n : Nat))).setCell ⟨mb, 8, none⟩ (.int .i64 (hi + n : Nat)) else w.setCell ⟨mb, 7, none⟩ (.int .i64 (st + n : Nat))

set_option maxRecDepth 100000 in
theorem countM (w : World) (mb fb : Nat) (st hi n : Nat) (cv : Value) (b : Bool) (hst : w.cell? ⟨mb, 7, none⟩ = some (.int .i64 st)) (hz : w.frozen? ⟨mb, 7, none⟩ = false) (hhi : w.cell? ⟨mb, 8, none⟩ = some (.int .i64 hi)) (hz8 : w.frozen? ⟨mb, 8, none⟩ = false) (hc : w.cell? ⟨fb, 4, none⟩ = some cv) (hcv : CodeV cv b) (hne : ¬ fb = mb) (hb : st ≤ 1000000) (hh : hi ≤ 1000000) (hn : n ≤ 1000) :
    Calls Tryz.prog 88 #[.pointer (some ⟨mb, 0, none⟩), .pointer (some ⟨fb, 0, none⟩), .int .i64 n] w fun e w' => e = .returned (.tuple #[]) ∧ w' = tickW w mb st hi n b := by
  have hcn := fun X => codeNil hcv X
  obtain ⟨p, cl, cc, rfl⟩ := codeSlc hcv
  clear hcv
  have hsp : (0 : Int) ≤ (st : Int) ∧ (st : Int) ≤ 1000000 := by omega
  have hhp : (0 : Int) ≤ (hi : Int) ∧ (hi : Int) ≤ 1000000 := by omega
  have hnp : (0 : Int) ≤ (n : Int) ∧ (n : Int) ≤ 1000 := by omega
  unfold tickW
  have e6 : ((st + n : Nat) : Int) = (st : Int) + (n : Int) := by omega
  have e7 : ((hi + n : Nat) : Int) = (hi : Int) + (n : Int) := by omega
  rw [e6, e7]
  generalize (st : Int) = sp at *
  generalize (hi : Int) = hp at *
  generalize (n : Int) = np at *
  have e5 : wrap64 (sp + np) = sp + np := by unfold wrap64; omega
  have e8 : wrap64 (hp + np) = hp + np := by unfold wrap64; omega
  have hc2 : (w.setCell ⟨mb, 7, none⟩ (.int .i64 (sp + np))).cell? ⟨fb, 4, none⟩ = some (.slice p cl cc) := by
    rw [World.cell?_setCell_far _ _ _ _ (fun e => hne e.symm)]
    exact hc
  cases b
  · go_enter Tryz.func88, Tryz.ntmps88
    go_wp2
    go_end0
    exact ⟨rfl, by simp⟩
  · go_enter Tryz.func88, Tryz.ntmps88
    go_wp2
    go_end0
    exact ⟨rfl, by simp⟩

theorem LayM.ticks {w : World} {B mb : Nat} {A : AdM} {s : Mc} {en : Int} (h : LayM w B mb A s en) (n : Nat) (b : Bool) (hhi : A.g.hi = s.cH) :
    ∃ A' : AdM, LayM (tickW w mb s.steps s.cH n b) B mb A' { s with steps := s.steps + n, cH := s.cH + (if b = true then n else 0) } en ∧ A' = { A with g := { A.g with hi := A'.g.hi } } ∧ A'.g.hi = (s.cH + (if b = true then n else 0) : Nat) ∧ Ch B (fun d => d = 0) A.tag A.tag w (tickW w mb s.steps s.cH n b) := by
  obtain ⟨l1, c1⟩ := h.tick (s.steps + n)
  unfold tickW
  cases b
  · rw [if_neg (by simp)]
    exact ⟨A, l1.like rfl rfl rfl rfl rfl, rfl, by simpa using hhi, c1⟩
  · rw [if_pos rfl]
    obtain ⟨l2, c2⟩ := l1.counted 8 (by omega) (s.cH + n : Nat)
    refine ⟨_, l2.like rfl rfl rfl rfl rfl, rfl, ?_, c1.trans c2⟩
    simp [AdG.cnt]

theorem MSt.count {w : World} {B mb m : Nat} {F : Nat → PF} {MV : Nat → Value} {A : AdM} {s : Mc} {en : Int} (hM : MSt w B mb m F MV A s en) (fb : Nat) (cv : Value) (b : Bool) (hc : w.cell? ⟨fb, 4, none⟩ = some cv) (hcv : CodeV cv b) (hne : ¬ fb = mb) (hb : s.steps ≤ 1000000) (hh : s.cH ≤ 1000000) (n : Nat) (hn : n ≤ 1000) :
    Calls Tryz.prog 88 #[.pointer (some ⟨mb, 0, none⟩), .pointer (some ⟨fb, 0, none⟩), .int .i64 n] w fun e w' => e = .returned (.tuple #[]) ∧ w' = tickW w mb s.steps s.cH n b ∧ Goes w B mb m F MV s.fr.length A { s with steps := s.steps + n, cH := s.cH + (if b = true then n else 0) } en w' := by
  have x7 : w.cell? ⟨mb, 7, none⟩ = some (.int .i64 s.steps) := by rw [cell_heap hM.lay.run]; rfl
  have x8 : w.cell? ⟨mb, 8, none⟩ = some (.int .i64 s.cH) := by rw [cell_heap hM.lay.run, ← hM.cnt.1]; rfl
  refine (countM w mb fb s.steps s.cH n cv b x7 (frozen_heap hM.lay.run) x8 (frozen_heap hM.lay.run) hc hcv hne hb hh hn).mono ?_
  rintro e w' ⟨rfl, rfl⟩
  obtain ⟨A', l1, eA, eH, c1⟩ := hM.lay.ticks n b hM.cnt.1
  have cN : Ch B N5 A.tag A'.tag w (tickW w mb s.steps s.cH n b) := by rw [eA]; exact c1.mono (q := N5) (fun d hd => by unfold N5; omega)
  have hsg : SameG A A' := by rw [eA]; exact ⟨rfl, rfl, rfl⟩
  have hcv' : A'.g.CV = A.g.CV := by rw [eA]
  refine ⟨rfl, rfl, A', hM.ch l1 hM.hl (fun i hi => by rw [hcv']; exact hM.cod i hi) ⟨eH, by rw [eA]; exact hM.cnt.2.1, by rw [eA]; exact hM.cnt.2.2⟩ rfl hsg cN, hsg, cN, fun i _ _ => by unfold AdM.FB; rw [eA], fun i hi => ⟨fun _ => by rw [hcv'], fun h => absurd (show i < s.fr.length from hi) (by omega)⟩⟩

/-- The frame at hand: where its block lies, what code it has. -/
theorem MSt.top {w : World} {B mb m : Nat} {F : Nat → PF} {MV : Nat → Value} {A : AdM} {s : Mc} {en : Int} (hM : MSt w B mb m F MV A s en) {f : Fr} {rest : List Fr} (hs : s.fr = f :: rest) :
    w.cell? ⟨A.FB rest.length, 4, none⟩ = some (A.g.CV rest.length) ∧ ¬ A.FB rest.length = mb ∧ w.cell? ⟨A.FB rest.length, 1, none⟩ = some (.int .i64 f.pc) ∧ w.frozen? ⟨A.FB rest.length, 1, none⟩ = false ∧ w.cell? ⟨A.FB rest.length, 0, none⟩ = some (.int .i64 f.fn) ∧ A.tag (A.FB rest.length) = 10 + 4 * rest.length ∧ A.FB rest.length < w.heap.size := by
  have hlen : s.fr.length = rest.length + 1 := by rw [hs]; rfl
  obtain ⟨g1, g2, g3⟩ := hM.lay.fb rest.length (by omega)
  have e0 : frAt s.fr rest.length = f := by rw [hs]; exact frAt_top _ _
  rw [e0] at g1
  refine ⟨(cell_heap g1).trans rfl, fun e => ?_, (cell_heap g1).trans rfl, frozen_heap g1, (cell_heap g1).trans rfl, g3, heap_lt g1⟩
  rw [e, hM.lay.own.2] at g3
  omega
/-- The gear of the frame at hand. -/
theorem MSt.gear {w : World} {B mb m : Nat} {F : Nat → PF} {MV : Nat → Value} {A : AdM} {s : Mc} {en : Int} (hM : MSt w B mb m F MV A s en) {f : Fr} {rest : List Fr} (hs : s.fr = f :: rest) : CodeV (A.g.CV rest.length) (s.high.headD false) := by
  have hlen : s.fr.length = rest.length + 1 := by rw [hs]; rfl
  have hc := hM.cod rest.length (by omega)
  have hl := hM.hl
  cases hh : s.high with
  | nil => rw [hh] at hl; simp at hl; omega
  | cons b r =>
    rw [hh] at hc hl
    rw [hiAt_top b r (by simp at hl; omega)] at hc
    exact hc

theorem MSt.goto {w : World} {B mb m : Nat} {F : Nat → PF} {MV : Nat → Value} {A : AdM} {s : Mc} {en : Int} (hM : MSt w B mb m F MV A s en) {f : Fr} {rest : List Fr} (hs : s.fr = f :: rest) (pc : Nat) : Goes w B mb m F MV s.fr.length A { s with fr := { f with pc := pc } :: rest } en (w.setCell ⟨A.FB rest.length, 1, none⟩ (.int .i64 pc)) := by
  obtain ⟨l1, c1⟩ := hM.lay.goto hs pc
  exact hM.aft ⟨A, l1, rfl, c1.mono (q := N5) (fun _ => tk_n5)⟩ ⟨by rw [hs]; rfl, rfl, rfl, rfl, rfl, rfl⟩

theorem Goes.then_ {w w1 w' : World} {B mb m n0 : Nat} {F : Nat → PF} {MV : Nat → Value} {A A1 : AdM} {s1 s' : Mc} {en : Int} (hn : s1.fr.length = n0) (hg : SameG A A1) (hc : Ch B N5 A.tag A1.tag w w1) (hf : ∀ i, A1.FB i = A.FB i) (hcv : ∀ i, i < n0 → A1.g.CV i = A.g.CV i) (h : Goes w1 B mb m F MV s1.fr.length A1 s' en w') : Goes w B mb m F MV n0 A s' en w' := by
  obtain ⟨A', h1, h2, h3, h4, h5⟩ := h
  subst hn
  exact ⟨A', h1, hg.trans h2, hc.trans h3, fun i hi hn => (h4 i hi hn).trans (hf i), fun i hi => ⟨fun h => ((h5 i hi).1 h).trans (hcv i h), (h5 i hi).2⟩⟩

set_option maxRecDepth 100000 in
set_option maxHeartbeats 1000000 in
theorem MSt.pass {w : World} {B mb m : Nat} {F : Nat → PF} {MV : Nat → Value} {A : AdM} {s : Mc} {en : Int} (hM : MSt w B mb m F MV A s en) {f : Fr} {rest : List Fr} (hs : s.fr = f :: rest) (hb : s.steps ≤ 1000000) (hh : s.cH ≤ 1000000) (hpc : f.pc ≤ 1000) (n : Nat) (hn : n ≤ 1000) :
    Calls Tryz.prog 122 #[.pointer (some ⟨mb, 0, none⟩), .pointer (some ⟨A.FB rest.length, 0, none⟩), .int .i64 n] w fun e w' => e = .returned (.tuple #[]) ∧ Goes w B mb m F MV s.fr.length A { s with steps := s.steps + n, cH := s.cH + (if s.high.headD false = true then n else 0), fr := { f with pc := f.pc + n } :: rest } en w' := by
  obtain ⟨t1, t2, t3, t4, _, _, _⟩ := hM.top hs
  have hcg := hM.gear hs
  have HC := hid (hM.count (A.FB rest.length) _ _ t1 hcg t2 hb hh n hn)
  obtain ⟨A', l1, eA, eH, c1⟩ := hM.lay.ticks n (s.high.headD false) hM.cnt.1
  have cN : Ch B N5 A.tag A'.tag w (tickW w mb s.steps s.cH n (s.high.headD false)) := by rw [eA]; exact c1.mono (q := N5) (fun d hd => by unfold N5; omega)
  have hsg : SameG A A' := by rw [eA]; exact ⟨rfl, rfl, rfl⟩
  have hcv' : A'.g.CV = A.g.CV := by rw [eA]
  have hfb : ∀ i, A'.FB i = A.FB i := fun i => by unfold AdM.FB; rw [eA]
  have hM1 := hM.ch l1 hM.hl (fun i hi => by rw [hcv']; exact hM.cod i hi) ⟨eH, by rw [eA]; exact hM.cnt.2.1, by rw [eA]; exact hM.cnt.2.2⟩ rfl hsg cN
  obtain ⟨_, _, u3, u4, _, _, _⟩ := hM1.top hs
  have hg := hM1.goto hs (f.pc + n)
  rw [hfb] at hg u3 u4
  have e6 : ((f.pc + n : Nat) : Int) = (f.pc : Int) + (n : Int) := by omega
  rw [e6] at hg
  have HQ := hid (Goes.then_ (n0 := s.fr.length) rfl hsg cN hfb (fun i _ => by rw [hcv']) hg)
  clear hM hM1 l1 c1 cN hg t1 t2 t3 t4 e6 hsg hcv' hfb eA eH hcg
  generalize A.FB rest.length = fb at *
  generalize tickW w mb s.steps s.cH n (s.high.headD false) = W at *
  have hp0 : 0 ≤ (f.pc : Int) ∧ (f.pc : Int) ≤ 1000 := by omega
  have hnp : (0 : Int) ≤ (n : Int) ∧ (n : Int) ≤ 1000 := by omega
  obtain ⟨pcl, hpcl⟩ : ∃ pcl, pcl = (f.pc : Int) := ⟨_, rfl⟩
  obtain ⟨np, hnl⟩ : ∃ np, np = (n : Int) := ⟨_, rfl⟩
  rw [← hpcl] at u3 hp0
  rw [← hnl] at hnp
  have HZ := hid (And.intro hpcl hnl)
  rw [← hnl] at HC ⊢
  have HQ2 : Hid (Goes w B mb m F MV s.fr.length A { s with steps := s.steps + n, cH := s.cH + (if s.high.headD false = true then n else 0), fr := { f with pc := f.pc + n } :: rest } en (W.setCell ⟨fb, 1, none⟩ (.int .i64 (pcl + np)))) := by
    unfold Hid; rw [hpcl, hnl]; exact HQ.out
  clear hpcl hnl hpc hn HQ
  generalize s.fr.length = n0 at *
  generalize ({ s with steps := s.steps + n, cH := s.cH + (if s.high.headD false = true then n else 0), fr := { f with pc := f.pc + n } :: rest } : Mc) = s' at *
  have e5 : wrap64 (pcl + np) = pcl + np := by unfold wrap64; omega
  go_enter Tryz.func122, Tryz.ntmps122
  go_wp2_with fail
  refine HC.out.mono ?_
  rintro e w1 ⟨rfl, hw1, hjk⟩
  clear hjk
  rw [hw1]
  clear hw1 w1
  go_wp2
  go_end0
  exact ⟨rfl, HQ2.out⟩
end Go.Proofs.YtkafkipjedpohaaGreatDoor

/-
  The project's machine: branch; turn: Jump, Branch, Call, Return.
-/
namespace Go.Proofs.YtkafkipjedpohaaGreatDoor
open Go.RowKit

theorem lexW_skip {P : Program} {ops : Array Oper} {Q : Exit → Act → World → Prop} {S : World → Prop} {i : Nat} {o : Oper} {r : List (Bool × Nat × Oper)} {a : Act} {w : World} (hw : Region.wanted o (yielded ops a.tmps) = false)
    (h : LexG P ops Q S r (a.put o.dst undef) w) : LexG P ops Q S ((false, i, o) :: r) a w := ⟨fun hall => ⟨o, undef, hall _ List.mem_cons_self, Or.inr ⟨hw, rfl⟩, h.out (fun t ht => hall t (List.mem_cons_of_mem _ ht))⟩⟩

theorem cell4_set {w : World} {b : Nat} {x : Value} (h : w.cell? ⟨b, 4, none⟩ = some x) (v : Value) : (w.setCell ⟨b, 1, none⟩ v).cell? ⟨b, 4, none⟩ = some x :=
  (World.cell?_setCell_other w _ _ v (by simp)).trans h

theorem zero_is {v : V} (h0 : v.k = 0 → v.n = 0) : zeroP v = (decide (v.k = 0 ∧ v.n = 0) || decide (v.k = 1 ∧ v.n = 0)) := by
  unfold zeroP
  by_cases h : v.k = 0
  · simp [h, h0 h]
  · simp [h]

theorem MSt.like {w : World} {B mb m : Nat} {F : Nat → PF} {MV : Nat → Value} {A : AdM} {s s' : Mc} {en : Int} (h : MSt w B mb m F MV A s en) (e1 : s'.fr = s.fr) (e2 : s'.arr = s.arr) (e3 : s'.out = s.out) (e4 : s'.gives = s.gives) (e5 : s'.steps = s.steps) (e6 : s'.high = s.high) (e7 : s'.made = s.made) (e8 : s'.cH = s.cH) (e9 : s'.cU = s.cU) (e10 : s'.cD = s.cD) : MSt w B mb m F MV A s' en :=
  ⟨h.lay.like e1 e2 e3 e4 e5, by rw [e1, e6]; exact h.hl, by rw [e1, e6]; exact h.cod, by rw [e8, e9, e10]; exact h.cnt, h.made, by rw [e7]; exact h.mds, h.pg, h.le⟩
theorem Goes.like {w w' : World} {B mb m n0 : Nat} {F : Nat → PF} {MV : Nat → Value} {A : AdM} {s s' : Mc} {en : Int} (h : Goes w B mb m F MV n0 A s en w') (e1 : s'.fr = s.fr) (e2 : s'.arr = s.arr) (e3 : s'.out = s.out) (e4 : s'.gives = s.gives) (e5 : s'.steps = s.steps) (e6 : s'.high = s.high) (e7 : s'.made = s.made) (e8 : s'.cH = s.cH) (e9 : s'.cU = s.cU) (e10 : s'.cD = s.cD) : Goes w B mb m F MV n0 A s' en w' := by
  obtain ⟨A3, m3, s3, c3, f3, v3⟩ := h
  exact ⟨A3, m3.like e1 e2 e3 e4 e5 e6 e7 e8 e9 e10, s3, c3, by rw [e1]; exact f3, by rw [e1]; exact v3⟩
theorem MSt.box {w : World} {B mb m : Nat} {F : Nat → PF} {MV : Nat → Value} {A : AdM} {s : Mc} {en : Int} (hM : MSt w B mb m F MV A s en) (c : Array Value) (t : TypeId) : ∃ A1 : AdM, MSt (w.alloc (.cells c t)) B mb m F MV A1 s en ∧ A1.g = A.g ∧ A1.tag w.heap.size = 5 ∧ Ch B N5 A.tag A1.tag w (w.alloc (.cells c t)) := by
  have hbl : Below w.heap.size w (w.alloc (.cells c t)) := (Below.refl _ _).alloc (Nat.le_refl _) _
  have hc : Ch B N5 A.tag (upd A.tag w.heap.size 5) w (w.alloc (.cells c t)) := Ch.of_tags hbl (fun b hb => upd_other _ _ _ _ (by omega))
  exact ⟨_, hM.same (hM.lay.box _) rfl hc ⟨rfl, rfl, rfl, rfl, rfl, rfl⟩, rfl, upd_same _ _ _, hc⟩
theorem MSt.below {w w' : World} {B mb m : Nat} {F : Nat → PF} {MV : Nat → Value} {A : AdM} {s : Mc} {en : Int} (hM : MSt w B mb m F MV A s en) (h : Below w.heap.size w w') : MSt w' B mb m F MV A s en := hM.same (hM.lay.below h) rfl (Ch.of_below h) ⟨rfl, rfl, rfl, rfl, rfl, rfl⟩

set_option maxRecDepth 100000 in
set_option maxHeartbeats 1000000 in
theorem MSt.branch {w : World} {B mb m : Nat} {F : Nat → PF} {MV : Nat → Value} {A : AdM} {s : Mc} {en : Int} (hM : MSt w B mb m F MV A s en) {f : Fr} {rest : List Fr} (hs : s.fr = f :: rest) (v : V) (h0 : v.k = 0 → v.n = 0) (to : Nat) (hpc : f.pc ≤ 1000) :
    Calls Tryz.prog 128 #[.pointer (some ⟨A.FB rest.length, 0, none⟩), .agg #[.int .i64 v.k, .int .i64 v.n], .int .i64 to] w fun e w' => e = .returned (.tuple #[]) ∧ Goes w B mb m F MV s.fr.length A { s with fr := { f with pc := if zeroP v = true then to else f.pc + 1 } :: rest } en w' ∧ w'.cell? ⟨A.FB rest.length, 4, none⟩ = some (A.g.CV rest.length) := by
  obtain ⟨A1, hM1, hg1, ht1, hc1⟩ := hM.box #[.int .i64 v.k, .int .i64 v.n] 43
  have hfb1 : A1.FB rest.length = A.FB rest.length := by unfold AdM.FB; rw [hg1]
  have hz := zero_is h0
  generalize hz1 : decide (v.k = 0 ∧ v.n = 0) = z1 at hz
  generalize hz2 : decide (v.k = 1 ∧ v.n = 0) = z2 at hz
  have heq1 := eqlVal v ⟨0, 0⟩ z1 (by rw [← hz1])
  have heq2 := eqlVal v ⟨1, 0⟩ z2 (by rw [← hz2])
  rw [hz]
  have HG := hid (fun (X : World) (hX : Below (w.alloc (.cells #[.int .i64 v.k, .int .i64 v.n] 43)).heap.size (w.alloc (.cells #[.int .i64 v.k, .int .i64 v.n] 43)) X) (pc : Nat) => (show Goes w B mb m F MV s.fr.length A { s with fr := { f with pc := pc } :: rest } en (X.setCell ⟨A.FB rest.length, 1, none⟩ (.int .i64 pc)) ∧ (X.setCell ⟨A.FB rest.length, 1, none⟩ (.int .i64 pc)).cell? ⟨A.FB rest.length, 4, none⟩ = some (A.g.CV rest.length) from by
    have := (hM1.below hX).goto hs pc
    have h4 := ((hM1.below hX).top hs).1
    rw [hfb1] at this h4
    rw [hg1] at h4
    exact ⟨Goes.on hg1 (hc1.trans' hX) this, cell4_set h4 _⟩))
  have HT := hid (fun (X : World) (hX : Below (w.alloc (.cells #[.int .i64 v.k, .int .i64 v.n] 43)).heap.size (w.alloc (.cells #[.int .i64 v.k, .int .i64 v.n] 43)) X) => (show X.cell? ⟨A.FB rest.length, 1, none⟩ = some (.int .i64 f.pc) ∧ X.frozen? ⟨A.FB rest.length, 1, none⟩ = false from by
    obtain ⟨_, _, u3, u4, _⟩ := (hM1.below hX).top hs
    rw [hfb1] at u3 u4
    exact ⟨u3, u4⟩))
  have hb : (w.alloc (.cells #[.int .i64 v.k, .int .i64 v.n] 43)).heap[w.heap.size]? = some (.cells #[.int .i64 v.k, .int .i64 v.n] 43 (0, 0)) := Go.Deep.blk_alloc_new _ _
  have HB := hid hb
  clear hM hM1 hg1 ht1 hc1 hfb1 hz hz1 hz2 hb
  generalize A.FB rest.length = fb at *
  generalize A.g.CV rest.length = cvt at *
  generalize hn0 : s.fr.length = n0 at *
  clear hn0
  have hp0 : 0 ≤ (f.pc : Int) ∧ (f.pc : Int) ≤ 1000 := by omega
  have epc : ((f.pc + 1 : Nat) : Int) = (f.pc : Int) + 1 := by omega
  have e5 : wrap64 ((f.pc : Int) + 1) = (f.pc : Int) + 1 := by unfold wrap64; omega
  go_enter Tryz.func128, Tryz.ntmps128
  go_wp2_with fail
  generalize w.alloc (.cells #[.int .i64 v.k, .int .i64 v.n] 43) = W at *
  have hS0 : Hb [(w.heap.size, #[Value.int .i64 v.k, Value.int .i64 v.n], 43)] W.drew := fun t ht => by
    obtain rfl : t = (w.heap.size, #[Value.int .i64 v.k, Value.int .i64 v.n], 43) := by simpa using ht
    exact HB.out
  cases z1
  · refine region_lex (Hb [(w.heap.size, #[Value.int .i64 v.k, Value.int .i64 v.n], 43)]) [(false, 0), (false, 1), (false, 2), (false, 3), (false, 4), (true, 5), (false, 6), (false, 7)] (by kernel_rfl) (by kernel_rfl) (panic_frame _ _ _) hS0 ?_
    have S0 := hid hS0
    clear hS0
    simp only [lexL, List.getElem?_cons_zero, List.getElem?_cons_succ]
    iterate 5 (refine lexW_free (by rfl) (by intro w' hS'; obtain ⟨y0, y1, _, _⟩ := hS'.two List.mem_cons_self; clear hS'; go_simp; exact rfl) ?_; simp only [Act.put, List.setIfInBounds_toArray, List.set_cons_zero, List.set_cons_succ])
    refine lexW_sole (fun K hK => ?_)
    go_simp
    refine (numberB _ _).mono ?_
    rintro e w2 ⟨rfl, k2⟩
    have hX : Below W.heap.size W w2 := (Below.refl _ _).drew.trans k2
    have HX := hid hX
    refine hK.out _ _ (S0.out.below k2) ?_
    clear hK K k2 hX
    iterate 2 (refine lexW_free (by rfl) (by intro w' hS'; clear hS'; go_simp; exact rfl) ?_; simp only [Act.put, List.setIfInBounds_toArray, List.set_cons_zero, List.set_cons_succ])
    refine lexW_done ?_
    obtain ⟨u3, u4⟩ := HT.out w2 HX.out
    cases z2
    · have HQ := hid (HG.out w2 HX.out (f.pc + 1))
      rw [epc] at HQ
      go_wp2
      go_end0
      exact ⟨rfl, HQ.out⟩
    · have HQ := hid (HG.out w2 HX.out to)
      go_wp2
      go_end0
      exact ⟨rfl, HQ.out⟩
  · refine region_lex (Hb [(w.heap.size, #[Value.int .i64 v.k, Value.int .i64 v.n], 43)]) [(false, 0), (false, 1), (false, 2), (false, 3), (false, 4), (false, 5), (false, 6), (false, 7)] (by kernel_rfl) (by kernel_rfl) (panic_frame _ _ _) hS0 ?_
    clear hS0
    simp only [lexL, List.getElem?_cons_zero, List.getElem?_cons_succ]
    iterate 4 (refine lexW_free (by rfl) (by intro w' hS'; obtain ⟨y0, y1, _, _⟩ := hS'.two List.mem_cons_self; clear hS'; go_simp; exact rfl) ?_; simp only [Act.put, List.setIfInBounds_toArray, List.set_cons_zero, List.set_cons_succ])
    iterate 3 (refine lexW_skip (by rfl) ?_; simp only [Act.put, List.setIfInBounds_toArray, List.set_cons_zero, List.set_cons_succ])
    refine lexW_free (by rfl) (by intro w' hS'; clear hS'; go_simp; exact rfl) ?_
    simp only [Act.put, List.setIfInBounds_toArray, List.set_cons_zero, List.set_cons_succ]
    refine lexW_done ?_
    have hX : Below W.heap.size W W.drew := (Below.refl _ _).drew
    obtain ⟨u3, u4⟩ := HT.out W.drew hX
    have HQ := hid (HG.out W.drew hX to)
    clear hX
    go_wp2
    go_end0
    exact ⟨rfl, HQ.out⟩

/-- What turn leaves. -/
def TurnE (w : World) (B mb m : Nat) (F : Nat → PF) (MV : Nat → Value) (n0 : Nat) (A : AdM) (k : Nat) (s' : Mc) (en : Int) (e : Ending) (w' : World) : Prop :=
  e = .returned (.tuple #[]) ∧ Goes w B mb m F MV n0 A s' en w' ∧ w'.cell? ⟨A.FB k, 4, none⟩ = some (A.g.CV k)

set_option maxRecDepth 100000 in
set_option maxHeartbeats 1000000 in
theorem turn_jump {w : World} {B mb m : Nat} {F : Nat → PF} {MV : Nat → Value} {A : AdM} {s : Mc} {en : Int} (hM : MSt w B mb m F MV A s en) {f : Fr} {rest : List Fr} (hs : s.fr = f :: rest) (to : Nat) :
    Calls Tryz.prog 120 #[.pointer (some ⟨mb, 0, none⟩), .pointer (some ⟨A.FB rest.length, 0, none⟩), .agg #[.int .i64 10, .int .i64 to]] w (TurnE w B mb m F MV s.fr.length A rest.length { s with fr := { f with pc := to } :: rest } en) := by
  obtain ⟨A1, hM1, hg1, ht1, hc1⟩ := hM.box #[.int .i64 10, .int .i64 to] 33
  have hfb1 : A1.FB rest.length = A.FB rest.length := fb_of hg1 _
  have hgo := hM1.goto hs to
  obtain ⟨h4, _, u3, u4, _⟩ := hM1.top hs
  rw [hfb1] at hgo h4 u3 u4
  rw [hg1] at h4
  have HQ := hid (And.intro (Goes.on hg1 hc1 hgo) (cell4_set h4 (.int .i64 to)))
  clear hM hM1 hg1 ht1 hc1 hfb1 hgo h4
  unfold TurnE
  generalize A.FB rest.length = fb at *
  generalize A.g.CV rest.length = cvt at *
  generalize hn0 : s.fr.length = n0 at *
  clear hn0
  go_enter Tryz.func120, Tryz.ntmps120
  go_wp2
  go_end0
  exact ⟨rfl, HQ.out⟩

set_option maxRecDepth 100000 in
set_option maxHeartbeats 1000000 in
theorem turn_branch {w : World} {B mb m : Nat} {F : Nat → PF} {MV : Nat → Value} {A : AdM} {s : Mc} {en : Int} (hM : MSt w B mb m F MV A s en) {f : Fr} {rest : List Fr} (hs : s.fr = f :: rest) {v : V} {st : List V} (hst : f.stk = v :: st) (hn : st.length ≤ 60) (h0 : v.k = 0 → v.n = 0) (to : Nat) (hpc : f.pc ≤ 1000) :
    Calls Tryz.prog 120 #[.pointer (some ⟨mb, 0, none⟩), .pointer (some ⟨A.FB rest.length, 0, none⟩), .agg #[.int .i64 11, .int .i64 to]] w (TurnE w B mb m F MV s.fr.length A rest.length { s with fr := { f with stk := st, pc := if zeroP v = true then to else f.pc + 1 } :: rest } en) := by
  have H0 := hid ((Cur.start hM.lay hM.le).box #[.int .i64 11, .int .i64 to] 33)
  have HM := hid hM
  generalize hfb : A.FB rest.length = fb
  have HF := hid hfb
  clear hM hfb
  generalize hS' : ({ s with fr := { f with stk := st, pc := if zeroP v = true then to else f.pc + 1 } :: rest } : Mc) = s'
  generalize hn0 : s.fr.length = n0
  have HN0 := hid hn0
  clear hn0
  have HS := hid hS'
  clear hS'
  go_enter Tryz.func120, Tryz.ntmps120
  go_wp2_with fail
  generalize w.alloc (.cells #[.int .i64 11, .int .i64 to] 33) = W at *
  have H1 := hid H0.out.drew
  clear H0
  refine region_lex (Hb [(w.heap.size, #[Value.int .i64 11, Value.int .i64 to], 33)]) [(false, 0), (false, 1), (false, 2), (false, 3), (false, 5), (false, 6), (true, 4), (true, 7)] (by kernel_rfl) (by kernel_rfl) (panic_block _ _ _) H1.out.hb ?_
  simp only [lexL, List.getElem?_cons_zero, List.getElem?_cons_succ]
  iterate 6 (refine lexW_free (by rfl) (by intro w' hS'; obtain ⟨y0, y1, _, _⟩ := hS'.two List.mem_cons_self; clear hS'; go_simp; exact rfl) ?_; simp only [Act.put, List.setIfInBounds_toArray, List.set_cons_zero, List.set_cons_succ])
  generalize W.drew = w1 at H1 ⊢
  refine lexW_sole (fun K hK => ?_)
  go_simp
  have hp := H1.out.pop hs hst (by omega)
  rw [HF.out] at hp
  refine hp.mono ?_
  rintro e w2 ⟨rfl, c2⟩
  have H2 := hid c2
  refine hK.out _ _ c2.hb ?_
  clear hK K hp c2 H1
  refine lexW_sole (fun K hK => ?_)
  go_simp
  obtain ⟨_, A2, l2, g2, c2, b2⟩ := H2.out
  have hM2 : MSt w2 B mb m F MV A2 { s with fr := { f with stk := st } :: rest } en := HM.out.same l2 g2 c2 ⟨by rw [hs]; rfl, rfl, rfl, rfl, rfl, rfl⟩
  have hbr := hM2.branch (f := { f with stk := st }) (rest := rest) rfl v h0 to hpc
  have hfb2 : A2.FB rest.length = fb := (fb_of g2 _).trans HF.out
  rw [hfb2] at hbr
  refine hbr.mono ?_
  rintro e w3 ⟨rfl, g3, k3⟩
  have HQ := hid (show TurnE w B mb m F MV n0 A rest.length s' en (.returned (.tuple #[])) w3 from by
    rw [← HS.out, ← HN0.out, hs]
    rw [g2] at k3
    exact ⟨rfl, Goes.on g2 c2 g3, by rw [HF.out]; exact k3⟩)
  obtain ⟨A3, m3, _, c3, _⟩ := g3
  have hb3 : Hb [(w.heap.size, #[Value.int .i64 11, Value.int .i64 to], 33)] w3 := fun t ht => (b2.keep c3 n55 t ht).1
  refine hK.out _ _ hb3 ?_
  clear hK K hbr l2 g2 c2 b2 hM2 m3 c3 hb3 k3
  refine lexW_done ?_
  go_wp2
  go_end0
  exact HQ.out

set_option maxRecDepth 100000 in
set_option maxHeartbeats 1000000 in
theorem turn_return {w : World} {B mb m : Nat} {F : Nat → PF} {MV : Nat → Value} {A : AdM} {s : Mc} {en : Int} (hM : MSt w B mb m F MV A s en) {f : Fr} {rest : List Fr} (hs : s.fr = f :: rest) {v : V} {st : List V} (hst : f.stk = v :: st) (hn : st.length ≤ 60) (hg : ∀ g, g ∈ rest → g.stk.length ≤ 60) (hr : rest.length ≤ 60) (n : Int) :
    Calls Tryz.prog 120 #[.pointer (some ⟨mb, 0, none⟩), .pointer (some ⟨A.FB rest.length, 0, none⟩), .agg #[.int .i64 14, .int .i64 n]] w (TurnE w B mb m F MV s.fr.length A rest.length (returnP f rest s) en) := by
  have H0 := hid ((Cur.start hM.lay hM.le).box #[.int .i64 14, .int .i64 n] 33)
  have HM := hid hM
  generalize hfb : A.FB rest.length = fb
  have HF := hid hfb
  clear hM hfb
  generalize hS' : returnP f rest s = s'
  generalize hn0 : s.fr.length = n0
  have HN0 := hid hn0
  clear hn0
  have HS := hid hS'
  clear hS'
  go_enter Tryz.func120, Tryz.ntmps120
  go_wp2_with fail
  generalize w.alloc (.cells #[.int .i64 14, .int .i64 n] 33) = W at *
  have hp := H0.out.pop hs hst (by omega)
  rw [HF.out] at hp
  refine hp.mono ?_
  rintro e w2 ⟨rfl, _, A2, l2, g2, c2, b2⟩
  have hM2 : MSt w2 B mb m F MV A2 { s with fr := { f with stk := st } :: rest } en := HM.out.same l2 g2 c2 ⟨by rw [hs]; rfl, rfl, rfl, rfl, rfl, rfl⟩
  have hfb2 : A2.FB rest.length = fb := (fb_of g2 _).trans HF.out
  have h4 := (hM2.top rfl).1
  rw [hfb2, g2] at h4
  have H2 := hid (And.intro hM2 (And.intro g2 (And.intro c2 h4)))
  have HF2 := hid hfb2
  clear l2 g2 c2 b2 hM2 hp H0 h4 hfb2
  cases rest with
  | nil =>
    have hrp : returnP f [] s = { s with fr := [], high := s.high.drop 1, gives := v, fin := 1 } := by simp [returnP, hst]
    have HR := hid (hrp.symm.trans HS.out)
    clear hrp
    have HG := hid (giveBackEnd w2 B mb m F MV A2 _ en { f with stk := st } v H2.out.1 rfl)
    clear hst
    go_wp2_with fail
    refine HG.out.mono ?_
    rintro e w3 ⟨rfl, g3, k3⟩
    obtain ⟨A3, m3, s3, c3, f3, v3⟩ := Goes.on H2.out.2.1 H2.out.2.2.1 g3
    have k4 : w3.cell? ⟨fb, 4, none⟩ = some (A.g.CV 0) := by
      have e := HF2.out
      simp only [List.length_nil] at e
      rw [e] at k3
      exact k3.trans H2.out.2.2.2
    have HQ := hid (show TurnE w B mb m F MV n0 A ([] : List Fr).length s' en (.returned (.tuple #[])) w3 from by
      rw [← HR.out, ← HN0.out, hs]
      refine ⟨rfl, ⟨A3, m3.like rfl rfl rfl rfl rfl rfl rfl rfl rfl rfl, s3, c3, f3, v3⟩, ?_⟩
      rw [HF.out]
      exact k4)
    clear g3 k3 k4 m3 c3 f3 v3
    go_wp2
    go_end0
    exact HQ.out
  | cons g r =>
    have hrp : returnP f (g :: r) s = { s with fr := { g with stk := v :: g.stk } :: r, high := s.high.drop 1 } := by simp [returnP, hst]
    have HR := hid (hrp.symm.trans HS.out)
    clear hrp
    have HG := hid (giveBackMid w2 B mb m F MV A2 _ en { f with stk := st } g r v H2.out.1 rfl (hg g List.mem_cons_self) (by simp at hr; omega))
    clear hst
    go_wp2_with fail
    refine HG.out.mono ?_
    rintro e w3 ⟨rfl, g3, k3⟩
    obtain ⟨A3, m3, s3, c3, f3, v3⟩ := Goes.on H2.out.2.1 H2.out.2.2.1 g3
    have k4 : w3.cell? ⟨fb, 4, none⟩ = some (A.g.CV (r.length + 1)) := by
      have e := HF2.out
      simp only [List.length_cons] at e
      rw [e] at k3
      exact k3.trans H2.out.2.2.2
    have HQ := hid (show TurnE w B mb m F MV n0 A (g :: r).length s' en (.returned (.tuple #[])) w3 from by
      rw [← HR.out, ← HN0.out, hs]
      refine ⟨rfl, ⟨A3, m3.like rfl rfl rfl rfl rfl rfl rfl rfl rfl rfl, s3, c3, f3, v3⟩, ?_⟩
      rw [HF.out]
      exact k4)
    clear g3 k3 k4 m3 c3 f3 v3
    go_wp2
    go_end0
    exact HQ.out
end Go.Proofs.YtkafkipjedpohaaGreatDoor
