import Derived.Test.YtkafkipjedpohaaGreatDoorM18

/-
  The project's machine: count, pass, branch.
-/
namespace Go.Proofs.YtkafkipjedpohaaGreatDoor
open Go.RowKit

/-- Steps more are counted. -/
theorem LayM.tick {w : World} {B mb : Nat} {A : AdM} {s : Mc} {en : Int} (h : LayM w B mb A s en) (n : Nat) :
    LayM (w.setCell ⟨mb, 7, none⟩ (.int .i64 n)) B mb A { s with steps := n } en ∧ Ch B (fun d => d = 0) A.tag A.tag w (w.setCell ⟨mb, 7, none⟩ (.int .i64 n)) := by
  have hc : Ch B (fun d => d = 0) A.tag A.tag w (w.setCell ⟨mb, 7, none⟩ (.int .i64 n)) := Ch.set w _ _ _ h.own.1 h.own.2
  refine ⟨⟨heap_set h.run _, h.own, h.fr.keep hc (by omega), fun i hi => ?_, h.ar.keep hc (by omega), h.out.keep hc (by omega), fun i hi => (h.loc i hi).keep hc (by omega), fun i hi => (h.stk i hi).keep hc (by omega), fun j hj => (h.arr j hj).keep hc (by omega)⟩, hc⟩
  obtain ⟨g1, g2, g3⟩ := h.fb i hi
  obtain ⟨g4, g5⟩ := blk_keep g1 hc (by rw [g3]; omega)
  exact ⟨g4, g2, g5.trans g3⟩

theorem nilSlice (X : World) : (binOp .neq 136 (.slice none 0 0) (.slice none 0 0)).run Tryz.prog X = .ok (.bool false) X := by
  go_simp

set_option maxRecDepth 100000 in
theorem countM (w : World) (mb fb : Nat) (st : Nat) (hst : w.cell? ⟨mb, 7, none⟩ = some (.int .i64 st)) (hz : w.frozen? ⟨mb, 7, none⟩ = false) (hc : w.cell? ⟨fb, 4, none⟩ = some (.slice none 0 0)) (hne : ¬ fb = mb) (hb : st ≤ 1000000) :
    Calls Tryz.prog 88 #[.pointer (some ⟨mb, 0, none⟩), .pointer (some ⟨fb, 0, none⟩), .int .i64 1] w fun e w' => e = .returned (.tuple #[]) ∧ w' = w.setCell ⟨mb, 7, none⟩ (.int .i64 (st + 1 : Nat)) := by
  have hn := nilSlice
  have hsp : (0 : Int) ≤ (st : Int) ∧ (st : Int) ≤ 1000000 := by omega
  have e6 : ((st + 1 : Nat) : Int) = (st : Int) + 1 := by omega
  rw [e6]
  generalize (st : Int) = sp at *
  have e5 : wrap64 (sp + 1) = sp + 1 := by unfold wrap64; omega
  have hc2 : (w.setCell ⟨mb, 7, none⟩ (.int .i64 (sp + 1))).cell? ⟨fb, 4, none⟩ = some (.slice none 0 0) := by
    rw [World.cell?_setCell_far _ _ _ _ (fun e => hne e.symm)]
    exact hc
  go_enter Tryz.func88, Tryz.ntmps88
  go_wp2
  go_end0
  exact ⟨rfl, rfl⟩

theorem MSt.count {w : World} {B mb m : Nat} {F : Nat → PF} {A : AdM} {s : Mc} {en : Int} (hM : MSt w B mb m F A s en) (fb : Nat) (hc : w.cell? ⟨fb, 4, none⟩ = some (.slice none 0 0)) (hne : ¬ fb = mb) (hb : s.steps ≤ 1000000) :
    Calls Tryz.prog 88 #[.pointer (some ⟨mb, 0, none⟩), .pointer (some ⟨fb, 0, none⟩), .int .i64 1] w fun e w' => e = .returned (.tuple #[]) ∧ Goes w B mb m F A { s with steps := s.steps + 1 } en w' := by
  have x7 : w.cell? ⟨mb, 7, none⟩ = some (.int .i64 s.steps) := by rw [cell_heap hM.lay.run]; rfl
  refine (countM w mb fb s.steps x7 (frozen_heap hM.lay.run) hc hne hb).mono ?_
  rintro e w' ⟨rfl, rfl⟩
  obtain ⟨l1, c1⟩ := hM.lay.tick (s.steps + 1)
  have cN := c1.mono (q := N5) (fun d hd => by unfold N5; omega)
  exact ⟨rfl, A, hM.ch l1 hM.low (SameG.refl _) cN, SameG.refl _, cN, fun _ _ => rfl⟩

/-- The frame at hand: where its block lies, and that it is in the low gear. -/
theorem MSt.top {w : World} {B mb m : Nat} {F : Nat → PF} {A : AdM} {s : Mc} {en : Int} (hM : MSt w B mb m F A s en) {f : Fr} {rest : List Fr} (hs : s.fr = f :: rest) :
    w.cell? ⟨A.FB rest.length, 4, none⟩ = some (.slice none 0 0) ∧ ¬ A.FB rest.length = mb ∧ w.cell? ⟨A.FB rest.length, 1, none⟩ = some (.int .i64 f.pc) ∧ w.frozen? ⟨A.FB rest.length, 1, none⟩ = false ∧ w.cell? ⟨A.FB rest.length, 0, none⟩ = some (.int .i64 f.fn) ∧ A.tag (A.FB rest.length) = 10 + 4 * rest.length ∧ A.FB rest.length < w.heap.size := by
  have hlen : s.fr.length = rest.length + 1 := by rw [hs]; rfl
  obtain ⟨g1, g2, g3⟩ := hM.lay.fb rest.length (by omega)
  have e0 : frAt s.fr rest.length = f := by rw [hs]; exact frAt_top _ _
  rw [e0, hM.low _ (by omega)] at g1
  refine ⟨(cell_heap g1).trans rfl, fun e => ?_, (cell_heap g1).trans rfl, frozen_heap g1, (cell_heap g1).trans rfl, g3, heap_lt g1⟩
  rw [e, hM.lay.own.2] at g3
  omega

theorem MSt.goto {w : World} {B mb m : Nat} {F : Nat → PF} {A : AdM} {s : Mc} {en : Int} (hM : MSt w B mb m F A s en) {f : Fr} {rest : List Fr} (hs : s.fr = f :: rest) (pc : Nat) : Goes w B mb m F A { s with fr := { f with pc := pc } :: rest } en (w.setCell ⟨A.FB rest.length, 1, none⟩ (.int .i64 pc)) := by
  obtain ⟨l1, c1⟩ := hM.lay.goto hs pc
  have cN := c1.mono (q := N5) (fun _ => tk_n5)
  exact ⟨A, hM.ch l1 (fun i hi => hM.low i (by rw [hs]; exact hi)) (SameG.refl _) cN, SameG.refl _, cN, fun _ _ => rfl⟩

set_option maxRecDepth 100000 in
set_option maxHeartbeats 1000000 in
theorem MSt.pass {w : World} {B mb m : Nat} {F : Nat → PF} {A : AdM} {s : Mc} {en : Int} (hM : MSt w B mb m F A s en) {f : Fr} {rest : List Fr} (hs : s.fr = f :: rest) (hb : s.steps ≤ 1000000) (hpc : f.pc ≤ 1000) :
    Calls Tryz.prog 122 #[.pointer (some ⟨mb, 0, none⟩), .pointer (some ⟨A.FB rest.length, 0, none⟩), .int .i64 1] w fun e w' => e = .returned (.tuple #[]) ∧ Goes w B mb m F A { s with steps := s.steps + 1, fr := { f with pc := f.pc + 1 } :: rest } en w' := by
  obtain ⟨t1, t2, t3, t4, _, _, _⟩ := hM.top hs
  have x7 : w.cell? ⟨mb, 7, none⟩ = some (.int .i64 s.steps) := by rw [cell_heap hM.lay.run]; rfl
  have HC := hid (countM w mb (A.FB rest.length) s.steps x7 (frozen_heap hM.lay.run) t1 t2 hb)
  obtain ⟨l1, c1⟩ := hM.lay.tick (s.steps + 1)
  have cN := c1.mono (q := N5) (fun d hd => by unfold N5; omega)
  have hM1 := hM.ch l1 hM.low (SameG.refl _) cN
  obtain ⟨_, _, u3, u4, _, _, _⟩ := hM1.top hs
  have hg := hM1.goto hs (f.pc + 1)
  have e6 : ((f.pc + 1 : Nat) : Int) = (f.pc : Int) + 1 := by omega
  rw [e6] at hg
  have HQ := hid (Goes.on (SameG.refl _) cN (fun _ => rfl) hg)
  clear hM hM1 l1 c1 cN hg x7 t1 t2 t3 t4 e6
  generalize A.FB rest.length = fb at *
  generalize w.setCell ⟨mb, 7, none⟩ (.int .i64 (s.steps + 1 : Nat)) = W at *
  have hp0 : 0 ≤ (f.pc : Int) ∧ (f.pc : Int) ≤ 1000 := by omega
  generalize (f.pc : Int) = pcl at *
  have e5 : wrap64 (pcl + 1) = pcl + 1 := by unfold wrap64; omega
  go_enter Tryz.func122, Tryz.ntmps122
  go_wp2_with fail
  refine HC.out.mono ?_
  rintro e w1 ⟨rfl, hw1⟩
  rw [hw1]
  clear hw1 w1
  go_wp2
  go_end0
  exact ⟨rfl, HQ.out⟩
end Go.Proofs.YtkafkipjedpohaaGreatDoor
