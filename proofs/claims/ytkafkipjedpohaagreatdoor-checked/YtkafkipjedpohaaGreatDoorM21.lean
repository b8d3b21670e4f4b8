import Derived.Test.YtkafkipjedpohaaGreatDoorM20

/-
  The project's machine: turn: Call; step.
-/
namespace Go.Proofs.YtkafkipjedpohaaGreatDoor
open Go.RowKit

theorem Goes.like {w w' : World} {B mb m : Nat} {F : Nat → PF} {A : AdM} {s s' : Mc} {en : Int} (h : Goes w B mb m F A s en w') (e1 : s'.fr = s.fr) (e2 : s'.arr = s.arr) (e3 : s'.out = s.out) (e4 : s'.gives = s.gives) (e5 : s'.steps = s.steps) : Goes w B mb m F A s' en w' := by
  obtain ⟨A3, m3, s3, c3, f3⟩ := h
  exact ⟨A3, ⟨m3.lay.like e1 e2 e3 e4 e5, by rw [e1]; exact m3.low, m3.made, m3.pg, m3.le⟩, s3, c3, by rw [e1]; exact f3⟩

/-- What a step, or a part of one, leaves: a trap, or not. -/
def StepE (w : World) (B mb m : Nat) (F : Nat → PF) (A : AdM) (s' : Mc) (n : Nat) (en : Int) (e : Ending) (w' : World) : Prop :=
  (3 ≤ s'.fin ∧ e = trapE s'.fin ∧ Goes w B mb m F A { s' with steps := n } en w') ∨ (s'.fin < 3 ∧ e = .returned (.tuple #[]) ∧ Goes w B mb m F A s' en w')

set_option maxRecDepth 100000 in
set_option maxHeartbeats 1000000 in
theorem turn_call {w : World} {B mb m : Nat} {F : Nat → PF} {A : AdM} {s : Mc} {en : Int} (hM : MSt w B mb m F A s en) {f : Fr} {rest : List Fr} (hs : s.fr = f :: rest) (xs r : List V) (g : V) (cnt : Nat) (hst : f.stk = xs ++ g :: r) (hxs : xs.length = cnt) (hcnt : cnt ≤ 8) (hr : r.length ≤ 20) (hg : g.k = 3 → 0 ≤ g.n ∧ g.n < m) (hfun : ∀ k, k < m → 0 ≤ (F k).locals ∧ (F k).locals ≤ 8 ∧ (F k).args ≤ (F k).locals) (hfr : rest.length ≤ 30) (hm : m ≤ 8) (hpc : f.pc ≤ 64) (h0 : s.fin = 0) :
    Calls Tryz.prog 120 #[.pointer (some ⟨mb, 0, none⟩), .pointer (some ⟨A.FB rest.length, 0, none⟩), .agg #[.int .i64 13, .int .i64 cnt]] w fun e w' =>
      (3 ≤ (callP F cnt f rest s).fin ∧ e = trapE (callP F cnt f rest s).fin ∧ Goes w B mb m F A (callP F cnt f rest s) en w') ∨ ((callP F cnt f rest s).fin = 0 ∧ TurnE w B mb m F A rest.length (callP F cnt f rest s) en e w') := by
  obtain ⟨A1, hM1, hg1, ht1, hc1⟩ := hM.box #[.int .i64 13, .int .i64 cnt] 33
  have hfb1 : A1.FB rest.length = A.FB rest.length := fb_of hg1 _
  have hcall := callM _ B mb m A1 s en F f rest xs r g cnt hM1 hs hst hxs hcnt hr hg hfun hfr hm hpc
  rw [hfb1] at hcall
  have hd : f.stk.drop cnt = g :: r := by rw [hst, List.drop_append_of_le_length (by omega), List.drop_of_length_le (by omega)]; rfl
  have ht : f.stk.take cnt = xs := by rw [hst, List.take_append_of_le_length (by omega), List.take_of_length_le (by omega)]
  have hcp : callP F cnt f rest s = if g.k ≠ 3 ∨ (F g.n.toNat).args ≠ cnt then { s with fr := { f with stk := r } :: rest, fin := 6 } else if 24 ≤ rest.length + 1 then { s with fr := { f with stk := r } :: rest, fin := 7 } else { s with fr := { fn := g.n.toNat, pc := 0, loc := xs.reverse ++ List.replicate ((F g.n.toNat).locals.toNat - cnt) vnil, stk := [] } :: { f with pc := f.pc + 1, stk := r } :: rest, high := s.made g.n.toNat :: s.high } := by
    unfold callP
    rw [hd, ht]
  have hfbne := (hM.top hs).2.1
  have HC := hid (And.intro hcall (And.intro hcp (And.intro hg1 hc1)))
  generalize callP F cnt f rest s = s' at *
  have HF : Hid (A.FB rest.length = A.FB rest.length) := rfl
  clear hM hM1 hg1 ht1 hc1 hfb1 hcall hcp hd ht hst
  generalize hfb : A.FB rest.length = fb at *
  go_enter Tryz.func120, Tryz.ntmps120
  go_wp2_with fail
  refine HC.out.1.mono ?_
  obtain ⟨_, hcp, hg1, hc1⟩ := HC.out
  rintro e w3 (⟨k1, rfl, g3⟩ | ⟨k1, k2, rfl, g3⟩ | ⟨k1, k2, rfl, g3⟩)
  · have e1 := hcp.trans (if_pos k1)
    refine ⟨rfl, Or.inl ⟨by rw [e1]; show (3 : Int) ≤ 6; decide, by rw [e1]; rfl, ?_⟩⟩
    rw [e1]
    exact (Goes.on (SameG.of hg1) hc1 (fb_of hg1) g3).like rfl rfl rfl rfl rfl
  · have e1 := hcp.trans ((if_neg k1).trans (if_pos k2))
    refine ⟨rfl, Or.inl ⟨by rw [e1]; show (3 : Int) ≤ 7; decide, by rw [e1]; rfl, ?_⟩⟩
    rw [e1]
    exact (Goes.on (SameG.of hg1) hc1 (fb_of hg1) g3).like rfl rfl rfl rfl rfl
  · have e1 := hcp.trans ((if_neg k1).trans (if_neg k2))
    have g4 := Goes.on (SameG.of hg1) hc1 (fb_of hg1) g3
    have k4 : w3.cell? ⟨fb, 4, none⟩ = some (.slice none 0 0) := by
      obtain ⟨A3, m3, s3, c3, f3⟩ := g4
      have e3 := f3 rest.length (by simp)
      obtain ⟨q1, q2, q3⟩ := m3.lay.fb rest.length (by show rest.length < rest.length + 1 + 1; omega)
      rw [m3.low _ (by show rest.length < rest.length + 1 + 1; omega), e3, hfb] at q1
      exact (cell_heap q1).trans rfl
    have HQ := hid (show (3 ≤ s'.fin ∧ (Ending.returned (.tuple #[])) = trapE s'.fin ∧ Goes w B mb m F A s' en w3) ∨ (s'.fin = 0 ∧ TurnE w B mb m F A rest.length s' en (.returned (.tuple #[])) w3) from by
      rw [e1]
      exact Or.inr ⟨h0, rfl, g4.like rfl rfl rfl rfl rfl, by rw [hfb]; exact k4⟩)
    clear g3 g4 k4 k1 k2 e1 hcp hg1 hc1
    go_wp2
    go_end0
    exact HQ.out

/-- The instruction that comes next, as it is read. -/
theorem ins_cells {w : World} {B mb m : Nat} {F : Nat → PF} {A : AdM} {s : Mc} {en : Int} (hM : MSt w B mb m F A s en) {f : Fr} {rest : List Fr} (hs : s.fr = f :: rest) (hfn : f.fn < m) (hpc : f.pc < (F f.fn).cn) :
    ∃ pb po pc cb co cc, w.cell? ⟨mb, 0, none⟩ = some (.slice (some ⟨pb, po, none⟩) m pc) ∧ w.cell? ⟨A.FB rest.length, 0, none⟩ = some (.int .i64 f.fn) ∧ w.cell? ⟨A.FB rest.length, 1, none⟩ = some (.int .i64 f.pc) ∧ w.cell? ⟨pb, po + f.fn * 3 + 2, none⟩ = some (.slice (some ⟨cb, co, none⟩) (F f.fn).cn cc) ∧ w.cell? ⟨cb, co + f.pc * 2, none⟩ = some (.int .i64 ((F f.fn).op f.pc)) ∧ w.cell? ⟨cb, co + f.pc * 2 + 1, none⟩ = some (.int .i64 ((F f.fn).ar f.pc)) := by
  obtain ⟨_, _, u3, _, u5, _, _⟩ := hM.top hs
  obtain ⟨pb, po, pc, CA, CC, hpv, hPA, hpb, _⟩ := hM.pg.at_
  have s2 := (hPA.fn f.fn hfn).slice
  obtain ⟨cb, co, hca, hcb, hcode⟩ := (hPA.fn f.fn hfn).code (by omega)
  rw [hca] at s2
  obtain ⟨k0, k1⟩ := hcode f.pc hpc
  exact ⟨pb, po, pc, cb, co, CC f.fn, by rw [cell_heap hM.lay.run, ← hpv]; rfl, u5, u3, s2, k0, k1⟩

set_option maxRecDepth 100000 in
set_option maxHeartbeats 1000000 in
theorem step_pre {w : World} {B mb m : Nat} {F : Nat → PF} {A : AdM} {s : Mc} {en : Int} (hM : MSt w B mb m F A s en) {f : Fr} {rest : List Fr} (hs : s.fr = f :: rest) (hfn : f.fn < m) (hpc : f.pc < (F f.fn).cn) (op ar : Int) (hop : (F f.fn).op f.pc = op) (har : (F f.fn).ar f.pc = ar) 
    (R : Ending → World → Prop) (t : Bool) (ht : decide (op = 10 ∨ op = 11 ∨ op = 13 ∨ op = 14) = t)
    (hturn : t = true → ∀ X, Below w.heap.size w X → Calls Tryz.prog 120 #[.pointer (some ⟨mb, 0, none⟩), .pointer (some ⟨A.FB rest.length, 0, none⟩), .agg #[.int .i64 op, .int .i64 ar]] X fun e w' => (∃ t, e = trapE t ∧ R e w') ∨ (e = .returned (.tuple #[]) ∧ Calls Tryz.prog 88 #[.pointer (some ⟨mb, 0, none⟩), .pointer (some ⟨A.FB rest.length, 0, none⟩), .int .i64 1] w' fun e w'' => e = .returned (.tuple #[]) ∧ R e w''))
    (hstr : t = false → ∀ X, Below w.heap.size w X → Calls Tryz.prog 121 #[.pointer (some ⟨mb, 0, none⟩), .pointer (some ⟨A.FB rest.length, 0, none⟩), .agg #[.int .i64 op, .int .i64 ar]] X fun e w' => (∃ t, e = trapE t ∧ R e w') ∨ (e = .returned (.tuple #[]) ∧ Calls Tryz.prog 122 #[.pointer (some ⟨mb, 0, none⟩), .pointer (some ⟨A.FB rest.length, 0, none⟩), .int .i64 1] w' fun e w'' => e = .returned (.tuple #[]) ∧ R e w'')) :
    Calls Tryz.prog 104 #[.pointer (some ⟨mb, 0, none⟩), .pointer (some ⟨A.FB rest.length, 0, none⟩)] w R := by
  obtain ⟨pb, po, pc, cb, co, cc, c0, c1, c2, c3, c4, c5⟩ := ins_cells hM hs hfn hpc
  rw [hop] at c4
  rw [har] at c5
  have HS := hid (And.intro hturn hstr)
  have HC := hid (fun (w' : World) (h : Below w.heap.size w w') => (show w'.cell? ⟨mb, 0, none⟩ = some (.slice (some ⟨pb, po, none⟩) m pc) ∧ w'.cell? ⟨A.FB rest.length, 0, none⟩ = some (.int .i64 f.fn) ∧ w'.cell? ⟨A.FB rest.length, 1, none⟩ = some (.int .i64 f.pc) ∧ w'.cell? ⟨pb, po + f.fn * 3 + 2, none⟩ = some (.slice (some ⟨cb, co, none⟩) (F f.fn).cn cc) ∧ w'.cell? ⟨cb, co + f.pc * 2, none⟩ = some (.int .i64 op) ∧ w'.cell? ⟨cb, co + f.pc * 2 + 1, none⟩ = some (.int .i64 ar) from
    ⟨(h.cell (p := ⟨mb, 0, none⟩) (World.block_lt_of_cell? w _ c0)).trans c0, (h.cell (p := ⟨A.FB rest.length, 0, none⟩) (World.block_lt_of_cell? w _ c1)).trans c1, (h.cell (p := ⟨A.FB rest.length, 1, none⟩) (World.block_lt_of_cell? w _ c2)).trans c2, (h.cell (p := ⟨pb, po + f.fn * 3 + 2, none⟩) (World.block_lt_of_cell? w _ c3)).trans c3, (h.cell (p := ⟨cb, co + f.pc * 2, none⟩) (World.block_lt_of_cell? w _ c4)).trans c4, (h.cell (p := ⟨cb, co + f.pc * 2 + 1, none⟩) (World.block_lt_of_cell? w _ c5)).trans c5⟩))
  have i0 : (0 : Int) ≤ (f.fn : Int) := by omega
  have i1 : (f.fn : Int) < (m : Int) := by omega
  have i2 : (0 : Int) ≤ (f.pc : Int) := by omega
  have i3 : (f.pc : Int) < ((F f.fn).cn : Int) := by omega
  have HM := hid (fun X => turnsM op X)
  rw [ht] at HM
  clear hM hstr hturn c0 c1 c2 c3 c4 c5 hop har ht
  generalize (F f.fn).cn = cn at *
  generalize A.FB rest.length = fb at *
  generalize f.fn = fnl at *
  generalize f.pc = pcl at *
  go_enter Tryz.func104, Tryz.ntmps104
  go_wp2_with fail
  refine region_lex (Below w.heap.size w) [(false, 0), (false, 1), (false, 2), (false, 3), (false, 4), (false, 5), (false, 6), (false, 7), (false, 8), (false, 9), (false, 10), (false, 11), (false, 12), (false, 13), (false, 14), (false, 15), (false, 16), (true, 17), (true, 18)] (by kernel_rfl) (by kernel_rfl) (panic_frame _ _ _) (Below.refl _ _).drew ?_
  simp only [lexL, List.getElem?_cons_zero, List.getElem?_cons_succ]
  iterate 17 (refine lexW_free (by rfl) (by intro w' hS'; obtain ⟨q0, q1, q2, q3, q4, q5⟩ := HC.out w' hS'; clear hS'; go_simp; exact rfl) ?_; simp only [Act.put, List.setIfInBounds_toArray, List.set_cons_zero, List.set_cons_succ])
  have hW : Below w.heap.size w (w.alloc (.cells #[.int .i64 0, .int .i64 0] 33)).drew := ((Below.refl _ _).alloc (Nat.le_refl _) _).drew
  have hb : (w.alloc (.cells #[.int .i64 0, .int .i64 0] 33)).drew.heap[w.heap.size]? = some (.cells #[.int .i64 0, .int .i64 0] 33 (0, 0)) := Go.Deep.blk_alloc_new w _
  refine lexW_sole (fun K hK => ?_)
  go_simp
  refine hK.out _ _ hW ?_
  clear hK K
  have HW := hid (And.intro (hW.setCell (p := ⟨w.heap.size, 0, none⟩) (Nat.le_refl _) (.int .i64 op)) hb)
  generalize (w.alloc (.cells #[.int .i64 0, .int .i64 0] 33)).drew = W at *
  have x0 : W.cell? ⟨w.heap.size, 0, none⟩ = some (.int .i64 0) := (cell_heap hb).trans rfl
  have x1 : W.cell? ⟨w.heap.size, 1, none⟩ = some (.int .i64 0) := (cell_heap hb).trans rfl
  have z0 : W.frozen? ⟨w.heap.size, 0, none⟩ = false := frozen_heap hb
  have z1 : W.frozen? ⟨w.heap.size, 1, none⟩ = false := frozen_heap hb
  clear hW hb
  refine lexW_sole (fun K hK => ?_)
  go_simp
  have hX := HW.out.1.setCell (p := ⟨w.heap.size, 1, none⟩) (Nat.le_refl _) (.int .i64 ar)
  refine hK.out _ _ hX ?_
  clear hK K x0 x1 z0 z1
  have hb2 := heap_set (o := 1) (heap_set (o := 0) HW.out.2 (.int .i64 op)) (.int .i64 ar)
  have HX := hid hX
  generalize (W.setCell ⟨w.heap.size, 0, none⟩ (.int .i64 op)).setCell ⟨w.heap.size, 1, none⟩ (.int .i64 ar) = X at *
  have x0 : X.cell? ⟨w.heap.size, 0, none⟩ = some (.int .i64 op) := (cell_heap hb2).trans rfl
  have x1 : X.cell? ⟨w.heap.size, 1, none⟩ = some (.int .i64 ar) := (cell_heap hb2).trans rfl
  clear hX hb2
  refine lexW_done ?_
  go_wp2_with fail
  refine (HM.out X).mono ?_
  rintro e w2 ⟨rfl, hw2⟩
  rw [hw2]
  clear hw2 w2 HM HW HC
  cases t
  · go_wp2_with fail
    refine (HS.out.2 (by simp) X HX.out).mono ?_
    rintro e w3 (⟨t, rfl, h⟩ | ⟨rfl, h⟩)
    · exact ⟨rfl, h⟩
    · have HP := hid h
      clear h
      go_wp2_with fail
      refine HP.out.mono ?_
      rintro e w4 ⟨rfl, h⟩
      have HR := hid h
      clear h
      go_wp2
      go_end0
      exact HR.out
  · go_wp2_with fail
    refine (HS.out.1 (by simp) X HX.out).mono ?_
    rintro e w3 (⟨t, rfl, h⟩ | ⟨rfl, h⟩)
    · exact ⟨rfl, h⟩
    · have HP := hid h
      clear h
      go_wp2_with fail
      refine HP.out.mono ?_
      rintro e w4 ⟨rfl, h⟩
      have HR := hid h
      clear h
      go_wp2
      refine bodyPost_ret (results_none rfl _ _ _) rfl ?_
      exact HR.out
end Go.Proofs.YtkafkipjedpohaaGreatDoor
