import Derived.Test.YtkafkipjedpohaaGreatDoorM19
import Derived.Test.YtkafkipjedpohaaGreatDoorPureA

/-
  The project's machine: turn: Call; step.
-/
namespace Go.Proofs.YtkafkipjedpohaaGreatDoor
open Go.RowKit

/-- What a step, or a part of one, leaves: a trap, or not. -/
def StepE (w : World) (B mb m : Nat) (F : Nat → PF) (MV : Nat → Value) (n0 : Nat) (A : AdM) (s' : Mc) (n h : Nat) (en : Int) (e : Ending) (w' : World) : Prop :=
  (3 ≤ s'.fin ∧ e = trapE s'.fin ∧ Goes w B mb m F MV n0 A { s' with steps := n, cH := h } en w') ∨ (s'.fin < 3 ∧ e = .returned (.tuple #[]) ∧ Goes w B mb m F MV n0 A s' en w')

set_option maxRecDepth 100000 in
set_option maxHeartbeats 1000000 in
theorem turn_call {w : World} {B mb m : Nat} {F : Nat → PF} {MV : Nat → Value} {A : AdM} {s : Mc} {en : Int} (hM : MSt w B mb m F MV A s en) {f : Fr} {rest : List Fr} (hs : s.fr = f :: rest) (xs r : List V) (g : V) (cnt : Nat) (hst : f.stk = xs ++ g :: r) (hxs : xs.length = cnt) (hcnt : cnt ≤ 8) (hr : r.length ≤ 20) (hg : g.k = 3 → 0 ≤ g.n ∧ g.n < m) (hfun : ∀ k, k < m → 0 ≤ (F k).locals ∧ (F k).locals ≤ 8 ∧ (F k).args ≤ (F k).locals) (hfr : rest.length ≤ 30) (hm : m ≤ 8) (hpc : f.pc ≤ 64) (h0 : s.fin = 0) :
    Calls Tryz.prog 120 #[.pointer (some ⟨mb, 0, none⟩), .pointer (some ⟨A.FB rest.length, 0, none⟩), .agg #[.int .i64 13, .int .i64 cnt]] w fun e w' =>
      (3 ≤ (callP F cnt f rest s).fin ∧ e = trapE (callP F cnt f rest s).fin ∧ Goes w B mb m F MV s.fr.length A (callP F cnt f rest s) en w') ∨ ((callP F cnt f rest s).fin = 0 ∧ TurnE w B mb m F MV s.fr.length A rest.length (callP F cnt f rest s) en e w') := by
  obtain ⟨A1, hM1, hg1, ht1, hc1⟩ := hM.box #[.int .i64 13, .int .i64 cnt] 33
  have hfb1 : A1.FB rest.length = A.FB rest.length := fb_of hg1 _
  have hcall := callM _ B mb m A1 s en F MV f rest xs r g cnt hM1 hs hst hxs hcnt hr hg hfun hfr hm hpc
  rw [hfb1] at hcall
  have hd : f.stk.drop cnt = g :: r := by rw [hst, List.drop_append_of_le_length (by omega), List.drop_of_length_le (by omega)]; rfl
  have ht : f.stk.take cnt = xs := by rw [hst, List.take_append_of_le_length (by omega), List.take_of_length_le (by omega)]
  have hcp : callP F cnt f rest s = if g.k ≠ 3 ∨ (F g.n.toNat).args ≠ cnt then { s with fr := { f with stk := r } :: rest, fin := 6 } else if 24 ≤ rest.length + 1 then { s with fr := { f with stk := r } :: rest, fin := 7 } else { s with fr := { fn := g.n.toNat, pc := 0, loc := xs.reverse ++ List.replicate ((F g.n.toNat).locals.toNat - cnt) vnil, stk := [] } :: { f with pc := f.pc + 1, stk := r } :: rest, high := s.made g.n.toNat :: s.high } := by
    unfold callP
    rw [hd, ht]
  have hfbne := (hM.top hs).2.1
  have HC := hid (And.intro hcall (And.intro hcp (And.intro hg1 hc1)))
  generalize callP F cnt f rest s = s' at *
  have HN : Hid (rest.length + 1 = s.fr.length) := hid (by rw [hs]; rfl)
  clear hM hM1 hg1 ht1 hc1 hfb1 hcall hcp hd ht hst
  generalize hfb : A.FB rest.length = fb at *
  go_enter Tryz.func120, Tryz.ntmps120
  go_wp2_with fail
  refine HC.out.1.mono ?_
  obtain ⟨_, hcp, hg1, hc1⟩ := HC.out
  rintro e w3 (⟨k1, rfl, g3⟩ | ⟨k1, k2, rfl, g3⟩ | ⟨k1, k2, rfl, g3⟩)
  · have e1 := hcp.trans (if_pos k1)
    refine ⟨rfl, Or.inl ⟨by rw [e1]; show (3 : Int) ≤ 6; decide, by rw [e1]; rfl, ?_⟩⟩
    rw [e1]
    have g4 := Goes.on hg1 hc1 g3
    rw [HN.out] at g4
    exact g4.like rfl rfl rfl rfl rfl rfl rfl rfl rfl rfl
  · have e1 := hcp.trans ((if_neg k1).trans (if_pos k2))
    refine ⟨rfl, Or.inl ⟨by rw [e1]; show (3 : Int) ≤ 7; decide, by rw [e1]; rfl, ?_⟩⟩
    rw [e1]
    have g4 := Goes.on hg1 hc1 g3
    rw [HN.out] at g4
    exact g4.like rfl rfl rfl rfl rfl rfl rfl rfl rfl rfl
  · have e1 := hcp.trans ((if_neg k1).trans (if_neg k2))
    have g4 := Goes.on hg1 hc1 g3
    rw [HN.out] at g4
    have k4 : w3.cell? ⟨fb, 4, none⟩ = some (A.g.CV rest.length) := by
      obtain ⟨A3, m3, s3, c3, f3, v3⟩ := g4
      have e3 := f3 rest.length (by show rest.length < rest.length + 1 + 1; omega) (by rw [← HN.out]; omega)
      have e4 := (v3 rest.length (by show rest.length < rest.length + 1 + 1; omega)).1 (by rw [← HN.out]; omega)
      obtain ⟨q1, q2, q3⟩ := m3.lay.fb rest.length (by show rest.length < rest.length + 1 + 1; omega)
      rw [e3, hfb, e4] at q1
      exact (cell_heap q1).trans rfl
    have HQ := hid (show (3 ≤ s'.fin ∧ (Ending.returned (.tuple #[])) = trapE s'.fin ∧ Goes w B mb m F MV s.fr.length A s' en w3) ∨ (s'.fin = 0 ∧ TurnE w B mb m F MV s.fr.length A rest.length s' en (.returned (.tuple #[])) w3) from by
      rw [e1]
      exact Or.inr ⟨h0, rfl, g4.like rfl rfl rfl rfl rfl rfl rfl rfl rfl rfl, by rw [hfb]; exact k4⟩)
    clear g3 g4 k4 k1 k2 e1 hcp hg1 hc1
    go_wp2
    go_end0
    exact HQ.out

/-- The instruction that comes next, as it is read. -/
theorem ins_cells {w : World} {B mb m : Nat} {F : Nat → PF} {MV : Nat → Value} {A : AdM} {s : Mc} {en : Int} (hM : MSt w B mb m F MV A s en) {f : Fr} {rest : List Fr} (hs : s.fr = f :: rest) (hfn : f.fn < m) (hpc : f.pc < (F f.fn).cn) :
    ∃ pb po pc cb co cc, w.cell? ⟨mb, 0, none⟩ = some (.slice (some ⟨pb, po, none⟩) m pc) ∧ w.cell? ⟨A.FB rest.length, 0, none⟩ = some (.int .i64 f.fn) ∧ w.cell? ⟨A.FB rest.length, 1, none⟩ = some (.int .i64 f.pc) ∧ w.cell? ⟨pb, po + f.fn * 3 + 2, none⟩ = some (.slice (some ⟨cb, co, none⟩) (F f.fn).cn cc) ∧ w.cell? ⟨cb, co + f.pc * 2, none⟩ = some (.int .i64 ((F f.fn).op f.pc)) ∧ w.cell? ⟨cb, co + f.pc * 2 + 1, none⟩ = some (.int .i64 ((F f.fn).ar f.pc)) := by
  obtain ⟨_, _, u3, _, u5, _, _⟩ := hM.top hs
  obtain ⟨pb, po, pc, CA, CC, hpv, hPA, hpb, _⟩ := hM.pg.at_
  have s2 := (hPA.fn f.fn hfn).slice
  obtain ⟨cb, co, hca, hcb, hcode⟩ := (hPA.fn f.fn hfn).code (by omega)
  rw [hca] at s2
  obtain ⟨k0, k1⟩ := hcode f.pc hpc
  exact ⟨pb, po, pc, cb, co, CC f.fn, by rw [cell_heap hM.lay.run, ← hpv]; rfl, u5, u3, s2, k0, k1⟩

set_option maxRecDepth 100000 in
set_option maxHeartbeats 1000000 in
theorem step_pre {w : World} {B mb m : Nat} {F : Nat → PF} {MV : Nat → Value} {A : AdM} {s : Mc} {en : Int} (hM : MSt w B mb m F MV A s en) {f : Fr} {rest : List Fr} (hs : s.fr = f :: rest) (hfn : f.fn < m) (hpc : f.pc < (F f.fn).cn) (op ar : Int) (hop : (F f.fn).op f.pc = op) (har : (F f.fn).ar f.pc = ar) 
    (R : Ending → World → Prop) (t : Bool) (ht : decide (op = 10 ∨ op = 11 ∨ op = 13 ∨ op = 14) = t)
    (hturn : t = true → ∀ X, Below w.heap.size w X → Calls Tryz.prog 120 #[.pointer (some ⟨mb, 0, none⟩), .pointer (some ⟨A.FB rest.length, 0, none⟩), .agg #[.int .i64 op, .int .i64 ar]] X fun e w' => (∃ t, e = trapE t ∧ R e w') ∨ (e = .returned (.tuple #[]) ∧ Calls Tryz.prog 88 #[.pointer (some ⟨mb, 0, none⟩), .pointer (some ⟨A.FB rest.length, 0, none⟩), .int .i64 1] w' fun e w'' => e = .returned (.tuple #[]) ∧ R e w''))
    (hstr : t = false → ∀ X, Below w.heap.size w X → Calls Tryz.prog 121 #[.pointer (some ⟨mb, 0, none⟩), .pointer (some ⟨A.FB rest.length, 0, none⟩), .agg #[.int .i64 op, .int .i64 ar]] X fun e w' => (∃ t, e = trapE t ∧ R e w') ∨ (e = .returned (.tuple #[]) ∧ Calls Tryz.prog 122 #[.pointer (some ⟨mb, 0, none⟩), .pointer (some ⟨A.FB rest.length, 0, none⟩), .int .i64 1] w' fun e w'' => e = .returned (.tuple #[]) ∧ R e w'')) :
    Calls Tryz.prog 104 #[.pointer (some ⟨mb, 0, none⟩), .pointer (some ⟨A.FB rest.length, 0, none⟩)] w R := by
  obtain ⟨pb, po, pc, cb, co, cc, c0, c1, c2, c3, c4, c5⟩ := ins_cells hM hs hfn hpc
  rw [hop] at c4
  rw [har] at c5
  have HS := hid (And.intro hturn hstr)
  have HC := hid (fun (w' : World) (h : Below w.heap.size w w') => (show w'.cell? ⟨mb, 0, none⟩ = some (.slice (some ⟨pb, po, none⟩) m pc) ∧ w'.cell? ⟨A.FB rest.length, 0, none⟩ = some (.int .i64 f.fn) ∧ w'.cell? ⟨A.FB rest.length, 1, none⟩ = some (.int .i64 f.pc) ∧ w'.cell? ⟨pb, po + f.fn * 3 + 2, none⟩ = some (.slice (some ⟨cb, co, none⟩) (F f.fn).cn cc) ∧ w'.cell? ⟨cb, co + f.pc * 2, none⟩ = some (.int .i64 op) ∧ w'.cell? ⟨cb, co + f.pc * 2 + 1, none⟩ = some (.int .i64 ar) from
    ⟨(h.cell (p := ⟨mb, 0, none⟩) (World.block_lt_of_cell? w _ c0)).trans c0, (h.cell (p := ⟨A.FB rest.length, 0, none⟩) (World.block_lt_of_cell? w _ c1)).trans c1, (h.cell (p := ⟨A.FB rest.length, 1, none⟩) (World.block_lt_of_cell? w _ c2)).trans c2, (h.cell (p := ⟨pb, po + f.fn * 3 + 2, none⟩) (World.block_lt_of_cell? w _ c3)).trans c3, (h.cell (p := ⟨cb, co + f.pc * 2, none⟩) (World.block_lt_of_cell? w _ c4)).trans c4, (h.cell (p := ⟨cb, co + f.pc * 2 + 1, none⟩) (World.block_lt_of_cell? w _ c5)).trans c5⟩))
  have i0 : (0 : Int) ≤ (f.fn : Int) := by omega
  have i1 : (f.fn : Int) < (m : Int) := by omega
  have i2 : (0 : Int) ≤ (f.pc : Int) := by omega
  have i3 : (f.pc : Int) < ((F f.fn).cn : Int) := by omega
  have HM := hid (fun X => turnsM op X)
  rw [ht] at HM
  clear hM hstr hturn c0 c1 c2 c3 c4 c5 hop har ht
  generalize (F f.fn).cn = cn at *
  generalize A.FB rest.length = fb at *
  generalize f.fn = fnl at *
  generalize f.pc = pcl at *
  go_enter Tryz.func104, Tryz.ntmps104
  go_wp2_with fail
  refine region_lex (Below w.heap.size w) [(false, 0), (false, 1), (false, 2), (false, 3), (false, 4), (false, 5), (false, 6), (false, 7), (false, 8), (false, 9), (false, 10), (false, 11), (false, 12), (false, 13), (false, 14), (false, 15), (false, 16), (true, 17), (true, 18)] (by kernel_rfl) (by kernel_rfl) (panic_frame _ _ _) (Below.refl _ _).drew ?_
  simp only [lexL, List.getElem?_cons_zero, List.getElem?_cons_succ]
  iterate 17 (refine lexW_free (by rfl) (by intro w' hS'; obtain ⟨q0, q1, q2, q3, q4, q5⟩ := HC.out w' hS'; clear hS'; go_simp; exact rfl) ?_; simp only [Act.put, List.setIfInBounds_toArray, List.set_cons_zero, List.set_cons_succ])
  have hW : Below w.heap.size w (w.alloc (.cells #[.int .i64 0, .int .i64 0] 33)).drew := ((Below.refl _ _).alloc (Nat.le_refl _) _).drew
  have hb : (w.alloc (.cells #[.int .i64 0, .int .i64 0] 33)).drew.heap[w.heap.size]? = some (.cells #[.int .i64 0, .int .i64 0] 33 (0, 0)) := Go.Deep.blk_alloc_new w _
  refine lexW_sole (fun K hK => ?_)
  go_simp
  refine hK.out _ _ hW ?_
  clear hK K
  have HW := hid (And.intro (hW.setCell (p := ⟨w.heap.size, 0, none⟩) (Nat.le_refl _) (.int .i64 op)) hb)
  generalize (w.alloc (.cells #[.int .i64 0, .int .i64 0] 33)).drew = W at *
  have x0 : W.cell? ⟨w.heap.size, 0, none⟩ = some (.int .i64 0) := (cell_heap hb).trans rfl
  have x1 : W.cell? ⟨w.heap.size, 1, none⟩ = some (.int .i64 0) := (cell_heap hb).trans rfl
  have z0 : W.frozen? ⟨w.heap.size, 0, none⟩ = false := frozen_heap hb
  have z1 : W.frozen? ⟨w.heap.size, 1, none⟩ = false := frozen_heap hb
  clear hW hb
  refine lexW_sole (fun K hK => ?_)
  go_simp
  have hX := HW.out.1.setCell (p := ⟨w.heap.size, 1, none⟩) (Nat.le_refl _) (.int .i64 ar)
  refine hK.out _ _ hX ?_
  clear hK K x0 x1 z0 z1
  have hb2 := heap_set (o := 1) (heap_set (o := 0) HW.out.2 (.int .i64 op)) (.int .i64 ar)
  have HX := hid hX
  generalize (W.setCell ⟨w.heap.size, 0, none⟩ (.int .i64 op)).setCell ⟨w.heap.size, 1, none⟩ (.int .i64 ar) = X at *
  have x0 : X.cell? ⟨w.heap.size, 0, none⟩ = some (.int .i64 op) := (cell_heap hb2).trans rfl
  have x1 : X.cell? ⟨w.heap.size, 1, none⟩ = some (.int .i64 ar) := (cell_heap hb2).trans rfl
  clear hX hb2
  refine lexW_done ?_
  go_wp2_with fail
  refine (HM.out X).mono ?_
  rintro e w2 ⟨rfl, hw2⟩
  rw [hw2]
  clear hw2 w2 HM HW HC
  cases t
  · go_wp2_with fail
    refine (HS.out.2 (by simp) X HX.out).mono ?_
    rintro e w3 (⟨t, rfl, h⟩ | ⟨rfl, h⟩)
    · exact ⟨rfl, h⟩
    · have HP := hid h
      clear h
      go_wp2_with fail
      refine HP.out.mono ?_
      rintro e w4 ⟨rfl, h⟩
      have HR := hid h
      clear h
      go_wp2
      go_end0
      exact HR.out
  · go_wp2_with fail
    refine (HS.out.1 (by simp) X HX.out).mono ?_
    rintro e w3 (⟨t, rfl, h⟩ | ⟨rfl, h⟩)
    · exact ⟨rfl, h⟩
    · have HP := hid h
      clear h
      go_wp2_with fail
      refine HP.out.mono ?_
      rintro e w4 ⟨rfl, h⟩
      have HR := hid h
      clear h
      go_wp2
      refine bodyPost_ret (results_none rfl _ _ _) rfl ?_
      exact HR.out
end Go.Proofs.YtkafkipjedpohaaGreatDoor

/-
  Runs of so many steps, as plain mathematics. No Go here.
-/
namespace Go.Proofs.YtkafkipjedpohaaGreatDoor

def nthP (F : Nat → PF) (s : Mc) : Nat → Mc
  | 0 => s
  | n + 1 => if (nthP F s n).fin = 0 then stepP F (nthP F s n) else nthP F s n

/-- A run begins: in the low gear, nothing compiled. -/
def startP (F : Nat → PF) : Mc :=
  { fr := [{ fn := 0, pc := 0, loc := List.replicate (F 0).locals.toNat vnil, stk := [] }], arr := [], out := [], gives := vnil, steps := 0, fin := 0, high := [false], made := fun _ => false, cH := 0, cU := 0, cD := 0 }

variable {F : Nat → PF}

theorem where_trap (arr : List (List V)) (a i : V) : whereP arr a i = 0 ∨ whereP arr a i = 3 ∨ whereP arr a i = 5 := by
  unfold whereP
  repeat' split
  all_goals omega
theorem two_trap (op : Int) (a b : V) : (twoP op a b).2 = 0 ∨ (twoP op a b).2 = 3 ∨ (twoP op a b).2 = 4 := by
  unfold twoP
  repeat' split
  all_goals simp

theorem exec_facts (op a : Int) (f : Fr) (arr : List (List V)) (out : List V) : (∃ l, (execP op a f arr out).2.2.1 = out ++ l) ∧ ((execP op a f arr out).2.2.2 = 0 ∨ (3 ≤ (execP op a f arr out).2.2.2 ∧ (execP op a f arr out).2.2.2 ≤ 8)) := by
  have hw := where_trap arr
  have h2 := two_trap op
  have hn : ∃ l, out = out ++ l := ⟨[], by simp⟩
  have t0 : ∀ (g : Fr) (ar : List (List V)), (∃ l, ((g, ar, out, (0 : Int)) : Fr × List (List V) × List V × Int).2.2.1 = out ++ l) ∧ (((g, ar, out, (0 : Int)) : Fr × List (List V) × List V × Int).2.2.2 = 0 ∨ (3 ≤ ((g, ar, out, (0 : Int)) : Fr × List (List V) × List V × Int).2.2.2 ∧ ((g, ar, out, (0 : Int)) : Fr × List (List V) × List V × Int).2.2.2 ≤ 8)) := fun _ _ => ⟨hn, Or.inl rfl⟩
  have tt : ∀ (g : Fr) (ar : List (List V)) (t : Int), (3 ≤ t ∧ t ≤ 8) → (∃ l, ((g, ar, out, t) : Fr × List (List V) × List V × Int).2.2.1 = out ++ l) ∧ (((g, ar, out, t) : Fr × List (List V) × List V × Int).2.2.2 = 0 ∨ (3 ≤ ((g, ar, out, t) : Fr × List (List V) × List V × Int).2.2.2 ∧ ((g, ar, out, t) : Fr × List (List V) × List V × Int).2.2.2 ≤ 8)) := fun _ _ _ h => ⟨hn, Or.inr h⟩
  unfold execP
  by_cases e : op = 0
  · rw [if_pos e]; exact t0 _ _
  rw [if_neg e]
  clear e
  by_cases e : op = 1
  · rw [if_pos e]; exact t0 _ _
  rw [if_neg e]
  clear e
  by_cases e : op = 12
  · rw [if_pos e]; exact t0 _ _
  rw [if_neg e]
  clear e
  by_cases e : op = 2
  · rw [if_pos e]; exact t0 _ _
  rw [if_neg e]
  clear e
  cases f with
  | mk fn pc loc stk =>
  cases stk with
  | nil => exact t0 _ _
  | cons x r =>
  dsimp only
  by_cases e : op = 3
  · rw [if_pos e]; exact t0 _ _
  rw [if_neg e]
  clear e
  by_cases e : op = 19
  · rw [if_pos e]; exact ⟨⟨_, rfl⟩, Or.inl rfl⟩
  rw [if_neg e]
  clear e
  by_cases e : op = 20
  · rw [if_pos e]; exact t0 _ _
  rw [if_neg e]
  clear e
  by_cases e : op = 21
  · rw [if_pos e]; exact t0 _ _
  rw [if_neg e]
  clear e
  by_cases e : op = 15
  · rw [if_pos e]
    by_cases e : x.k ≠ 1
    · rw [if_pos e]; exact tt _ _ _ (by omega)
    rw [if_neg e]
    clear e
    by_cases e : x.n < 0
    · rw [if_pos e]; exact tt _ _ _ (by omega)
    rw [if_neg e]
    clear e
    by_cases e : 200 - cellsP arr < x.n
    · rw [if_pos e]; exact tt _ _ _ (by omega)
    rw [if_neg e]
    exact t0 _ _
  rw [if_neg e]
  clear e
  by_cases e : op = 18
  · rw [if_pos e]
    by_cases e : x.k ≠ 2
    · rw [if_pos e]; exact tt _ _ _ (by omega)
    rw [if_neg e]
    exact t0 _ _
  rw [if_neg e]
  clear e
  cases r with
  | nil => exact t0 _ _
  | cons y q =>
  dsimp only
  by_cases e : op = 16
  · rw [if_pos e]
    by_cases e : whereP arr y x = 0
    · rw [if_pos e]; exact t0 _ _
    rw [if_neg e]
    exact tt _ _ _ (by have := hw y x; omega)
  rw [if_neg e]
  clear e
  by_cases e : op = 17
  · rw [if_pos e]
    cases q with
    | nil => exact t0 _ _
    | cons z p =>
    dsimp only
    by_cases e : whereP arr z y = 0
    · rw [if_pos e]; exact t0 _ _
    rw [if_neg e]
    exact tt _ _ _ (by have := hw z y; omega)
  rw [if_neg e]
  clear e
  by_cases e : (twoP op y x).2 = 0
  · rw [if_pos e]; exact t0 _ _
  rw [if_neg e]
  exact tt _ _ _ (by have := h2 y x; omega)
theorem exec_out (op a : Int) (f : Fr) (arr : List (List V)) (out : List V) : ∃ l, (execP op a f arr out).2.2.1 = out ++ l := (exec_facts op a f arr out).1
theorem exec_trap (op a : Int) (f : Fr) (arr : List (List V)) (out : List V) : (execP op a f arr out).2.2.2 = 0 ∨ (3 ≤ (execP op a f arr out).2.2.2 ∧ (execP op a f arr out).2.2.2 ≤ 8) := (exec_facts op a f arr out).2

theorem call_facts (A : Nat) (f : Fr) (rest : List Fr) (s : Mc) (hs : s.fin = 0) : (callP F A f rest s).steps = s.steps ∧ (callP F A f rest s).out = s.out ∧ (callP F A f rest s).gives = s.gives ∧ ((callP F A f rest s).fin = 0 ∨ (callP F A f rest s).fin = 6 ∨ (callP F A f rest s).fin = 7) ∧ ((callP F A f rest s).fr = [] → s.fr = []) := by
  unfold callP
  repeat' split
  all_goals simp [hs]

theorem return_facts (f : Fr) (rest : List Fr) (s : Mc) (hs : s.fin = 0) (hf : s.fr ≠ []) : (returnP f rest s).steps = s.steps ∧ (returnP f rest s).out = s.out ∧ ((returnP f rest s).fin = 1 ∨ (returnP f rest s).gives = s.gives) ∧ ((returnP f rest s).fin = 0 ∨ (returnP f rest s).fin = 1) ∧ ((returnP f rest s).fr = [] ↔ (returnP f rest s).fin = 1) := by
  unfold returnP
  repeat' split
  all_goals simp [hs, hf]

structure Stp (s s' : Mc) : Prop where
  steps : s'.steps = s.steps + 1
  out : ∃ l, s'.out = s.out ++ l
  gives : s'.fin = 1 ∨ s'.gives = s.gives
  fin : s'.fin = 0 ∨ s'.fin = 1 ∨ (3 ≤ s'.fin ∧ s'.fin ≤ 8)
  fr : s'.fr = [] ↔ s'.fin = 1

theorem step_facts {s : Mc} (hs : s.fin = 0) (hf : s.fr ≠ []) : Stp s (stepP F s) := by
  unfold stepP
  cases hfr : s.fr with
  | nil => exact absurd hfr hf
  | cons f rest =>
    dsimp only
    have hne : ¬ ((1 : Int) = 0) := by decide
    split
    · exact ⟨rfl, ⟨[], by simp⟩, Or.inr rfl, Or.inl hs, by simp [hs]⟩
    split
    · split
      · refine ⟨rfl, ⟨[], by simp⟩, Or.inr rfl, Or.inl hs, ?_⟩
        simp [hs]
      · exact ⟨rfl, ⟨[], by simp⟩, Or.inr rfl, Or.inl hs, by simp [hs]⟩
    split
    · obtain ⟨h1, h2, h3, h4, h5⟩ := call_facts (F := F) ((F f.fn).ar f.pc).toNat f rest { s with fr := f :: rest, steps := s.steps + 1, cH := s.cH + (if s.high.headD false = true then 1 else 0) } hs
      refine ⟨h1, ⟨[], by simpa using h2⟩, Or.inr h3, by omega, ?_⟩
      constructor
      · intro h
        have := h5 h
        simp at this
      · intro h
        omega
    split
    · obtain ⟨h1, h2, h3, h4, h5⟩ := return_facts f rest { s with fr := f :: rest, steps := s.steps + 1, cH := s.cH + (if s.high.headD false = true then 1 else 0) } hs (by simp)
      exact ⟨h1, ⟨[], by simpa using h2⟩, h3, by omega, h5⟩
    · have ht := exec_trap ((F f.fn).op f.pc) ((F f.fn).ar f.pc) f s.arr s.out
      refine ⟨rfl, exec_out _ _ _ _ _, Or.inr rfl, ?_, ?_⟩
      · dsimp only
        omega
      · constructor
        · intro h
          simp at h
        · intro h
          have h : (execP ((F f.fn).op f.pc) ((F f.fn).ar f.pc) f s.arr s.out).2.2.2 = 1 := h
          omega

/-- What holds of a run behind n steps, or behind its last one. -/
structure RunAt (m : Nat) (F : Nat → PF) (K : Nat → Nat → Bool) (H : Nat → Nat → Int) (n : Nat) (s : Mc) : Prop where
  inv : s.fin = 0 → Inv m F K H s ∧ s.steps = n
  le : s.steps ≤ n
  fin : s.fin = 0 ∨ s.fin = 1 ∨ (3 ≤ s.fin ∧ s.fin ≤ 8)
  gives : s.fin ≠ 1 → s.gives = vnil
  fr : s.fr = [] ↔ s.fin = 1

variable {m : Nat} {K : Nat → Nat → Bool} {H : Nat → Nat → Int} {s : Mc}

theorem Inv.some (h : Inv m F K H s) : s.fr ≠ [] := by
  obtain ⟨f, rest, e, _⟩ := h.top
  rw [e]
  simp

theorem nth_at (hF : Fine m F K H) (hI : Inv m F K H s) (h0 : s.fin = 0) (hs : s.steps = 0) (hg : s.gives = vnil) : ∀ n, RunAt m F K H n (nthP F s n)
  | 0 => ⟨fun _ => ⟨hI, hs⟩, by show s.steps ≤ 0; omega, Or.inl h0, fun _ => hg, ⟨fun e => absurd e hI.some, fun e => by have : s.fin = 1 := e; omega⟩⟩
  | n + 1 => by
    have ih := nth_at hF hI h0 hs hg n
    unfold nthP
    split
    · rename_i hz
      obtain ⟨i1, i2⟩ := ih.inv hz
      have hst := step_facts (F := F) hz i1.some
      refine ⟨fun e => ⟨step_inv hF i1 e, by rw [hst.steps, i2]⟩, by rw [hst.steps, i2]; omega, hst.fin, fun e => ?_, hst.fr⟩
      rcases hst.gives with h | h
      · exact absurd h e
      · rw [h]
        exact ih.gives (by omega)
    · rename_i hz
      exact ⟨fun e => absurd e hz, by have := ih.le; omega, ih.fin, ih.gives, ih.fr⟩

theorem nth_stay {n : Nat} (h : (nthP F s n).fin ≠ 0) : ∀ k, nthP F s (n + k) = nthP F s n
  | 0 => rfl
  | k + 1 => by
    have e : nthP F s (n + (k + 1)) = if (nthP F s (n + k)).fin = 0 then stepP F (nthP F s (n + k)) else nthP F s (n + k) := rfl
    rw [e, nth_stay h k, if_neg h]

end Go.Proofs.YtkafkipjedpohaaGreatDoor
