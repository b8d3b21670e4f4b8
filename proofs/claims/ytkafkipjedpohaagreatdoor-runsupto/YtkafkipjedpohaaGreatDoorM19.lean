import Derived.Test.YtkafkipjedpohaaGreatDoorM17

/-
  The project's machine: count, pass, branch.
-/
namespace Go.Proofs.YtkafkipjedpohaaGreatDoor
open Go.RowKit

/-- Steps more are counted. -/
theorem LayM.tick {w : World} {B mb : Nat} {A : AdM} {s : Mc} {en : Int} (h : LayM w B mb A s en) (n : Nat) :
    LayM (w.setCell ⟨mb, 7, none⟩ (.int .i64 n)) B mb A { s with steps := n } en ∧ Ch B (fun d => d = 0) A.tag A.tag w (w.setCell ⟨mb, 7, none⟩ (.int .i64 n)) := by
  have hc : Ch B (fun d => d = 0) A.tag A.tag w (w.setCell ⟨mb, 7, none⟩ (.int .i64 n)) := Ch.set w _ _ _ h.own.1 h.own.2
  refine ⟨⟨heap_set h.run _, h.own, h.fr.keep hc (by omega), fun i hi => ?_, h.ar.keep hc (by omega), h.out.keep hc (by omega), fun i hi => (h.loc i hi).keep hc (by omega), fun i hi => (h.stk i hi).keep hc (by omega), fun j hj => (h.arr j hj).keep hc (by omega)⟩, hc⟩
  obtain ⟨g1, g2, g3⟩ := h.fb i hi
  obtain ⟨g4, g5⟩ := blk_keep g1 hc (by rw [g3]; omega)
  exact ⟨g4, g2, g5.trans g3⟩

theorem nilSlice (X : World) : (binOp .neq 136 (.slice none 0 0) (.slice none 0 0)).run Tryz.prog X = .ok (.bool false) X := by
  go_simp

set_option maxRecDepth 100000 in
theorem countM (w : World) (mb fb : Nat) (st : Nat) (hst : w.cell? ⟨mb, 7, none⟩ = some (.int .i64 st)) (hz : w.frozen? ⟨mb, 7, none⟩ = false) (hc : w.cell? ⟨fb, 4, none⟩ = some (.slice none 0 0)) (hne : ¬ fb = mb) (hb : st ≤ 1000000) :
    Calls Tryz.prog 88 #[.pointer (some ⟨mb, 0, none⟩), .pointer (some ⟨fb, 0, none⟩), .int .i64 1] w fun e w' => e = .returned (.tuple #[]) ∧ w' = w.setCell ⟨mb, 7, none⟩ (.int .i64 (st + 1 : Nat)) := by
  have hn := nilSlice
  have hsp : (0 : Int) ≤ (st : Int) ∧ (st : Int) ≤ 1000000 := by omega
  have e6 : ((st + 1 : Nat) : Int) = (st : Int) + 1 := by omega
  rw [e6]
  generalize (st : Int) = sp at *
  have e5 : wrap64 (sp + 1) = sp + 1 := by unfold wrap64; omega
  have hc2 : (w.setCell ⟨mb, 7, none⟩ (.int .i64 (sp + 1))).cell? ⟨fb, 4, none⟩ = some (.slice none 0 0) := by
    rw [World.cell?_setCell_far _ _ _ _ (fun e => hne e.symm)]
    exact hc
  go_enter Tryz.func88, Tryz.ntmps88
  go_wp2
  go_end0
  exact ⟨rfl, rfl⟩

theorem MSt.count {w : World} {B mb m : Nat} {F : Nat → PF} {A : AdM} {s : Mc} {en : Int} (hM : MSt w B mb m F A s en) (fb : Nat) (hc : w.cell? ⟨fb, 4, none⟩ = some (.slice none 0 0)) (hne : ¬ fb = mb) (hb : s.steps ≤ 1000000) :
    Calls Tryz.prog 88 #[.pointer (some ⟨mb, 0, none⟩), .pointer (some ⟨fb, 0, none⟩), .int .i64 1] w fun e w' => e = .returned (.tuple #[]) ∧ Goes w B mb m F A { s with steps := s.steps + 1 } en w' := by
  have x7 : w.cell? ⟨mb, 7, none⟩ = some (.int .i64 s.steps) := by rw [cell_heap hM.lay.run]; rfl
  refine (countM w mb fb s.steps x7 (frozen_heap hM.lay.run) hc hne hb).mono ?_
  rintro e w' ⟨rfl, rfl⟩
  obtain ⟨l1, c1⟩ := hM.lay.tick (s.steps + 1)
  have cN := c1.mono (q := N5) (fun d hd => by unfold N5; omega)
  exact ⟨rfl, A, hM.ch l1 hM.low (SameG.refl _) cN, SameG.refl _, cN, fun _ _ => rfl⟩

/-- The frame at hand: where its block lies, and that it is in the low gear. -/
theorem MSt.top {w : World} {B mb m : Nat} {F : Nat → PF} {A : AdM} {s : Mc} {en : Int} (hM : MSt w B mb m F A s en) {f : Fr} {rest : List Fr} (hs : s.fr = f :: rest) :
    w.cell? ⟨A.FB rest.length, 4, none⟩ = some (.slice none 0 0) ∧ ¬ A.FB rest.length = mb ∧ w.cell? ⟨A.FB rest.length, 1, none⟩ = some (.int .i64 f.pc) ∧ w.frozen? ⟨A.FB rest.length, 1, none⟩ = false ∧ w.cell? ⟨A.FB rest.length, 0, none⟩ = some (.int .i64 f.fn) ∧ A.tag (A.FB rest.length) = 10 + 4 * rest.length ∧ A.FB rest.length < w.heap.size := by
  have hlen : s.fr.length = rest.length + 1 := by rw [hs]; rfl
  obtain ⟨g1, g2, g3⟩ := hM.lay.fb rest.length (by omega)
  have e0 : frAt s.fr rest.length = f := by rw [hs]; exact frAt_top _ _
  rw [e0, hM.low _ (by omega)] at g1
  refine ⟨(cell_heap g1).trans rfl, fun e => ?_, (cell_heap g1).trans rfl, frozen_heap g1, (cell_heap g1).trans rfl, g3, heap_lt g1⟩
  rw [e, hM.lay.own.2] at g3
  omega

theorem MSt.goto {w : World} {B mb m : Nat} {F : Nat → PF} {A : AdM} {s : Mc} {en : Int} (hM : MSt w B mb m F A s en) {f : Fr} {rest : List Fr} (hs : s.fr = f :: rest) (pc : Nat) : Goes w B mb m F A { s with fr := { f with pc := pc } :: rest } en (w.setCell ⟨A.FB rest.length, 1, none⟩ (.int .i64 pc)) := by
  obtain ⟨l1, c1⟩ := hM.lay.goto hs pc
  have cN := c1.mono (q := N5) (fun _ => tk_n5)
  exact ⟨A, hM.ch l1 (fun i hi => hM.low i (by rw [hs]; exact hi)) (SameG.refl _) cN, SameG.refl _, cN, fun _ _ => rfl⟩

set_option maxRecDepth 100000 in
set_option maxHeartbeats 1000000 in
theorem MSt.pass {w : World} {B mb m : Nat} {F : Nat → PF} {A : AdM} {s : Mc} {en : Int} (hM : MSt w B mb m F A s en) {f : Fr} {rest : List Fr} (hs : s.fr = f :: rest) (hb : s.steps ≤ 1000000) (hpc : f.pc ≤ 1000) :
    Calls Tryz.prog 122 #[.pointer (some ⟨mb, 0, none⟩), .pointer (some ⟨A.FB rest.length, 0, none⟩), .int .i64 1] w fun e w' => e = .returned (.tuple #[]) ∧ Goes w B mb m F A { s with steps := s.steps + 1, fr := { f with pc := f.pc + 1 } :: rest } en w' := by
  obtain ⟨t1, t2, t3, t4, _, _, _⟩ := hM.top hs
  have x7 : w.cell? ⟨mb, 7, none⟩ = some (.int .i64 s.steps) := by rw [cell_heap hM.lay.run]; rfl
  have HC := hid (countM w mb (A.FB rest.length) s.steps x7 (frozen_heap hM.lay.run) t1 t2 hb)
  obtain ⟨l1, c1⟩ := hM.lay.tick (s.steps + 1)
  have cN := c1.mono (q := N5) (fun d hd => by unfold N5; omega)
  have hM1 := hM.ch l1 hM.low (SameG.refl _) cN
  obtain ⟨_, _, u3, u4, _, _, _⟩ := hM1.top hs
  have hg := hM1.goto hs (f.pc + 1)
  have e6 : ((f.pc + 1 : Nat) : Int) = (f.pc : Int) + 1 := by omega
  rw [e6] at hg
  have HQ := hid (Goes.on (SameG.refl _) cN (fun _ => rfl) hg)
  clear hM hM1 l1 c1 cN hg x7 t1 t2 t3 t4 e6
  generalize A.FB rest.length = fb at *
  generalize w.setCell ⟨mb, 7, none⟩ (.int .i64 (s.steps + 1 : Nat)) = W at *
  have hp0 : 0 ≤ (f.pc : Int) ∧ (f.pc : Int) ≤ 1000 := by omega
  generalize (f.pc : Int) = pcl at *
  have e5 : wrap64 (pcl + 1) = pcl + 1 := by unfold wrap64; omega
  go_enter Tryz.func122, Tryz.ntmps122
  go_wp2_with fail
  refine HC.out.mono ?_
  rintro e w1 ⟨rfl, hw1⟩
  rw [hw1]
  clear hw1 w1
  go_wp2
  go_end0
  exact ⟨rfl, HQ.out⟩
end Go.Proofs.YtkafkipjedpohaaGreatDoor

/-
  The project's machine: branch; turn: Jump, Branch, Call, Return.
-/
namespace Go.Proofs.YtkafkipjedpohaaGreatDoor
open Go.RowKit

theorem lexW_skip {P : Program} {ops : Array Oper} {Q : Exit → Act → World → Prop} {S : World → Prop} {i : Nat} {o : Oper} {r : List (Bool × Nat × Oper)} {a : Act} {w : World} (hw : Region.wanted o (yielded ops a.tmps) = false)
    (h : LexG P ops Q S r (a.put o.dst undef) w) : LexG P ops Q S ((false, i, o) :: r) a w := ⟨fun hall => ⟨o, undef, hall _ List.mem_cons_self, Or.inr ⟨hw, rfl⟩, h.out (fun t ht => hall t (List.mem_cons_of_mem _ ht))⟩⟩

theorem cell4_set {w : World} {b : Nat} {x : Value} (h : w.cell? ⟨b, 4, none⟩ = some x) (v : Value) : (w.setCell ⟨b, 1, none⟩ v).cell? ⟨b, 4, none⟩ = some x :=
  (World.cell?_setCell_other w _ _ v (by simp)).trans h

theorem zero_is {v : V} (h0 : v.k = 0 → v.n = 0) : zeroP v = (decide (v.k = 0 ∧ v.n = 0) || decide (v.k = 1 ∧ v.n = 0)) := by
  unfold zeroP
  by_cases h : v.k = 0
  · simp [h, h0 h]
  · simp [h]

theorem MSt.box {w : World} {B mb m : Nat} {F : Nat → PF} {A : AdM} {s : Mc} {en : Int} (hM : MSt w B mb m F A s en) (c : Array Value) (t : TypeId) : ∃ A1 : AdM, MSt (w.alloc (.cells c t)) B mb m F A1 s en ∧ A1.g = A.g ∧ A1.tag w.heap.size = 5 ∧ Ch B N5 A.tag A1.tag w (w.alloc (.cells c t)) := by
  have hbl : Below w.heap.size w (w.alloc (.cells c t)) := (Below.refl _ _).alloc (Nat.le_refl _) _
  have hc : Ch B N5 A.tag (upd A.tag w.heap.size 5) w (w.alloc (.cells c t)) := Ch.of_tags hbl (fun b hb => upd_other _ _ _ _ (by omega))
  exact ⟨_, hM.ch (hM.lay.box _) hM.low (SameG.of rfl) hc, rfl, upd_same _ _ _, hc⟩
theorem MSt.below {w w' : World} {B mb m : Nat} {F : Nat → PF} {A : AdM} {s : Mc} {en : Int} (hM : MSt w B mb m F A s en) (h : Below w.heap.size w w') : MSt w' B mb m F A s en := hM.ch (hM.lay.below h) hM.low (SameG.refl _) (Ch.of_below h)

set_option maxRecDepth 100000 in
set_option maxHeartbeats 1000000 in
theorem MSt.branch {w : World} {B mb m : Nat} {F : Nat → PF} {A : AdM} {s : Mc} {en : Int} (hM : MSt w B mb m F A s en) {f : Fr} {rest : List Fr} (hs : s.fr = f :: rest) (v : V) (h0 : v.k = 0 → v.n = 0) (to : Nat) (hpc : f.pc ≤ 1000) :
    Calls Tryz.prog 128 #[.pointer (some ⟨A.FB rest.length, 0, none⟩), .agg #[.int .i64 v.k, .int .i64 v.n], .int .i64 to] w fun e w' => e = .returned (.tuple #[]) ∧ Goes w B mb m F A { s with fr := { f with pc := if zeroP v = true then to else f.pc + 1 } :: rest } en w' ∧ w'.cell? ⟨A.FB rest.length, 4, none⟩ = some (.slice none 0 0) := by
  obtain ⟨A1, hM1, hg1, ht1, hc1⟩ := hM.box #[.int .i64 v.k, .int .i64 v.n] 43
  have hfb1 : A1.FB rest.length = A.FB rest.length := by unfold AdM.FB; rw [hg1]
  have hz := zero_is h0
  generalize hz1 : decide (v.k = 0 ∧ v.n = 0) = z1 at hz
  generalize hz2 : decide (v.k = 1 ∧ v.n = 0) = z2 at hz
  have heq1 := eqlVal v ⟨0, 0⟩ z1 (by rw [← hz1])
  have heq2 := eqlVal v ⟨1, 0⟩ z2 (by rw [← hz2])
  rw [hz]
  have HG := hid (fun (X : World) (hX : Below (w.alloc (.cells #[.int .i64 v.k, .int .i64 v.n] 43)).heap.size (w.alloc (.cells #[.int .i64 v.k, .int .i64 v.n] 43)) X) (pc : Nat) => (show Goes w B mb m F A { s with fr := { f with pc := pc } :: rest } en (X.setCell ⟨A.FB rest.length, 1, none⟩ (.int .i64 pc)) ∧ (X.setCell ⟨A.FB rest.length, 1, none⟩ (.int .i64 pc)).cell? ⟨A.FB rest.length, 4, none⟩ = some (.slice none 0 0) from by
    have := (hM1.below hX).goto hs pc
    have h4 := ((hM1.below hX).top hs).1
    rw [hfb1] at this h4
    exact ⟨Goes.on (SameG.of hg1) (hc1.trans' hX) (fb_of hg1) this, cell4_set h4 _⟩))
  have HT := hid (fun (X : World) (hX : Below (w.alloc (.cells #[.int .i64 v.k, .int .i64 v.n] 43)).heap.size (w.alloc (.cells #[.int .i64 v.k, .int .i64 v.n] 43)) X) => (show X.cell? ⟨A.FB rest.length, 1, none⟩ = some (.int .i64 f.pc) ∧ X.frozen? ⟨A.FB rest.length, 1, none⟩ = false from by
    obtain ⟨_, _, u3, u4, _⟩ := (hM1.below hX).top hs
    rw [hfb1] at u3 u4
    exact ⟨u3, u4⟩))
  have hb : (w.alloc (.cells #[.int .i64 v.k, .int .i64 v.n] 43)).heap[w.heap.size]? = some (.cells #[.int .i64 v.k, .int .i64 v.n] 43 (0, 0)) := Go.Deep.blk_alloc_new _ _
  have HB := hid hb
  clear hM hM1 hg1 ht1 hc1 hfb1 hz hz1 hz2 hb
  generalize A.FB rest.length = fb at *
  have hp0 : 0 ≤ (f.pc : Int) ∧ (f.pc : Int) ≤ 1000 := by omega
  have epc : ((f.pc + 1 : Nat) : Int) = (f.pc : Int) + 1 := by omega
  have e5 : wrap64 ((f.pc : Int) + 1) = (f.pc : Int) + 1 := by unfold wrap64; omega
  go_enter Tryz.func128, Tryz.ntmps128
  go_wp2_with fail
  generalize w.alloc (.cells #[.int .i64 v.k, .int .i64 v.n] 43) = W at *
  have hS0 : Hb [(w.heap.size, #[Value.int .i64 v.k, Value.int .i64 v.n], 43)] W.drew := fun t ht => by
    obtain rfl : t = (w.heap.size, #[Value.int .i64 v.k, Value.int .i64 v.n], 43) := by simpa using ht
    exact HB.out
  cases z1
  · refine region_lex (Hb [(w.heap.size, #[Value.int .i64 v.k, Value.int .i64 v.n], 43)]) [(false, 0), (false, 1), (false, 2), (false, 3), (false, 4), (true, 5), (false, 6), (false, 7)] (by kernel_rfl) (by kernel_rfl) (panic_frame _ _ _) hS0 ?_
    have S0 := hid hS0
    clear hS0
    simp only [lexL, List.getElem?_cons_zero, List.getElem?_cons_succ]
    iterate 5 (refine lexW_free (by rfl) (by intro w' hS'; obtain ⟨y0, y1, _, _⟩ := hS'.two List.mem_cons_self; clear hS'; go_simp; exact rfl) ?_; simp only [Act.put, List.setIfInBounds_toArray, List.set_cons_zero, List.set_cons_succ])
    refine lexW_sole (fun K hK => ?_)
    go_simp
    refine (numberB _ _).mono ?_
    rintro e w2 ⟨rfl, k2⟩
    have hX : Below W.heap.size W w2 := (Below.refl _ _).drew.trans k2
    have HX := hid hX
    refine hK.out _ _ (S0.out.below k2) ?_
    clear hK K k2 hX
    iterate 2 (refine lexW_free (by rfl) (by intro w' hS'; clear hS'; go_simp; exact rfl) ?_; simp only [Act.put, List.setIfInBounds_toArray, List.set_cons_zero, List.set_cons_succ])
    refine lexW_done ?_
    obtain ⟨u3, u4⟩ := HT.out w2 HX.out
    cases z2
    · have HQ := hid (HG.out w2 HX.out (f.pc + 1))
      rw [epc] at HQ
      go_wp2
      go_end0
      exact ⟨rfl, HQ.out⟩
    · have HQ := hid (HG.out w2 HX.out to)
      go_wp2
      go_end0
      exact ⟨rfl, HQ.out⟩
  · refine region_lex (Hb [(w.heap.size, #[Value.int .i64 v.k, Value.int .i64 v.n], 43)]) [(false, 0), (false, 1), (false, 2), (false, 3), (false, 4), (false, 5), (false, 6), (false, 7)] (by kernel_rfl) (by kernel_rfl) (panic_frame _ _ _) hS0 ?_
    clear hS0
    simp only [lexL, List.getElem?_cons_zero, List.getElem?_cons_succ]
    iterate 4 (refine lexW_free (by rfl) (by intro w' hS'; obtain ⟨y0, y1, _, _⟩ := hS'.two List.mem_cons_self; clear hS'; go_simp; exact rfl) ?_; simp only [Act.put, List.setIfInBounds_toArray, List.set_cons_zero, List.set_cons_succ])
    iterate 3 (refine lexW_skip (by rfl) ?_; simp only [Act.put, List.setIfInBounds_toArray, List.set_cons_zero, List.set_cons_succ])
    refine lexW_free (by rfl) (by intro w' hS'; clear hS'; go_simp; exact rfl) ?_
    simp only [Act.put, List.setIfInBounds_toArray, List.set_cons_zero, List.set_cons_succ]
    refine lexW_done ?_
    have hX : Below W.heap.size W W.drew := (Below.refl _ _).drew
    obtain ⟨u3, u4⟩ := HT.out W.drew hX
    have HQ := hid (HG.out W.drew hX to)
    clear hX
    go_wp2
    go_end0
    exact ⟨rfl, HQ.out⟩

/-- What turn leaves. -/
def TurnE (w : World) (B mb m : Nat) (F : Nat → PF) (A : AdM) (k : Nat) (s' : Mc) (en : Int) (e : Ending) (w' : World) : Prop :=
  e = .returned (.tuple #[]) ∧ Goes w B mb m F A s' en w' ∧ w'.cell? ⟨A.FB k, 4, none⟩ = some (.slice none 0 0)

set_option maxRecDepth 100000 in
set_option maxHeartbeats 1000000 in
theorem turn_jump {w : World} {B mb m : Nat} {F : Nat → PF} {A : AdM} {s : Mc} {en : Int} (hM : MSt w B mb m F A s en) {f : Fr} {rest : List Fr} (hs : s.fr = f :: rest) (to : Nat) :
    Calls Tryz.prog 120 #[.pointer (some ⟨mb, 0, none⟩), .pointer (some ⟨A.FB rest.length, 0, none⟩), .agg #[.int .i64 10, .int .i64 to]] w (TurnE w B mb m F A rest.length { s with fr := { f with pc := to } :: rest } en) := by
  obtain ⟨A1, hM1, hg1, ht1, hc1⟩ := hM.box #[.int .i64 10, .int .i64 to] 33
  have hfb1 : A1.FB rest.length = A.FB rest.length := fb_of hg1 _
  have hgo := hM1.goto hs to
  obtain ⟨h4, _, u3, u4, _⟩ := hM1.top hs
  rw [hfb1] at hgo h4 u3 u4
  have HQ := hid (And.intro (Goes.on (SameG.of hg1) hc1 (fb_of hg1) hgo) (cell4_set h4 (.int .i64 to)))
  clear hM hM1 hg1 ht1 hc1 hfb1 hgo h4
  unfold TurnE
  generalize A.FB rest.length = fb at *
  go_enter Tryz.func120, Tryz.ntmps120
  go_wp2
  go_end0
  exact ⟨rfl, HQ.out⟩

set_option maxRecDepth 100000 in
set_option maxHeartbeats 1000000 in
theorem turn_branch {w : World} {B mb m : Nat} {F : Nat → PF} {A : AdM} {s : Mc} {en : Int} (hM : MSt w B mb m F A s en) {f : Fr} {rest : List Fr} (hs : s.fr = f :: rest) {v : V} {st : List V} (hst : f.stk = v :: st) (hn : st.length ≤ 60) (h0 : v.k = 0 → v.n = 0) (to : Nat) (hpc : f.pc ≤ 1000) :
    Calls Tryz.prog 120 #[.pointer (some ⟨mb, 0, none⟩), .pointer (some ⟨A.FB rest.length, 0, none⟩), .agg #[.int .i64 11, .int .i64 to]] w (TurnE w B mb m F A rest.length { s with fr := { f with stk := st, pc := if zeroP v = true then to else f.pc + 1 } :: rest } en) := by
  have H0 := hid ((Cur.start hM.lay hM.le).box #[.int .i64 11, .int .i64 to] 33)
  have HM := hid hM
  generalize hfb : A.FB rest.length = fb
  have HF := hid hfb
  clear hM hfb
  generalize hS' : ({ s with fr := { f with stk := st, pc := if zeroP v = true then to else f.pc + 1 } :: rest } : Mc) = s'
  have HS := hid hS'
  clear hS'
  go_enter Tryz.func120, Tryz.ntmps120
  go_wp2_with fail
  generalize w.alloc (.cells #[.int .i64 11, .int .i64 to] 33) = W at *
  have H1 := hid H0.out.drew
  clear H0
  refine region_lex (Hb [(w.heap.size, #[Value.int .i64 11, Value.int .i64 to], 33)]) [(false, 0), (false, 1), (false, 2), (false, 3), (false, 5), (false, 6), (true, 4), (true, 7)] (by kernel_rfl) (by kernel_rfl) (panic_block _ _ _) H1.out.hb ?_
  simp only [lexL, List.getElem?_cons_zero, List.getElem?_cons_succ]
  iterate 6 (refine lexW_free (by rfl) (by intro w' hS'; obtain ⟨y0, y1, _, _⟩ := hS'.two List.mem_cons_self; clear hS'; go_simp; exact rfl) ?_; simp only [Act.put, List.setIfInBounds_toArray, List.set_cons_zero, List.set_cons_succ])
  generalize W.drew = w1 at H1 ⊢
  refine lexW_sole (fun K hK => ?_)
  go_simp
  have hp := H1.out.pop hs hst (by omega)
  rw [HF.out] at hp
  refine hp.mono ?_
  rintro e w2 ⟨rfl, c2⟩
  have H2 := hid c2
  refine hK.out _ _ c2.hb ?_
  clear hK K hp c2 H1
  refine lexW_sole (fun K hK => ?_)
  go_simp
  obtain ⟨_, A2, l2, g2, c2, b2⟩ := H2.out
  have hM2 : MSt w2 B mb m F A2 { s with fr := { f with stk := st } :: rest } en := HM.out.ch l2 (fun i hi => by rw [g2]; exact HM.out.low i (by rw [hs]; exact hi)) (SameG.of g2) c2
  have hbr := hM2.branch (f := { f with stk := st }) (rest := rest) rfl v h0 to hpc
  have hfb2 : A2.FB rest.length = fb := (fb_of g2 _).trans HF.out
  rw [hfb2] at hbr
  refine hbr.mono ?_
  rintro e w3 ⟨rfl, g3, k3⟩
  have HQ := hid (show TurnE w B mb m F A rest.length s' en (.returned (.tuple #[])) w3 from by rw [← HS.out]; exact ⟨rfl, Goes.on (SameG.of g2) c2 (fb_of g2) g3, by rw [HF.out]; exact k3⟩)
  obtain ⟨A3, m3, _, c3, _⟩ := g3
  have hb3 : Hb [(w.heap.size, #[Value.int .i64 11, Value.int .i64 to], 33)] w3 := fun t ht => (b2.keep c3 n55 t ht).1
  refine hK.out _ _ hb3 ?_
  clear hK K hbr l2 g2 c2 b2 hM2 m3 c3 hb3 k3
  refine lexW_done ?_
  go_wp2
  go_end0
  exact HQ.out

set_option maxRecDepth 100000 in
set_option maxHeartbeats 1000000 in
theorem turn_return {w : World} {B mb m : Nat} {F : Nat → PF} {A : AdM} {s : Mc} {en : Int} (hM : MSt w B mb m F A s en) {f : Fr} {rest : List Fr} (hs : s.fr = f :: rest) {v : V} {st : List V} (hst : f.stk = v :: st) (hn : st.length ≤ 60) (hg : ∀ g, g ∈ rest → g.stk.length ≤ 60) (hr : rest.length ≤ 60) (n : Int) :
    Calls Tryz.prog 120 #[.pointer (some ⟨mb, 0, none⟩), .pointer (some ⟨A.FB rest.length, 0, none⟩), .agg #[.int .i64 14, .int .i64 n]] w (TurnE w B mb m F A rest.length (returnP f rest s) en) := by
  have H0 := hid ((Cur.start hM.lay hM.le).box #[.int .i64 14, .int .i64 n] 33)
  have HM := hid hM
  generalize hfb : A.FB rest.length = fb
  have HF := hid hfb
  clear hM hfb
  generalize hS' : returnP f rest s = s'
  have HS := hid hS'
  clear hS'
  go_enter Tryz.func120, Tryz.ntmps120
  go_wp2_with fail
  generalize w.alloc (.cells #[.int .i64 14, .int .i64 n] 33) = W at *
  have hp := H0.out.pop hs hst (by omega)
  rw [HF.out] at hp
  refine hp.mono ?_
  rintro e w2 ⟨rfl, _, A2, l2, g2, c2, b2⟩
  have hM2 : MSt w2 B mb m F A2 { s with fr := { f with stk := st } :: rest } en := HM.out.ch l2 (fun i hi => by rw [g2]; exact HM.out.low i (by rw [hs]; exact hi)) (SameG.of g2) c2
  have hfb2 : A2.FB rest.length = fb := (fb_of g2 _).trans HF.out
  have h4 := (hM2.top rfl).1
  rw [hfb2] at h4
  have H2 := hid (And.intro hM2 (And.intro g2 (And.intro c2 h4)))
  have HF2 := hid hfb2
  clear l2 g2 c2 b2 hM2 hp H0 h4 hfb2
  cases rest with
  | nil =>
    have hrp : returnP f [] s = { s with fr := [], high := s.high.drop 1, gives := v, fin := 1 } := by simp [returnP, hst]
    have HR := hid (hrp.symm.trans HS.out)
    clear hrp
    have HG := hid (giveBackEnd w2 B mb m F A2 _ en { f with stk := st } v H2.out.1 rfl)
    clear hst
    go_wp2_with fail
    refine HG.out.mono ?_
    rintro e w3 ⟨rfl, g3, k3⟩
    obtain ⟨A3, m3, s3, c3, f3⟩ := Goes.on (SameG.of H2.out.2.1) H2.out.2.2.1 (fb_of H2.out.2.1) g3
    have k4 : w3.cell? ⟨fb, 4, none⟩ = some (.slice none 0 0) := by
      have e := HF2.out
      simp only [List.length_nil] at e
      rw [e] at k3
      exact k3.trans H2.out.2.2.2
    have HQ := hid (show TurnE w B mb m F A ([] : List Fr).length s' en (.returned (.tuple #[])) w3 from by
      rw [← HR.out]
      refine ⟨rfl, ⟨A3, ⟨m3.lay.like rfl rfl rfl rfl rfl, m3.low, m3.made, m3.pg, m3.le⟩, s3, c3, f3⟩, ?_⟩
      rw [HF.out]
      exact k4)
    clear g3 k3 k4 m3 c3 f3
    go_wp2
    go_end0
    exact HQ.out
  | cons g r =>
    have hrp : returnP f (g :: r) s = { s with fr := { g with stk := v :: g.stk } :: r, high := s.high.drop 1 } := by simp [returnP, hst]
    have HR := hid (hrp.symm.trans HS.out)
    clear hrp
    have HG := hid (giveBackMid w2 B mb m F A2 _ en { f with stk := st } g r v H2.out.1 rfl (hg g List.mem_cons_self) (by simp at hr; omega))
    clear hst
    go_wp2_with fail
    refine HG.out.mono ?_
    rintro e w3 ⟨rfl, g3, k3⟩
    obtain ⟨A3, m3, s3, c3, f3⟩ := Goes.on (SameG.of H2.out.2.1) H2.out.2.2.1 (fb_of H2.out.2.1) g3
    have k4 : w3.cell? ⟨fb, 4, none⟩ = some (.slice none 0 0) := by
      have e := HF2.out
      simp only [List.length_cons] at e
      rw [e] at k3
      exact k3.trans H2.out.2.2.2
    have HQ := hid (show TurnE w B mb m F A (g :: r).length s' en (.returned (.tuple #[])) w3 from by
      rw [← HR.out]
      refine ⟨rfl, ⟨A3, ⟨m3.lay.like rfl rfl rfl rfl rfl, m3.low, m3.made, m3.pg, m3.le⟩, s3, c3, f3⟩, ?_⟩
      rw [HF.out]
      exact k4)
    clear g3 k3 k4 m3 c3 f3
    go_wp2
    go_end0
    exact HQ.out
end Go.Proofs.YtkafkipjedpohaaGreatDoor

/-
  The project's machine: turn: Call; step.
-/
namespace Go.Proofs.YtkafkipjedpohaaGreatDoor
open Go.RowKit

theorem Goes.like {w w' : World} {B mb m : Nat} {F : Nat → PF} {A : AdM} {s s' : Mc} {en : Int} (h : Goes w B mb m F A s en w') (e1 : s'.fr = s.fr) (e2 : s'.arr = s.arr) (e3 : s'.out = s.out) (e4 : s'.gives = s.gives) (e5 : s'.steps = s.steps) : Goes w B mb m F A s' en w' := by
  obtain ⟨A3, m3, s3, c3, f3⟩ := h
  exact ⟨A3, ⟨m3.lay.like e1 e2 e3 e4 e5, by rw [e1]; exact m3.low, m3.made, m3.pg, m3.le⟩, s3, c3, by rw [e1]; exact f3⟩

/-- What a step, or a part of one, leaves: a trap, or not. -/
def StepE (w : World) (B mb m : Nat) (F : Nat → PF) (A : AdM) (s' : Mc) (n : Nat) (en : Int) (e : Ending) (w' : World) : Prop :=
  (3 ≤ s'.fin ∧ e = trapE s'.fin ∧ Goes w B mb m F A { s' with steps := n } en w') ∨ (s'.fin < 3 ∧ e = .returned (.tuple #[]) ∧ Goes w B mb m F A s' en w')

set_option maxRecDepth 100000 in
set_option maxHeartbeats 1000000 in
theorem turn_call {w : World} {B mb m : Nat} {F : Nat → PF} {A : AdM} {s : Mc} {en : Int} (hM : MSt w B mb m F A s en) {f : Fr} {rest : List Fr} (hs : s.fr = f :: rest) (xs r : List V) (g : V) (cnt : Nat) (hst : f.stk = xs ++ g :: r) (hxs : xs.length = cnt) (hcnt : cnt ≤ 8) (hr : r.length ≤ 20) (hg : g.k = 3 → 0 ≤ g.n ∧ g.n < m) (hfun : ∀ k, k < m → 0 ≤ (F k).locals ∧ (F k).locals ≤ 8 ∧ (F k).args ≤ (F k).locals) (hfr : rest.length ≤ 30) (hm : m ≤ 8) (hpc : f.pc ≤ 64) (h0 : s.fin = 0) :
    Calls Tryz.prog 120 #[.pointer (some ⟨mb, 0, none⟩), .pointer (some ⟨A.FB rest.length, 0, none⟩), .agg #[.int .i64 13, .int .i64 cnt]] w fun e w' =>
      (3 ≤ (callP F cnt f rest s).fin ∧ e = trapE (callP F cnt f rest s).fin ∧ Goes w B mb m F A (callP F cnt f rest s) en w') ∨ ((callP F cnt f rest s).fin = 0 ∧ TurnE w B mb m F A rest.length (callP F cnt f rest s) en e w') := by
  obtain ⟨A1, hM1, hg1, ht1, hc1⟩ := hM.box #[.int .i64 13, .int .i64 cnt] 33
  have hfb1 : A1.FB rest.length = A.FB rest.length := fb_of hg1 _
  have hcall := callM _ B mb m A1 s en F f rest xs r g cnt hM1 hs hst hxs hcnt hr hg hfun hfr hm hpc
  rw [hfb1] at hcall
  have hd : f.stk.drop cnt = g :: r := by rw [hst, List.drop_append_of_le_length (by omega), List.drop_of_length_le (by omega)]; rfl
  have ht : f.stk.take cnt = xs := by rw [hst, List.take_append_of_le_length (by omega), List.take_of_length_le (by omega)]
  have hcp : callP F cnt f rest s = if g.k ≠ 3 ∨ (F g.n.toNat).args ≠ cnt then { s with fr := { f with stk := r } :: rest, fin := 6 } else if 24 ≤ rest.length + 1 then { s with fr := { f with stk := r } :: rest, fin := 7 } else { s with fr := { fn := g.n.toNat, pc := 0, loc := xs.reverse ++ List.replicate ((F g.n.toNat).locals.toNat - cnt) vnil, stk := [] } :: { f with pc := f.pc + 1, stk := r } :: rest, high := s.made g.n.toNat :: s.high } := by
    unfold callP
    rw [hd, ht]
  have hfbne := (hM.top hs).2.1
  have HC := hid (And.intro hcall (And.intro hcp (And.intro hg1 hc1)))
  generalize callP F cnt f rest s = s' at *
  have HF : Hid (A.FB rest.length = A.FB rest.length) := rfl
  clear hM hM1 hg1 ht1 hc1 hfb1 hcall hcp hd ht hst
  generalize hfb : A.FB rest.length = fb at *
  go_enter Tryz.func120, Tryz.ntmps120
  go_wp2_with fail
  refine HC.out.1.mono ?_
  obtain ⟨_, hcp, hg1, hc1⟩ := HC.out
  rintro e w3 (⟨k1, rfl, g3⟩ | ⟨k1, k2, rfl, g3⟩ | ⟨k1, k2, rfl, g3⟩)
  · have e1 := hcp.trans (if_pos k1)
    refine ⟨rfl, Or.inl ⟨by rw [e1]; show (3 : Int) ≤ 6; decide, by rw [e1]; rfl, ?_⟩⟩
    rw [e1]
    exact (Goes.on (SameG.of hg1) hc1 (fb_of hg1) g3).like rfl rfl rfl rfl rfl
  · have e1 := hcp.trans ((if_neg k1).trans (if_pos k2))
    refine ⟨rfl, Or.inl ⟨by rw [e1]; show (3 : Int) ≤ 7; decide, by rw [e1]; rfl, ?_⟩⟩
    rw [e1]
    exact (Goes.on (SameG.of hg1) hc1 (fb_of hg1) g3).like rfl rfl rfl rfl rfl
  · have e1 := hcp.trans ((if_neg k1).trans (if_neg k2))
    have g4 := Goes.on (SameG.of hg1) hc1 (fb_of hg1) g3
    have k4 : w3.cell? ⟨fb, 4, none⟩ = some (.slice none 0 0) := by
      obtain ⟨A3, m3, s3, c3, f3⟩ := g4
      have e3 := f3 rest.length (by simp)
      obtain ⟨q1, q2, q3⟩ := m3.lay.fb rest.length (by show rest.length < rest.length + 1 + 1; omega)
      rw [m3.low _ (by show rest.length < rest.length + 1 + 1; omega), e3, hfb] at q1
      exact (cell_heap q1).trans rfl
    have HQ := hid (show (3 ≤ s'.fin ∧ (Ending.returned (.tuple #[])) = trapE s'.fin ∧ Goes w B mb m F A s' en w3) ∨ (s'.fin = 0 ∧ TurnE w B mb m F A rest.length s' en (.returned (.tuple #[])) w3) from by
      rw [e1]
      exact Or.inr ⟨h0, rfl, g4.like rfl rfl rfl rfl rfl, by rw [hfb]; exact k4⟩)
    clear g3 g4 k4 k1 k2 e1 hcp hg1 hc1
    go_wp2
    go_end0
    exact HQ.out

/-- The instruction that comes next, as it is read. -/
theorem ins_cells {w : World} {B mb m : Nat} {F : Nat → PF} {A : AdM} {s : Mc} {en : Int} (hM : MSt w B mb m F A s en) {f : Fr} {rest : List Fr} (hs : s.fr = f :: rest) (hfn : f.fn < m) (hpc : f.pc < (F f.fn).cn) :
    ∃ pb po pc cb co cc, w.cell? ⟨mb, 0, none⟩ = some (.slice (some ⟨pb, po, none⟩) m pc) ∧ w.cell? ⟨A.FB rest.length, 0, none⟩ = some (.int .i64 f.fn) ∧ w.cell? ⟨A.FB rest.length, 1, none⟩ = some (.int .i64 f.pc) ∧ w.cell? ⟨pb, po + f.fn * 3 + 2, none⟩ = some (.slice (some ⟨cb, co, none⟩) (F f.fn).cn cc) ∧ w.cell? ⟨cb, co + f.pc * 2, none⟩ = some (.int .i64 ((F f.fn).op f.pc)) ∧ w.cell? ⟨cb, co + f.pc * 2 + 1, none⟩ = some (.int .i64 ((F f.fn).ar f.pc)) := by
  obtain ⟨_, _, u3, _, u5, _, _⟩ := hM.top hs
  obtain ⟨pb, po, pc, CA, CC, hpv, hPA, hpb, _⟩ := hM.pg.at_
  have s2 := (hPA.fn f.fn hfn).slice
  obtain ⟨cb, co, hca, hcb, hcode⟩ := (hPA.fn f.fn hfn).code (by omega)
  rw [hca] at s2
  obtain ⟨k0, k1⟩ := hcode f.pc hpc
  exact ⟨pb, po, pc, cb, co, CC f.fn, by rw [cell_heap hM.lay.run, ← hpv]; rfl, u5, u3, s2, k0, k1⟩

set_option maxRecDepth 100000 in
set_option maxHeartbeats 1000000 in
theorem step_pre {w : World} {B mb m : Nat} {F : Nat → PF} {A : AdM} {s : Mc} {en : Int} (hM : MSt w B mb m F A s en) {f : Fr} {rest : List Fr} (hs : s.fr = f :: rest) (hfn : f.fn < m) (hpc : f.pc < (F f.fn).cn) (op ar : Int) (hop : (F f.fn).op f.pc = op) (har : (F f.fn).ar f.pc = ar) 
    (R : Ending → World → Prop) (t : Bool) (ht : decide (op = 10 ∨ op = 11 ∨ op = 13 ∨ op = 14) = t)
    (hturn : t = true → ∀ X, Below w.heap.size w X → Calls Tryz.prog 120 #[.pointer (some ⟨mb, 0, none⟩), .pointer (some ⟨A.FB rest.length, 0, none⟩), .agg #[.int .i64 op, .int .i64 ar]] X fun e w' => (∃ t, e = trapE t ∧ R e w') ∨ (e = .returned (.tuple #[]) ∧ Calls Tryz.prog 88 #[.pointer (some ⟨mb, 0, none⟩), .pointer (some ⟨A.FB rest.length, 0, none⟩), .int .i64 1] w' fun e w'' => e = .returned (.tuple #[]) ∧ R e w''))
    (hstr : t = false → ∀ X, Below w.heap.size w X → Calls Tryz.prog 121 #[.pointer (some ⟨mb, 0, none⟩), .pointer (some ⟨A.FB rest.length, 0, none⟩), .agg #[.int .i64 op, .int .i64 ar]] X fun e w' => (∃ t, e = trapE t ∧ R e w') ∨ (e = .returned (.tuple #[]) ∧ Calls Tryz.prog 122 #[.pointer (some ⟨mb, 0, none⟩), .pointer (some ⟨A.FB rest.length, 0, none⟩), .int .i64 1] w' fun e w'' => e = .returned (.tuple #[]) ∧ R e w'')) :
    Calls Tryz.prog 104 #[.pointer (some ⟨mb, 0, none⟩), .pointer (some ⟨A.FB rest.length, 0, none⟩)] w R := by
  obtain ⟨pb, po, pc, cb, co, cc, c0, c1, c2, c3, c4, c5⟩ := ins_cells hM hs hfn hpc
  rw [hop] at c4
  rw [har] at c5
  have HS := hid (And.intro hturn hstr)
  have HC := hid (fun (w' : World) (h : Below w.heap.size w w') => (show w'.cell? ⟨mb, 0, none⟩ = some (.slice (some ⟨pb, po, none⟩) m pc) ∧ w'.cell? ⟨A.FB rest.length, 0, none⟩ = some (.int .i64 f.fn) ∧ w'.cell? ⟨A.FB rest.length, 1, none⟩ = some (.int .i64 f.pc) ∧ w'.cell? ⟨pb, po + f.fn * 3 + 2, none⟩ = some (.slice (some ⟨cb, co, none⟩) (F f.fn).cn cc) ∧ w'.cell? ⟨cb, co + f.pc * 2, none⟩ = some (.int .i64 op) ∧ w'.cell? ⟨cb, co + f.pc * 2 + 1, none⟩ = some (.int .i64 ar) from
    ⟨(h.cell (p := ⟨mb, 0, none⟩) (World.block_lt_of_cell? w _ c0)).trans c0, (h.cell (p := ⟨A.FB rest.length, 0, none⟩) (World.block_lt_of_cell? w _ c1)).trans c1, (h.cell (p := ⟨A.FB rest.length, 1, none⟩) (World.block_lt_of_cell? w _ c2)).trans c2, (h.cell (p := ⟨pb, po + f.fn * 3 + 2, none⟩) (World.block_lt_of_cell? w _ c3)).trans c3, (h.cell (p := ⟨cb, co + f.pc * 2, none⟩) (World.block_lt_of_cell? w _ c4)).trans c4, (h.cell (p := ⟨cb, co + f.pc * 2 + 1, none⟩) (World.block_lt_of_cell? w _ c5)).trans c5⟩))
  have i0 : (0 : Int) ≤ (f.fn : Int) := by omega
  have i1 : (f.fn : Int) < (m : Int) := by omega
  have i2 : (0 : Int) ≤ (f.pc : Int) := by omega
  have i3 : (f.pc : Int) < ((F f.fn).cn : Int) := by omega
  have HM := hid (fun X => turnsM op X)
  rw [ht] at HM
  clear hM hstr hturn c0 c1 c2 c3 c4 c5 hop har ht
  generalize (F f.fn).cn = cn at *
  generalize A.FB rest.length = fb at *
  generalize f.fn = fnl at *
  generalize f.pc = pcl at *
  go_enter Tryz.func104, Tryz.ntmps104
  go_wp2_with fail
  refine region_lex (Below w.heap.size w) [(false, 0), (false, 1), (false, 2), (false, 3), (false, 4), (false, 5), (false, 6), (false, 7), (false, 8), (false, 9), (false, 10), (false, 11), (false, 12), (false, 13), (false, 14), (false, 15), (false, 16), (true, 17), (true, 18)] (by kernel_rfl) (by kernel_rfl) (panic_frame _ _ _) (Below.refl _ _).drew ?_
  simp only [lexL, List.getElem?_cons_zero, List.getElem?_cons_succ]
  iterate 17 (refine lexW_free (by rfl) (by intro w' hS'; obtain ⟨q0, q1, q2, q3, q4, q5⟩ := HC.out w' hS'; clear hS'; go_simp; exact rfl) ?_; simp only [Act.put, List.setIfInBounds_toArray, List.set_cons_zero, List.set_cons_succ])
  have hW : Below w.heap.size w (w.alloc (.cells #[.int .i64 0, .int .i64 0] 33)).drew := ((Below.refl _ _).alloc (Nat.le_refl _) _).drew
  have hb : (w.alloc (.cells #[.int .i64 0, .int .i64 0] 33)).drew.heap[w.heap.size]? = some (.cells #[.int .i64 0, .int .i64 0] 33 (0, 0)) := Go.Deep.blk_alloc_new w _
  refine lexW_sole (fun K hK => ?_)
  go_simp
  refine hK.out _ _ hW ?_
  clear hK K
  have HW := hid (And.intro (hW.setCell (p := ⟨w.heap.size, 0, none⟩) (Nat.le_refl _) (.int .i64 op)) hb)
  generalize (w.alloc (.cells #[.int .i64 0, .int .i64 0] 33)).drew = W at *
  have x0 : W.cell? ⟨w.heap.size, 0, none⟩ = some (.int .i64 0) := (cell_heap hb).trans rfl
  have x1 : W.cell? ⟨w.heap.size, 1, none⟩ = some (.int .i64 0) := (cell_heap hb).trans rfl
  have z0 : W.frozen? ⟨w.heap.size, 0, none⟩ = false := frozen_heap hb
  have z1 : W.frozen? ⟨w.heap.size, 1, none⟩ = false := frozen_heap hb
  clear hW hb
  refine lexW_sole (fun K hK => ?_)
  go_simp
  have hX := HW.out.1.setCell (p := ⟨w.heap.size, 1, none⟩) (Nat.le_refl _) (.int .i64 ar)
  refine hK.out _ _ hX ?_
  clear hK K x0 x1 z0 z1
  have hb2 := heap_set (o := 1) (heap_set (o := 0) HW.out.2 (.int .i64 op)) (.int .i64 ar)
  have HX := hid hX
  generalize (W.setCell ⟨w.heap.size, 0, none⟩ (.int .i64 op)).setCell ⟨w.heap.size, 1, none⟩ (.int .i64 ar) = X at *
  have x0 : X.cell? ⟨w.heap.size, 0, none⟩ = some (.int .i64 op) := (cell_heap hb2).trans rfl
  have x1 : X.cell? ⟨w.heap.size, 1, none⟩ = some (.int .i64 ar) := (cell_heap hb2).trans rfl
  clear hX hb2
  refine lexW_done ?_
  go_wp2_with fail
  refine (HM.out X).mono ?_
  rintro e w2 ⟨rfl, hw2⟩
  rw [hw2]
  clear hw2 w2 HM HW HC
  cases t
  · go_wp2_with fail
    refine (HS.out.2 (by simp) X HX.out).mono ?_
    rintro e w3 (⟨t, rfl, h⟩ | ⟨rfl, h⟩)
    · exact ⟨rfl, h⟩
    · have HP := hid h
      clear h
      go_wp2_with fail
      refine HP.out.mono ?_
      rintro e w4 ⟨rfl, h⟩
      have HR := hid h
      clear h
      go_wp2
      go_end0
      exact HR.out
  · go_wp2_with fail
    refine (HS.out.1 (by simp) X HX.out).mono ?_
    rintro e w3 (⟨t, rfl, h⟩ | ⟨rfl, h⟩)
    · exact ⟨rfl, h⟩
    · have HP := hid h
      clear h
      go_wp2_with fail
      refine HP.out.mono ?_
      rintro e w4 ⟨rfl, h⟩
      have HR := hid h
      clear h
      go_wp2
      refine bodyPost_ret (results_none rfl _ _ _) rfl ?_
      exact HR.out
end Go.Proofs.YtkafkipjedpohaaGreatDoor
