/-
  The project's machine: Run, Outcome; upshift's Run: of a run that is Halted.
-/
import Derived.Test.YtnhjjjijeeobbaaDoorM11
import Derived.Test.YtnhjjjijeeobbaaDoorC1
namespace Go.Proofs.YtnhjjjijeeobbaaDoor
open Go.RowKit

/-- Ahead of its first frame. -/
def mc0 : Mc := ⟨[], [], [], vnil, 0, 0, [], fun _ => false, 0, 0, 0⟩
def mcStart (F : Nat → PF) : Mc := { mc0 with fr := [⟨0, 0, List.replicate (F 0).locals.toNat vnil, []⟩] }

theorem LayM.fresh (w : World) (pv : Value) : LayM (w.alloc (.cells #[pv, .slice none 0 0, .slice none 0 0, .int .i64 0, .slice none 0 0, .int .i64 0, .int .i64 0, .int .i64 0, .int .i64 0] 119)) w.heap.size w.heap.size ⟨fun b => if b = w.heap.size then 0 else 99, pv, .slice none 0 0, .slice none 0 0, .slice none 0 0, fun _ => 0, fun _ => .slice none 0 0, fun _ => .slice none 0 0, fun _ => .slice none 0 0⟩ mc0 0 := by
  refine ⟨Go.Deep.blk_alloc_new _ _, ⟨Nat.le_refl _, by simp⟩, Row.nil _ _ _ _ _ _ _, fun i hi => ?_, Row.nil _ _ _ _ _ _ _, Row.nil _ _ _ _ _ _ _, fun i hi => ?_, fun i hi => ?_, fun i hi => ?_⟩
  all_goals exact absurd hi (by simp [mc0])

/-- How it ended is set down. -/
theorem LayM.ended {w : World} {B mb : Nat} {A : AdM} {s : Mc} {en : Int} (h : LayM w B mb A s en) (e' : Int) :
    LayM (w.setCell ⟨mb, 6, none⟩ (.int .i64 e')) B mb A s e' ∧ Ch B (fun d => d = 0) A.tag A.tag w (w.setCell ⟨mb, 6, none⟩ (.int .i64 e')) := by
  have hc : Ch B (fun d => d = 0) A.tag A.tag w (w.setCell ⟨mb, 6, none⟩ (.int .i64 e')) := Ch.set w _ _ _ h.own.1 h.own.2
  refine ⟨⟨heap_set h.run _, h.own, h.fr.keep hc (by omega), fun i hi => ?_, h.ar.keep hc (by omega), h.out.keep hc (by omega), fun i hi => (h.loc i hi).keep hc (by omega), fun i hi => (h.stk i hi).keep hc (by omega), fun j hj => (h.arr j hj).keep hc (by omega)⟩, hc⟩
  obtain ⟨g1, g2, g3⟩ := h.fb i hi
  obtain ⟨g4, g5⟩ := blk_keep g1 hc (by rw [g3]; omega)
  exact ⟨g4, g2, g5.trans g3⟩

set_option maxRecDepth 100000 in
set_option maxHeartbeats 1000000 in
theorem machineRun (w : World) (m : Nat) (pv : Value) (F : Nat → PF) (S : Nat → Mc) (N fuel : Nat) (hPg : Pg w w.heap.size pv m F) (hm1 : 1 ≤ m) (hm : m ≤ 8) (hl0 : 0 ≤ (F 0).locals) (hl8 : (F 0).locals ≤ 8) (hS0 : S 0 = mcStart F) (hst : ∀ j, j ≤ N → (S j).steps = j) (hfr : ∀ j, j < N → 1 ≤ (S j).fr.length) (hend : (S N).fr = []) (hN : 0 < N) (hf : N ≤ fuel) (hf2 : fuel ≤ 100000)
    (hstep : ∀ j, j < N → ∀ (B mb : Nat) (X : World) (A1 : AdM), LayM X B mb A1 (S j) 0 → Pg X B A1.pv m F → B ≤ X.heap.size → Calls Tryd.prog 80 #[.pointer (some ⟨mb, 0, none⟩)] X (Stepped X B mb A1 (S (j + 1)) 0)) :
    Calls Tryd.prog 35 #[pv, .int .i64 fuel] w fun e w' => ∃ mb, e = .returned (.pointer (some ⟨mb, 0, none⟩)) ∧ Below w.heap.size w w' ∧
      ∃ A' : AdM, LayM w' w.heap.size mb A' (S N) 1 := by
  have hW : Below w.heap.size w (w.alloc (.cells #[pv, .slice none 0 0, .slice none 0 0, .int .i64 0, .slice none 0 0, .int .i64 0, .int .i64 0, .int .i64 0, .int .i64 0] 119)) := (Below.refl _ _).alloc (Nat.le_refl _) _
  have hnf := newFrameM _ w.heap.size w.heap.size m _ mc0 0 F 0 [] (.slice none 0 0) (LayM.fresh w pv) (hPg.below hW) hW.size (by omega) (Or.inl ⟨rfl, none, 0, rfl⟩) hl0 hl8 (by simpa using hl0) (by simp [mc0]) hm
  have HNF := hid hnf
  have HW := hid (And.intro hW (And.intro (hPg.below hW) (And.intro hS0 (And.intro hst (And.intro hfr (And.intro hend hstep))))))
  have hpvf : ∃ p n c, pv = .slice p n c := by obtain ⟨pb, po, pc, CA, CC, h, _⟩ := hPg.at_; exact ⟨_, _, _, h⟩
  obtain ⟨pp, pn, pcp, rfl⟩ := hpvf
  have e1 : max (fuel : Int) 0 = fuel := by omega
  have e2 : min (fuel : Int) 100000 = fuel := by omega
  clear hnf hW hPg hS0 hst hfr hend hstep
  go_enter Tryd.func35, Tryd.ntmps35
  go_wp2_with fail
  refine HNF.out.mono ?_
  rintro e w2 ⟨rfl, A2, l2, p2, c2⟩
  obtain ⟨hW, hPg, hS0, hst, hfr, hend, hstep⟩ := HW.out
  have hB2 := c2.below hW.size
  have l2' : LayM w2 w.heap.size w.heap.size A2 (S 0) 0 := by rw [hS0]; simpa [mcStart, mc0] using l2
  have hB2s : w.heap.size ≤ w2.heap.size := by have := hB2.size; have := hW.size; omega
  have hrun := runHalt w2 w.heap.size w.heap.size m A2 F S N fuel l2' (by rw [p2]; exact hPg.below hB2) hB2s hst hfr hend hN hf hf2 (fun j hj => hstep j hj w.heap.size w.heap.size)
  have HR := hid hrun
  have HB2 := hid (hW.trans hB2)
  have HBs := hid hB2s
  clear hrun l2 l2' p2 c2 hB2 hW hPg hS0 hst hfr hend hstep HW HNF hB2s
  go_wp2_with fail
  refine HR.out.mono ?_
  rintro e w3 ⟨rfl, A3, l3, p3, c3⟩
  have y6 : w3.cell? ⟨w.heap.size, 6, none⟩ = some (.int .i64 0) := by rw [cell_heap l3.run]; rfl
  have z6 : w3.frozen? ⟨w.heap.size, 6, none⟩ = false := frozen_heap l3.run
  obtain ⟨l4, c4⟩ := l3.ended 1
  have hB3 := c3.below HBs.out
  have hB4 := c4.below (by have := hB3.size; have := HBs.out; omega)
  have HQ := hid (And.intro ((HB2.out.trans hB3).trans hB4) l4)
  clear l3 p3 c3 l4 c4 hB3 hB4 HR
  go_wp2
  go_ret
  exact ⟨_, rfl, HQ.out.1, A3, HQ.out.2⟩

/-- A list of values that goes out: new memory. -/
def OutL (w w' : World) (v : Value) (l : List V) : Prop := Row w' w.heap.size (fun _ => 0) 0 45 2 v l.length (vcell l)

def valCells (l : List V) : List Value := (List.range (l.length * 2)).map (vcell l)

set_option maxRecDepth 100000 in
set_option maxHeartbeats 1000000 in
theorem cloneV (w : World) (B : Nat) (tag : Nat → Nat) (c : Nat) (v : Value) (l : List V) (hrow : Row w B tag c 45 2 v l.length (vcell l)) (hl : l.length ≤ 200000) :
    Calls Tryd.prog 58 #[v] w fun e w' => ∃ v', e = .returned v' ∧ Below w.heap.size w w' ∧ OutL w w' v' l := by
  rcases hrow with ⟨rfl, h0⟩ | ⟨b, cap, cur, rfl, hb, ht, hh, hc, hm, hs, hf⟩
  · have hnil := fun wx => Lib.run_eql_slice_nil (P := Tryd.prog) wx 46 45 none 0 0 0 0 Tryd.underlying46
    have HQ : Hid (OutL w w (.slice none 0 0) l) := Or.inl ⟨rfl, h0⟩
    clear h0
    go_enter Tryd.func58, Tryd.ntmps58
    go_wp2
    go_ret
    exact ⟨_, rfl, Below.refl _ _, HQ.out⟩
  · have hnil := fun wx => Lib.run_eql_slice_nil (P := Tryd.prog) wx 46 45 (some ⟨b, 0, none⟩) l.length cap 0 0 Tryd.underlying46
    have hbz := heap_lt hh
    obtain ⟨inf, hi, hz0, hz1, hz2⟩ : ∃ i, Tryd.prog.info? 45 = some i ∧ i.zero = some (.agg #[.int .i64 0, .int .i64 0]) ∧ i.size = 2 ∧ i.bytes = 16 := by
      obtain ⟨i, hi, hzz⟩ := Option.map_eq_some_iff.1 Tryd.info45
      simp only [Prod.mk.injEq] at hzz
      exact ⟨i, hi, hzz.1, hzz.2.1, hzz.2.2⟩
    have hA : Below w.heap.size w (w.alloc (.cells #[] 45)) := (Below.refl _ _).alloc (Nat.le_refl _) _
    by_cases hn : l.length = 0
    · have hrun := run_append_room_src (P := Tryd.prog) (w.alloc (.cells #[] 45)) 46 46 46 45 inf Tryd.underlying46 hi w.heap.size 0 0 0 (.slice (some ⟨b, 0, none⟩) 0 cap) 0 [] (Src.ofSlice _ Tryd.underlying46 ⟨b, 0, none⟩ 0 cap [] (by simp) (by simp) (by simp)) (by omega) (by simp) (by simp)
      have HR := hid hrun
      have HQ : Hid (OutL w (w.alloc (.cells #[] 45)) (.slice (some ⟨w.heap.size, 0, none⟩) 0 0) l) := by
        unfold Hid OutL
        rw [hn]
        exact Or.inr ⟨w.heap.size, 0, #[], rfl, Nat.le_refl _, rfl, Go.Deep.blk_alloc_new _ _, Nat.le_refl _, by unfold maxLen; omega, rfl, fun i hi => by omega⟩
      have HA := hid hA
      clear hrun hA hf hs hm hc hh
      rw [hn] at hnil ⊢
      clear hn
      go_enter Tryd.func58, Tryd.ntmps58
      go_wp2_with (at_builtin; refine wpList_append_run _ rfl _ _ 46 rfl _ _ _ _ rfl rfl HR.out ?_)
      go_ret
      exact ⟨_, rfl, HA.out, HQ.out⟩
    · have hown : (w.alloc (.cells #[] 45)).ownsRow w.heap.size 45 2 (.slice (some ⟨w.heap.size, 0, none⟩) 0 0) 0 [] :=
        ⟨rfl, Or.inr ⟨w.heap.size, 0, #[], rfl, Nat.le_refl _, Go.Deep.blk_alloc_new _ _, Nat.le_refl _, by unfold maxLen; omega, rfl, rfl⟩⟩
      have hnews : ∀ j u, (valCells l)[j]? = some u → (w.alloc (.cells #[] 45)).cell? ((⟨b, 0, none⟩ : Addr).add j) = some u := fun j u hu => by
        have hj : j < l.length * 2 := by have := (List.getElem?_eq_some_iff.1 hu).1; simpa [valCells] using this
        have hu' : vcell l j = u := by simpa [valCells, hj] using hu
        rw [Addr.add_lit, Nat.zero_add, ← hu']
        exact (hA.cell (p := ⟨b, j, none⟩) hbz).trans ((cell_heap hh).trans (hf j hj))
      have HO := hid (And.intro hown (And.intro hnews hA))
      clear hown hnews hA hf hs hm hc hh
      generalize hln : l.length = ln at *
      have HLN := hid hln
      clear hln
      go_enter Tryd.func58, Tryd.ntmps58
      go_wp2_with (at_builtin; refine stopHereM ?_)
      refine ⟨?_, trivial⟩
      refine wpList_append_lies _ rfl _ _ _ rfl w.heap.size 45 inf _ 2 16 Tryd.underlying46 hi hz0 hz1 hz2 rfl (by decide) (.slice (some ⟨w.heap.size, 0, none⟩) 0 0) 0 [] rfl HO.out.1 ⟨b, 0, none⟩ ln cap (valCells l) rfl (by simp [valCells, HLN.out]) HO.out.2.1 (fun u hu => by obtain ⟨j, _, rfl⟩ := List.mem_map.1 hu; exact vcell_one l j) (by omega) (by unfold maxLen; omega) (by omega) (by simp) _ rfl ?_
      intro g cap2 w2 hown2 hgrow hat hlt
      have hB2 : Below w.heap.size w w2 := HO.out.2.2.trans ⟨hgrow.os, hgrow.tape, hgrow.output, hgrow.size, fun k hk => hgrow.block k (by rw [World.size_alloc]; omega) (by intro e; have e' : some k = some w.heap.size := e; injection e' with e'; omega)⟩
      have hQ : OutL w w2 (.slice (some ⟨g, 0, none⟩) ln cap2) l := by
        unfold OutL
        rw [HLN.out]
        have h := Row.of_owns (tag := fun _ => 0) (c := 0) (f := vcell l) hown2 rfl (fun i hi => by
          rw [List.nil_append]
          have hi' : i < l.length * 2 := by rw [HLN.out]; omega
          simp [valCells, hi'])
        rw [Nat.zero_add] at h
        exact h
      have HQ := hid (And.intro hB2 hQ)
      clear hB2 hQ hown2 hgrow hat hlt
      go_wp2
      go_ret
      exact ⟨_, rfl, HQ.out⟩
end Go.Proofs.YtnhjjjijeeobbaaDoor
