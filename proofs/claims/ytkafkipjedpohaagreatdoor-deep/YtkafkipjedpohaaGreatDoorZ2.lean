import Derived.Test.YtkafkipjedpohaaGreatDoorY8

/-
  How compiled code is made: wait, pop, settle.
-/
namespace Go.Proofs.YtkafkipjedpohaaGreatDoor
open Go.RowKit

set_option maxRecDepth 100000 in
set_option maxHeartbeats 1000000 in
theorem waitM {w : World} {B kb : Nat} {L : Bxs} {k : Mk} (h : MkA w B kb L k) (o : Opd) (g : Nat) (cp : Array Value) (hd : OpdV L o (.func (.func g) #[] cp)) (hn : k.ws.length ≤ 2000) :
    Calls Tryz.prog 167 #[ptr kb, .func (.func g) #[] cp] w fun e w' => e = .returned (.tuple #[]) ∧ MkA w' B kb L (k.wait o) ∧ Below B w w' := by
  obtain ⟨tg, dv, wv, D, W, h⟩ := h
  have hb := h.blk
  have hbz := heap_lt hb
  obtain ⟨inf, hi, hz0, hz1, hz2⟩ : ∃ i, Tryz.prog.info? 224 = some i ∧ i.zero = some .nilFunc ∧ i.size = 1 ∧ i.bytes = 8 := by
    obtain ⟨i, hi, hzz⟩ := Option.map_eq_some_iff.1 Tryz.infoOpd
    simp only [Prod.mk.injEq] at hzz
    exact ⟨i, hi, hzz.1, hzz.2.1, hzz.2.2⟩
  have d3 : w.cell? ⟨kb, 1, none⟩ = some wv := (cell_heap hb).trans rfl
  have y3 : w.frozen? ⟨kb, 1, none⟩ = false := frozen_heap hb
  have hne1 : some kb ≠ wv.ownBlock := h.ws.other (by rw [h.own.2]; omega)
  have HC := hid h
  have HD := hid hd
  have hB := h.le
  generalize hkn : k.ws.length = n at *
  have HKN := hid hkn
  clear h hb hd hkn
  go_enter Tryz.func167, Tryz.ntmps167
  go_wp2_with (at_builtin; refine stopHereM ?_)
  refine ⟨?_, trivial⟩
  have hrow := HC.out.ws
  rw [HKN.out] at hrow
  refine wpList_append_lies _ rfl _ _ _ rfl B 224 inf _ 1 8 Tryz.underlying217 hi hz0 hz1 hz2 rfl (by decide) wv n _ rfl (hrow.owns.alloc _) ⟨w.heap.size, 0, none⟩ 1 1 [.func (.func g) #[] cp] rfl rfl (World.news_of_block (Go.Deep.blk_alloc_new w _)) (by intro u hu; simp at hu; subst hu; rfl) (by omega) (by unfold maxLen; omega) (by omega) (by simp; omega) (w.heap.size + 1) (by simp) ?_
  intro gb cap w1 hown hgrow hat hlt
  have hX : Ch B (fun _ => False) tg tg w (w.alloc (.cells #[.func (.func g) #[] cp] 224)) := Ch.of_below ((Below.refl _ _).alloc (Nat.le_refl _) _)
  have hblk : (w.alloc (.cells #[.func (.func g) #[] cp] 224)).heap[kb]? = w.heap[kb]? := Below.heap_alloc w _ kb hbz
  obtain ⟨tg', hst, hgc⟩ := (hrow.keep hX (fun h => h)).grew hown hgrow (by rcases hat with h | h; exact Or.inl h; right; rw [h]; simp) rfl
  have hlx : kb < (w.alloc (.cells #[.func (.func g) #[] cp] 224)).heap.size := by simp; omega
  have htk : tg' kb = 0 := (hgc.tags kb hlx).trans HC.out.own.2
  have hb1 : w1.heap[kb]? = some (.cells #[dv, wv, .int .i64 k.seen, .int .i64 k.passed] 219 (0, 0)) := (hgc.block kb hlx (Or.inr (by rw [HC.out.own.2]; omega))).trans (hblk.trans HC.out.blk)
  have hb2 := heap_set (o := 1) hb1 (.slice (some ⟨gb, 0, none⟩) (n + 1) cap)
  have hcs : Ch B (fun c => c = 0) tg' tg' w1 (w1.setCell ⟨kb, 1, none⟩ (.slice (some ⟨gb, 0, none⟩) (n + 1) cap)) := Ch.set w1 kb _ _ HC.out.own.1 htk
  have hst2 := hst.keep hcs (by omega)
  have hcw : Ch B (fun c => c = 2) tg tg' w w1 := (hX.mono (fun _ h => h.elim)).trans hgc
  have hws := (HC.out.ds.keep hcw (by omega)).keep hcs (by omega)
  have hbx := (HC.out.bx.keep hcw (by omega)).keep hcs (by omega)
  have hall : Ch B (fun c => c = 0 ∨ c = 2) tg tg' w (w1.setCell ⟨kb, 1, none⟩ (.slice (some ⟨gb, 0, none⟩) (n + 1) cap)) := (hcw.mono (fun _ h => Or.inr h)).trans (hcs.mono (fun _ h => Or.inl h))
  have hlen : (k.wait o).ws.length = n + 1 := by show (o :: k.ws).length = _; rw [List.length_cons, HKN.out]
  have q0 : w1.cell? ⟨kb, 1, none⟩ = some wv := (cell_heap hb1).trans rfl
  have q1 : w1.frozen? ⟨kb, 1, none⟩ = false := frozen_heap hb1
  have HQ := hid (show MkA (w1.setCell ⟨kb, 1, none⟩ (.slice (some ⟨gb, 0, none⟩) (n + 1) cap)) B kb L (k.wait o) ∧ Below B w (w1.setCell ⟨kb, 1, none⟩ (.slice (some ⟨gb, 0, none⟩) (n + 1) cap)) from by
    refine ⟨⟨tg', dv, .slice (some ⟨gb, 0, none⟩) (n + 1) cap, D, _, by have := hall.size; omega, hb2, ⟨HC.out.own.1, htk⟩, hws, HC.out.dsv, by rw [hlen]; exact hst2, fun i hi => ?_, hbx, HC.out.bB⟩, hall.below hB⟩
    rw [hlen] at hi
    show OpdV L ((o :: k.ws).reverse.getD i .pop) _
    rw [List.reverse_cons, getD_snoc _ _ _ (by rw [List.length_append, List.length_reverse, HKN.out]; exact hi), List.length_reverse, HKN.out]
    by_cases c : i < n
    · rw [if_pos c, if_pos (by omega)]
      exact HC.out.wsv i (by rw [HKN.out]; exact c)
    · obtain rfl : i = n := by omega
      rw [if_neg c, if_neg (by omega)]
      simp only [Nat.mul_one, Nat.sub_self]
      exact HD.out)
  clear hall hst2 hcs hst hgc hX hown hgrow hb1 hb2 hblk hrow hws hbx hcw hlen
  go_wp2
  go_end0
  exact ⟨rfl, HQ.out⟩

/-- What pop leaves. -/
def PopE (w : World) (B kb : Nat) (L : Bxs) (k : Mk) (e : Ending) (w' : World) : Prop :=
  ∃ v, e = .returned v ∧ OpdV L ((popOs 1 k.ws).headD .pop) v ∧ MkA w' B kb L (k.pops 1) ∧ Below B w w'

theorem MkrAt.taken {w : World} {B kb : Nat} {L : Bxs} {k : Mk} {tg : Nat → Nat} {dv wv : Value} {D W : Nat → Value} (h : MkrAt w B kb L k tg dv wv D W) {o : Opd} {r : List Opd} (hw : k.ws = o :: r) {wb cap : Nat} (hv : wv = .slice (some ⟨wb, 0, none⟩) (r.length + 1) cap) :
    MkA (w.setCell ⟨kb, 1, none⟩ (.slice (some ⟨wb, 0, none⟩) r.length cap)) B kb L (k.pops 1) ∧ Below B w (w.setCell ⟨kb, 1, none⟩ (.slice (some ⟨wb, 0, none⟩) r.length cap)) := by
  have hc : Ch B (fun c => c = 0) tg tg w (w.setCell ⟨kb, 1, none⟩ (.slice (some ⟨wb, 0, none⟩) r.length cap)) := Ch.set w kb _ _ h.own.1 h.own.2
  have hd : (k.pops 1).ws = r := by show k.ws.drop 1 = r; rw [hw]; rfl
  have hrow := h.ws
  rw [hw, List.length_cons, hv] at hrow
  refine ⟨⟨tg, dv, .slice (some ⟨wb, 0, none⟩) r.length cap, D, W, by have := hc.size; have := h.le; omega, heap_set h.blk _, h.own, h.ds.keep hc (by omega), h.dsv, by rw [hd]; exact (hrow.take r.length (by omega)).keep hc (by omega), fun i hi => ?_, h.bx.keep hc (by omega), h.bB⟩, hc.below h.le⟩
  rw [hd] at hi ⊢
  have := h.wsv i (by rw [hw]; simp; omega)
  rw [hw, List.reverse_cons, getD_snoc _ _ _ (by simp; omega), if_pos (by rw [List.length_reverse]; exact hi)] at this
  exact this

set_option maxRecDepth 100000 in
set_option maxHeartbeats 1000000 in
theorem takeM {w : World} {B kb : Nat} {L : Bxs} {k : Mk} (h : MkA w B kb L k) (hn : k.ws.length ≤ 2000) :
    Calls Tryz.prog 161 #[ptr kb] w (PopE w B kb L k) := by
  have H := hid h
  obtain ⟨tg, dv, wv, D, W, h⟩ := h
  have d3 : w.cell? ⟨kb, 1, none⟩ = some wv := (cell_heap h.blk).trans rfl
  have y3 : w.frozen? ⟨kb, 1, none⟩ = false := frozen_heap h.blk
  cases hws : k.ws with
  | nil =>
    obtain ⟨p, c, hv⟩ : ∃ p c, wv = .slice p 0 c := by
      have := h.ws
      rw [hws] at this
      rcases this with ⟨h1, _⟩ | ⟨b, cap, cur, h1, _⟩
      · exact ⟨_, _, h1⟩
      · exact ⟨_, _, h1⟩
    subst hv
    have hk : k.pops 1 = k := by unfold Mk.pops; rw [hws]; obtain ⟨a, b, c, d⟩ := k; simp only at hws; subst hws; rfl
    have HQ := hid (show PopE w B kb L k (.returned (.func (.func 179) #[] #[])) w from ⟨_, rfl, by rw [hws]; rfl, by rw [hk]; exact H.out, Below.refl _ _⟩)
    clear h hn
    go_enter Tryz.func161, Tryz.ntmps161
    go_wp2
    go_ret
    exact HQ.out
  | cons o r =>
    obtain ⟨wb, cap, hv, hwB, hwz, hwt, hwc⟩ := h.ws.form (by rw [hws]; simp)
    rw [hws, List.length_cons] at hv hwc
    obtain ⟨hA, hbl⟩ := h.taken hws hv
    have hrow := h.ws
    rw [hws, List.length_cons, hv] at hrow
    have x0 := hrow.cell (i := r.length) (by omega)
    have hov := h.wsv r.length (by rw [hws]; simp)
    rw [hws, List.reverse_cons, getD_snoc _ _ _ (by simp), if_neg (by simp)] at hov
    have hhd : (popOs 1 k.ws).headD .pop = o := by rw [hws]; simp [popOs]
    have HQ := hid (show ∀ v, v = W r.length → PopE w B kb L k (.returned v) (w.setCell ⟨kb, 1, none⟩ (.slice (some ⟨wb, 0, none⟩) r.length cap)) from fun v hv => ⟨v, rfl, by rw [hhd, hv]; exact hov, hA, hbl⟩)
    clear hhd
    obtain ⟨g, cp, e1, _⟩ := hov.fn
    rw [e1] at x0 HQ
    subst hv
    have hne : ¬ kb = wb := fun e => by have := h.own.2; rw [e, hwt] at this; omega
    have hrl : r.length ≤ 2000 := by rw [hws] at hn; simp at hn; omega
    generalize hrn : r.length = rn at *
    have e5 : wrap64 ((rn : Int) + 1 - 1) = (rn : Int) := by unfold wrap64; omega
    have e6 : ((rn : Int) + 1 - 1) = (rn : Int) := by omega
    have e7 : decide ((rn : Int) < 0) = false := by simp
    have i0 : (0 : Int) ≤ (rn : Int) := by omega
    have i1 : (rn : Int) < (rn : Int) + 1 := by omega
    have i2 : (rn : Int) ≤ (cap : Int) := by omega
    clear h hn hA hbl hrow hov hws hrn H
    go_enter Tryz.func161, Tryz.ntmps161
    go_wp2
    go_ret
    exact HQ.out _ rfl
end Go.Proofs.YtkafkipjedpohaaGreatDoor

/-
  How compiled code is made: waitFor, push, popTwo, settle, level.
-/
namespace Go.Proofs.YtkafkipjedpohaaGreatDoor
open Go.RowKit

theorem MkE.of {w w1 w' : World} {B kb : Nat} {L L1 : Bxs} {k' : Mk} (hl : ∀ t, t ∈ L → t ∈ L1) (hb : Below B w w1) (h : MkA w' B kb L1 k') (hb2 : Below B w1 w') : MkE w B kb L k' (.returned (.tuple #[])) w' := ⟨rfl, L1, hl, h, hb.trans hb2⟩
theorem below_alloc {w : World} {B : Nat} (h : B ≤ w.heap.size) (o : Obj) : Below B w (w.alloc o) := ((Below.refl w.heap.size w).alloc (Nat.le_refl _) o).mono h
theorem mem_cons_sub {L : Bxs} (t : Nat × Array Value × TypeId) : ∀ u, u ∈ L → u ∈ t :: L := fun _ h => List.mem_cons_of_mem _ h

set_option maxRecDepth 100000 in
set_option maxHeartbeats 1000000 in
theorem waitForM {w : World} {B kb : Nat} {L : Bxs} {k : Mk} (h : MkA w B kb L k) (x : V) (hn : k.ws.length ≤ 2000) :
    Calls Tryz.prog 166 #[ptr kb, .agg #[.int .i64 x.k, .int .i64 x.n]] w (MkE w B kb L (k.wait (.con x))) := by
  have hmf : ∀ (fn : Fn) (first cap : Array Value) (w : World), (Instr.makeFunc fn first cap).run Tryz.prog w = .ok (.func fn first cap) w := fun _ _ _ _ => rfl
  have hA := h.box #[.int .i64 x.k, .int .i64 x.n] 43
  have HW := hid (waitM hA (.con x) 180 #[ptr w.heap.size] ⟨w.heap.size, rfl, List.mem_cons_self⟩ hn)
  have HB := hid (below_alloc h.le.1 (.cells #[.int .i64 x.k, .int .i64 x.n] 43))
  clear h hA
  go_enter Tryz.func166, Tryz.ntmps166
  go_wp2_with fail
  refine HW.out.mono ?_
  rintro e w1 ⟨rfl, h1, h2⟩
  have HQ := hid (MkE.of (mem_cons_sub _) HB.out h1 h2)
  clear h1 h2 HW
  go_wp2
  go_end0
  exact HQ.out

set_option maxRecDepth 100000 in
set_option maxHeartbeats 1000000 in
theorem pushMk {w : World} {B kb : Nat} {L : Bxs} {k : Mk} (h : MkA w B kb L k) (op a : Int) (os : List Opd) (g : Nat) (cp : Array Value) (hv : ValV L op os (.func (.func g) #[] cp)) (hn : k.ds.length ≤ 2000) :
    Calls Tryz.prog 183 #[ptr kb, .func (.func g) #[] cp] w (MkE w B kb L (k.then_ (.ins op a os))) := by
  have hmf : ∀ (fn : Fn) (first cap : Array Value) (w : World), (Instr.makeFunc fn first cap).run Tryz.prog w = .ok (.func fn first cap) w := fun _ _ _ _ => rfl
  have hA := h.box #[.func (.func g) #[] cp] 229
  have HW := hid (thenM hA (.ins op a os) 193 #[ptr w.heap.size] (Or.inl ⟨w.heap.size, _, rfl, List.mem_cons_self, hv.mono (mem_cons_sub _)⟩) hn)
  have HB := hid (below_alloc h.le.1 (.cells #[.func (.func g) #[] cp] 229))
  clear h hA hv
  go_enter Tryz.func183, Tryz.ntmps183
  go_wp2_with fail
  refine HW.out.mono ?_
  rintro e w1 ⟨rfl, h1, h2⟩
  have HQ := hid (MkE.of (mem_cons_sub _) HB.out h1 h2)
  clear h1 h2 HW
  go_wp2
  go_end0
  exact HQ.out

/-- The operand that a pop takes. -/
def popO (k : Mk) : Opd := (popOs 1 k.ws).headD .pop
theorem popOs_two (ws : List Opd) : popOs 2 ws = [(popOs 1 ws).headD .pop, (popOs 1 (ws.drop 1)).headD .pop] := by
  cases ws with
  | nil => rfl
  | cons o r =>
    cases r with
    | nil => rfl
    | cons q r => simp [popOs]
theorem popOs_three (ws : List Opd) : popOs 3 ws = [(popOs 1 ws).headD .pop, (popOs 1 (ws.drop 1)).headD .pop, (popOs 1 (ws.drop 2)).headD .pop] := by
  cases ws with
  | nil => rfl
  | cons o r =>
    cases r with
    | nil => rfl
    | cons q r =>
      cases r with
      | nil => simp [popOs]
      | cons p r => simp [popOs]

/-- What popTwo leaves. -/
def TwoPE (w : World) (B kb : Nat) (L : Bxs) (k : Mk) (e : Ending) (w' : World) : Prop :=
  ∃ v L', e = .returned v ∧ (∀ t, t ∈ L → t ∈ L') ∧ TwoV L' (popO k) (popO (k.pops 1)) v ∧ MkA w' B kb L' ((k.pops 1).pops 1) ∧ Below B w w'

theorem MkA.two {w : World} {B kb : Nat} {L : Bxs} {k : Mk} (h : MkA w B kb L k) (c d : Array Value) (t u : TypeId) : MkA ((w.alloc (.cells c t)).alloc (.cells d u)) B kb ((w.heap.size + 1, d, u) :: (w.heap.size, c, t) :: L) k := by
  have := (h.box c t).box d u
  simpa using this

set_option maxRecDepth 100000 in
set_option maxHeartbeats 1000000 in
theorem takeTwoM {w : World} {B kb : Nat} {L : Bxs} {k : Mk} (h : MkA w B kb L k) (hn : k.ws.length ≤ 2000) :
    Calls Tryz.prog 185 #[ptr kb] w (TwoPE w B kb L k) := by
  have hmf : ∀ (fn : Fn) (first cap : Array Value) (w : World), (Instr.makeFunc fn first cap).run Tryz.prog w = .ok (.func fn first cap) w := fun _ _ _ _ => rfl
  have HP := hid (takeM h hn)
  have HN := hid (show (k.pops 1).ws.length ≤ 2000 from by show (k.ws.drop 1).length ≤ 2000; simp; omega)
  clear h hn
  go_enter Tryz.func185, Tryz.ntmps185
  go_wp2_with fail
  refine HP.out.mono ?_
  rintro e w1 ⟨v1, rfl, o1, h1, b1⟩
  have HP2 := hid (takeM h1 HN.out)
  have H1 := hid (And.intro o1 b1)
  clear h1 o1 b1 HP
  go_wp2_with fail
  refine HP2.out.mono ?_
  rintro e w2 ⟨v2, rfl, o2, h2, b2⟩
  obtain ⟨o1, b1⟩ := H1.out
  obtain ⟨g1, c1, e1, _⟩ := o1.fn
  obtain ⟨g2, c2, e2, _⟩ := o2.fn
  subst e1 e2
  have h3 := h2.two #[.func (.func g1) #[] c1] #[.func (.func g2) #[] c2] 224 224
  have hb3 := ((below_alloc h2.le.1 (.cells #[.func (.func g1) #[] c1] 224)).trans (below_alloc (w := w2.alloc (.cells #[.func (.func g1) #[] c1] 224)) (by have := h2.le.1; simp; omega) (.cells #[.func (.func g2) #[] c2] 224)))
  have HQ := hid (show TwoPE w B kb L k (.returned (.func (.func 194) #[] #[ptr w2.heap.size, ptr (w2.heap.size + 1)])) ((w2.alloc (.cells #[.func (.func g1) #[] c1] 224)).alloc (.cells #[.func (.func g2) #[] c2] 224)) from
    ⟨_, _, rfl, fun t ht => List.mem_cons_of_mem _ (List.mem_cons_of_mem _ ht), ⟨_, _, _, _, rfl, List.mem_cons_of_mem _ List.mem_cons_self, List.mem_cons_self, o1.mono (fun t ht => List.mem_cons_of_mem _ (List.mem_cons_of_mem _ ht)), o2.mono (fun t ht => List.mem_cons_of_mem _ (List.mem_cons_of_mem _ ht))⟩, h3, (b1.trans b2).trans hb3⟩)
  clear h2 h3 hb3 b1 b2 o1 o2 H1 HP2
  go_wp2
  go_ret
  exact HQ.out
end Go.Proofs.YtkafkipjedpohaaGreatDoor

/-
  How compiled code is made: settle, level.
-/
namespace Go.Proofs.YtkafkipjedpohaaGreatDoor
open Go.RowKit

theorem Row.tags {w : World} {B : Nat} {tag tag' : Nat → Nat} {c : Nat} {e : TypeId} {sz : Nat} {v : Value} {n : Nat} {f : Nat → Value} (h : Row w B tag c e sz v n f) (ht : ∀ b, tag b = c → tag' b = c) : Row w B tag' c e sz v n f := by
  rcases h with h | ⟨b, cap, cur, hv, hb, htg, hh, hc⟩
  · exact Or.inl h
  · exact Or.inr ⟨b, cap, cur, hv, hb, ht b htg, hh, hc⟩

/-- What waits becomes a box of the code. -/
theorem MkA.settled {w : World} {B kb : Nat} {L : Bxs} {k : Mk} (h : MkA w B kb L k) (hne : k.ws ≠ []) :
    ∃ wb cap, w.cell? ⟨kb, 1, none⟩ = some (.slice (some ⟨wb, 0, none⟩) k.ws.length cap) ∧ w.frozen? ⟨kb, 1, none⟩ = false ∧
      ∃ L', (∀ t, t ∈ L → t ∈ L') ∧ MkA ((w.setCell ⟨kb, 1, none⟩ (.slice none 0 0)).alloc (.cells #[.slice (some ⟨wb, 0, none⟩) k.ws.length cap] 217)) B kb L' { k with ws := [] } ∧
        DeedV L' (.settle k.ws.reverse) (.func (.func 192) #[] #[ptr w.heap.size]) ∧ Below B w ((w.setCell ⟨kb, 1, none⟩ (.slice none 0 0)).alloc (.cells #[.slice (some ⟨wb, 0, none⟩) k.ws.length cap] 217)) := by
  obtain ⟨tg, dv, wv, D, W, h⟩ := h
  have hz := heap_lt h.blk
  rcases h.ws with ⟨_, h0⟩ | ⟨wb, cap, cur, hv, hwB, hwt, hwh, hwc, _, _, hwe⟩
  · exact absurd (List.eq_nil_of_length_eq_zero h0) hne
  have hwz := heap_lt hwh
  refine ⟨wb, cap, by rw [← hv]; exact (cell_heap h.blk).trans rfl, frozen_heap h.blk, ?_⟩
  have hc : Ch B (fun c => c = 0) tg tg w (w.setCell ⟨kb, 1, none⟩ (.slice none 0 0)) := Ch.set w kb _ _ h.own.1 h.own.2
  have hsz : (w.setCell ⟨kb, 1, none⟩ (.slice none 0 0)).heap.size = w.heap.size := by simp [World.setCell]
  have hbl : Below (w.setCell ⟨kb, 1, none⟩ (.slice none 0 0)).heap.size (w.setCell ⟨kb, 1, none⟩ (.slice none 0 0)) ((w.setCell ⟨kb, 1, none⟩ (.slice none 0 0)).alloc (.cells #[.slice (some ⟨wb, 0, none⟩) k.ws.length cap] 217)) := (Below.refl _ _).alloc (Nat.le_refl _) _
  have hnew : ((w.setCell ⟨kb, 1, none⟩ (.slice none 0 0)).alloc (.cells #[.slice (some ⟨wb, 0, none⟩) k.ws.length cap] 217)).heap[w.heap.size]? = some (.cells #[.slice (some ⟨wb, 0, none⟩) k.ws.length cap] 217 (0, 0)) := by
    rw [← hsz]
    exact Go.Deep.blk_alloc_new _ _
  have hblk2 : ((w.setCell ⟨kb, 1, none⟩ (.slice none 0 0)).alloc (.cells #[.slice (some ⟨wb, 0, none⟩) k.ws.length cap] 217)).heap[kb]? = some (.cells #[dv, .slice none 0 0, .int .i64 k.seen, .int .i64 k.passed] 219 (0, 0)) := by
    rw [hbl.block kb (by rw [hsz]; exact hz)]
    exact heap_set h.blk _
  generalize (w.setCell ⟨kb, 1, none⟩ (.slice none 0 0)).alloc (.cells #[.slice (some ⟨wb, 0, none⟩) k.ws.length cap] 217) = V at *
  have hcV : Ch B (fun c => c = 0) tg (upd tg w.heap.size 5) w V := hc.trans (Ch.of_tags hbl (fun b hb => upd_other _ _ _ _ (by rw [hsz] at hb; omega)))
  have htw : ∀ b, b ≠ wb → upd (upd tg w.heap.size 5) wb 5 b = upd tg w.heap.size 5 b := fun b hb => upd_other _ _ _ _ hb
  have hw2 : V.heap[wb]? = some (.cells cur 224 (0, 0)) := (hcV.block wb hwz (Or.inr (by rw [hwt]; omega))).trans hwh
  have hkw : kb ≠ wb := fun e => by have := h.own.2; rw [e, hwt] at this; omega
  have hsub : ∀ t, t ∈ L → t ∈ (w.heap.size, #[Value.slice (some ⟨wb, 0, none⟩) k.ws.length cap], 217) :: (wb, cur, 224) :: L := fun t ht => List.mem_cons_of_mem _ (List.mem_cons_of_mem _ ht)
  refine ⟨(w.heap.size, #[.slice (some ⟨wb, 0, none⟩) k.ws.length cap], 217) :: (wb, cur, 224) :: L, hsub, ⟨upd (upd tg w.heap.size 5) wb 5, dv, .slice none 0 0, D, W, by have := hcV.size; have := h.le; omega, hblk2, ⟨h.own.1, ?_⟩, (h.ds.keep hcV (by omega)).tags (fun b hb => ?_), fun i hi => (h.dsv i hi).mono hsub, Row.nil _ _ _ _ _ _ _, fun i hi => absurd hi (Nat.not_lt_zero _), fun t ht => ?_, fun t ht => ?_⟩, ?_, hcV.below h.le⟩
  · rw [htw kb hkw, upd_other _ _ _ _ (by omega)]
    exact h.own.2
  · rw [htw b (fun e => ?_)]
    · exact hb
    · rw [e, upd_other _ _ _ _ (by omega), hwt] at hb
      omega
  · rcases List.mem_cons.1 ht with rfl | ht
    · exact ⟨hnew, by rw [htw _ (by show w.heap.size ≠ wb; omega)]; exact upd_same _ _ _⟩
    · rcases List.mem_cons.1 ht with rfl | ht
      · exact ⟨hw2, upd_same _ _ _⟩
      · obtain ⟨j1, j2⟩ := h.bx.keep hcV (by omega) t ht
        refine ⟨j1, ?_⟩
        by_cases e : t.1 = wb
        · rw [e]; exact upd_same _ _ _
        · rw [htw _ e]; exact j2
  · rcases List.mem_cons.1 ht with rfl | ht
    · exact h.le
    · rcases List.mem_cons.1 ht with rfl | ht
      · exact hwB
      · exact h.bB t ht
  · refine ⟨w.heap.size, wb, cap, cur, rfl, ?_, List.mem_cons_of_mem _ List.mem_cons_self, fun i hi => ?_⟩
    · rw [List.length_reverse]
      exact List.mem_cons_self
    · rw [List.length_reverse] at hi
      exact ⟨W i, hwe i (by omega), (h.wsv i hi).mono hsub⟩

set_option maxRecDepth 100000 in
set_option maxHeartbeats 1000000 in
theorem settleMk {w : World} {B kb : Nat} {L : Bxs} {k : Mk} (h : MkA w B kb L k) (hn : k.ds.length ≤ 2000) (hw : k.ws.length ≤ 2000) :
    Calls Tryz.prog 177 #[ptr kb] w (MkE w B kb L k.settle) := by
  have hmf : ∀ (fn : Fn) (first cap : Array Value) (w : World), (Instr.makeFunc fn first cap).run Tryz.prog w = .ok (.func fn first cap) w := fun _ _ _ _ => rfl
  by_cases hne : k.ws = []
  · obtain ⟨p, c, d3⟩ : ∃ p c, w.cell? ⟨kb, 1, none⟩ = some (.slice p 0 c) := by
      obtain ⟨tg, dv, wv, D, W, h⟩ := h
      have := h.ws
      rw [hne] at this
      rcases this with ⟨h1, _⟩ | ⟨b, cap, cur, h1, _⟩
      · exact ⟨_, _, by rw [cell_heap h.blk, h1]; rfl⟩
      · exact ⟨_, _, by rw [cell_heap h.blk, h1]; rfl⟩
    have hk : k.settle = k := by unfold Mk.settle; rw [if_pos hne]
    have HQ := hid (show MkE w B kb L k.settle (.returned (.tuple #[])) w from ⟨rfl, L, fun t ht => ht, by rw [hk]; exact h, Below.refl _ _⟩)
    generalize k.settle = k' at *
    clear h
    go_enter Tryz.func177, Tryz.ntmps177
    go_wp2
    refine bodyPost_ret (results_none rfl _ _ _) rfl ?_
    exact HQ.out
  · obtain ⟨wb, cap, d3, y3, L', hl, h2, hd, hbl⟩ := h.settled hne
    have hk : k.settle = ({ k with ws := [] } : Mk).then_ (.settle k.ws.reverse) := by unfold Mk.settle; rw [if_neg hne]; rfl
    have HT := hid (thenM h2 (.settle k.ws.reverse) _ _ hd hn)
    have HL := hid (And.intro hl (And.intro hbl hk))
    have hkz := h.le.2.1
    generalize k.settle = k' at *
    have hpos : 1 ≤ k.ws.length := by
      cases hc : k.ws with
      | nil => exact absurd hc hne
      | cons o r => simp
    generalize k.ws.length = wn at *
    have e1 : ((wn : Int) == 0) = false := by simp; omega
    clear h h2 hd hl hbl hk hne
    go_enter Tryz.func177, Tryz.ntmps177
    go_wp2_with fail
    refine HT.out.mono ?_
    rintro e w1 ⟨rfl, h1, b1⟩
    have HQ := hid (show MkE w B kb L k' (.returned (.tuple #[])) w1 from by rw [HL.out.2.2]; exact MkE.of HL.out.1 HL.out.2.1 h1 b1)
    clear h1 b1 HT
    go_wp2
    go_end0
    exact HQ.out
end Go.Proofs.YtkafkipjedpohaaGreatDoor
