import Derived.Test.YtkafkipjedpohaaGreatDoorZ2

/-
  How compiled code is made: level, drop, dup, store.
-/
namespace Go.Proofs.YtkafkipjedpohaaGreatDoor
open Go.RowKit

theorem MkA.counts {w : World} {B kb : Nat} {L : Bxs} {k : Mk} (h : MkA w B kb L k) : w.cell? ⟨kb, 2, none⟩ = some (.int .i64 k.seen) ∧ w.cell? ⟨kb, 3, none⟩ = some (.int .i64 k.passed) ∧ w.frozen? ⟨kb, 2, none⟩ = false ∧ w.frozen? ⟨kb, 3, none⟩ = false := by
  obtain ⟨tg, dv, wv, D, W, h⟩ := h
  exact ⟨(cell_heap h.blk).trans rfl, (cell_heap h.blk).trans rfl, frozen_heap h.blk, frozen_heap h.blk⟩
theorem MkA.count {w : World} {B kb : Nat} {L : Bxs} {k : Mk} (h : MkA w B kb L k) (i v : Nat) (hi : i = 2 ∨ i = 3) : MkA (w.setCell ⟨kb, i, none⟩ (.int .i64 v)) B kb L { k with seen := if i = 2 then v else k.seen, passed := if i = 3 then v else k.passed } ∧ Below B w (w.setCell ⟨kb, i, none⟩ (.int .i64 v)) := by
  obtain ⟨tg, dv, wv, D, W, h⟩ := h
  have hc : Ch B (fun c => c = 0) tg tg w (w.setCell ⟨kb, i, none⟩ (.int .i64 v)) := Ch.set w kb _ _ h.own.1 h.own.2
  refine ⟨⟨tg, dv, wv, D, W, by have := hc.size; have := h.le; omega, ?_, h.own, h.ds.keep hc (by omega), h.dsv, h.ws.keep hc (by omega), h.wsv, h.bx.keep hc (by omega), h.bB⟩, hc.below h.le⟩
  rw [heap_set h.blk]
  rcases hi with rfl | rfl <;> rfl

theorem mk_level0 {k : Mk} (h : k.seen - k.passed = 0) : k.level = k.settle := by unfold Mk.level; rw [if_pos h]
theorem mk_level1 {k : Mk} (h : k.seen - k.passed ≠ 0) : k.level = ({ k.settle with passed := k.seen } : Mk).then_ (.pass (k.seen - k.passed)) := by unfold Mk.level; rw [if_neg h]; rfl
theorem settle_passed (k : Mk) : k.settle.passed = k.passed := by unfold Mk.settle; split <;> rfl
theorem settle_ds (k : Mk) : k.settle.ds.length ≤ k.ds.length + 1 := by unfold Mk.settle; split; omega; simp

set_option maxRecDepth 100000 in
set_option maxHeartbeats 1000000 in
theorem levelMk {w : World} {B kb : Nat} {L : Bxs} {k : Mk} (h : MkA w B kb L k) (hn : k.ds.length ≤ 1990) (hw : k.ws.length ≤ 2000) (hle : k.passed ≤ k.seen) (hs : k.seen ≤ 1000) :
    Calls Tryz.prog 158 #[ptr kb] w (MkE w B kb L k.level) := by
  have hmf : ∀ (fn : Fn) (first cap : Array Value) (w : World), (Instr.makeFunc fn first cap).run Tryz.prog w = .ok (.func fn first cap) w := fun _ _ _ _ => rfl
  have HS := hid (settleMk h (by omega) hw)
  obtain ⟨se, hse⟩ : ∃ se : Nat, se = k.seen := ⟨_, rfl⟩
  obtain ⟨pa, hpa⟩ : ∃ pa : Nat, pa = k.passed := ⟨_, rfl⟩
  have h1 : k.settle.seen = se := by rw [settle_seen, hse]
  have h2 : k.settle.passed = pa := by rw [settle_passed, hpa]
  have h3 := settle_ds k
  have HK := hid (And.intro h1 (And.intro h2 h3))
  have HL0 := hid (fun (e : se - pa = 0) => mk_level0 (k := k) (by rw [← hse, ← hpa]; exact e))
  have HL1 := hid (fun (e : se - pa ≠ 0) => (show k.level = ({ k.settle with passed := se } : Mk).then_ (.pass (se - pa)) from by rw [hse, hpa]; exact mk_level1 (by rw [← hse, ← hpa]; exact e)))
  rw [← hse, ← hpa] at hle
  rw [← hse] at hs
  generalize k.level = k' at *
  obtain ⟨ah, hah⟩ : ∃ ah : Nat, ah = se - pa := ⟨_, rfl⟩
  rw [← hah] at HL0 HL1
  have e1 : wrap64 ((se : Int) - (pa : Int)) = (ah : Int) := by unfold wrap64; omega
  have e2 : ((se : Int) - (pa : Int)) = (ah : Int) := by omega
  have e3 : IntKind.i64.wrap (ah : Int) = (ah : Int) := by rw [IntKind.wrap_i64]; omega
  clear hah
  clear h hw h1 h2 h3 hse hpa
  go_enter Tryz.func158, Tryz.ntmps158
  go_wp2_with fail
  refine HS.out.mono ?_
  rintro e w1 ⟨rfl, L1, hl1, a1, b1⟩
  have H1 := hid (And.intro hl1 (And.intro a1 b1))
  obtain ⟨c2, c3, z2, z3⟩ := a1.counts
  rw [HK.out.1] at c2
  rw [HK.out.2.1] at c3
  have HC := hid (And.intro c2 c3)
  have hkz := a1.le.2.1
  clear hl1 a1 b1 HS z2 z3 c2 c3
  go_wp2_with fail
  refine region_lex (fun w' => w'.cell? ⟨kb, 2, none⟩ = some (.int .i64 se) ∧ w'.cell? ⟨kb, 3, none⟩ = some (.int .i64 pa)) [(false, 0), (false, 1), (false, 2), (false, 3), (false, 4), (false, 5), (false, 6), (false, 7), (false, 8), (true, 9), (true, 10)] (by kernel_rfl) (by kernel_rfl) (panic_frame _ _ _) HC.out ?_
  simp only [lexL, List.getElem?_cons_zero, List.getElem?_cons_succ]
  iterate 9 (refine lexW_free (by rfl) (by intro w' hS'; obtain ⟨y0, y1⟩ := hS'; go_simp; exact rfl) ?_; simp only [Act.put, List.setIfInBounds_toArray, List.set_cons_zero, List.set_cons_succ])
  have hA := (H1.out.2.1.below (w' := w1.drew) (Below.refl _ _).drew)
  have HA := hid hA
  have HB := hid (H1.out.2.2.drew)
  have C1 := hid (And.intro (show w1.drew.cell? ⟨kb, 2, none⟩ = some (.int .i64 se) from HC.out.1) (show w1.drew.cell? ⟨kb, 3, none⟩ = some (.int .i64 pa) from HC.out.2))
  have hkz1 : kb < w1.drew.heap.size := hkz
  clear hA HC hkz
  generalize w1.drew = w2 at *
  refine lexW_sole (fun K hK => ?_)
  go_simp
  refine hK.out _ _ ⟨alloc_cell C1.out.1 hkz1, alloc_cell C1.out.2 hkz1⟩ ?_
  clear hK K
  refine lexW_sole (fun K hK => ?_)
  go_simp
  have hA3 := HA.out.box #[.int .i64 ah] 3
  have hB3 := HB.out.trans (below_alloc HA.out.le.1 (.cells #[.int .i64 ah] 3))
  have C3 := hid (And.intro (alloc_cell (o := .cells #[.int .i64 ah] 3) C1.out.1 hkz1) (alloc_cell (o := .cells #[.int .i64 ah] 3) C1.out.2 hkz1))
  have H3 := hid (And.intro hA3 hB3)
  refine hK.out _ _ C3.out ?_
  clear hK K HA HB C1 hA3 hB3
  refine lexW_done ?_
  have x0 := H3.out.1.hb.one List.mem_cons_self
  obtain ⟨c2, c3, z2, z3⟩ := H3.out.1.counts
  rw [HK.out.1] at c2
  rw [HK.out.2.1] at c3
  by_cases hz : ah = 0
  · have e4 : ((ah : Int) == 0) = true := by simp [hz]
    have HQ := hid (show MkE w B kb L k' (.returned (.tuple #[])) (w2.alloc (.cells #[.int .i64 ah] 3)) from by
      rw [HL0.out hz]
      exact ⟨rfl, _, fun t ht => List.mem_cons_of_mem _ (H1.out.1 t ht), H3.out.1, H3.out.2⟩)
    clear H1 H3 HK C3 c2 c3 z2 z3 hz
    go_wp2
    refine bodyPost_ret (results_none rfl _ _ _) rfl ?_
    exact HQ.out
  · have e4 : ((ah : Int) == 0) = false := by simp; omega
    obtain ⟨hA4, hB4⟩ := H3.out.1.count 3 se (by omega)
    have hk4 : ({ k.settle with seen := if 3 = 2 then se else k.settle.seen, passed := if 3 = 3 then se else k.settle.passed } : Mk) = { k.settle with passed := se } := rfl
    rw [hk4] at hA4
    have HT := hid (thenM hA4 (.pass ah) 178 #[ptr w2.heap.size] ⟨w2.heap.size, rfl, List.mem_cons_self⟩ (by show k.settle.ds.length ≤ 2000; have := HK.out.2.2; omega))
    have HE := hid (And.intro (HL1.out hz) (H3.out.2.trans hB4))
    clear H3 C3 hA4 hB4 hk4 hz HK HL0 HL1
    generalize w2.alloc (.cells #[.int .i64 ah] 3) = W at *
    go_wp2_with fail
    refine HT.out.mono ?_
    rintro e w5 ⟨rfl, h5, b5⟩
    have HQ := hid (show MkE w B kb L k' (.returned (.tuple #[])) w5 from by
      rw [HE.out.1]
      exact MkE.of (fun t ht => List.mem_cons_of_mem _ (H1.out.1 t ht)) HE.out.2 h5 b5)
    clear h5 b5 HT HE H1
    go_wp2
    go_end0
    exact HQ.out
end Go.Proofs.YtkafkipjedpohaaGreatDoor

/-
  How compiled code is made: drop, dup, store, equal, reckon.
-/
namespace Go.Proofs.YtkafkipjedpohaaGreatDoor
open Go.RowKit

/-- No list of a maker is too long. -/
structure Sml (k : Mk) : Prop where
  ds : k.ds.length ≤ 1900
  ws : k.ws.length ≤ 1900
  seen : k.seen ≤ 1000
  le : k.passed ≤ k.seen
theorem Sml.pops {k : Mk} (h : Sml k) (n : Nat) : Sml (k.pops n) := ⟨h.ds, by show (k.ws.drop n).length ≤ _; have := h.ws; simp; omega, h.seen, h.le⟩
theorem pops_pops (k : Mk) : (k.pops 1).pops 1 = k.pops 2 := by unfold Mk.pops; simp
theorem pops_three (k : Mk) : ((k.pops 1).pops 1).pops 1 = k.pops 3 := by unfold Mk.pops; simp [List.drop_drop]
theorem str_drop (a : Int) (k : Mk) : k.str 20 a = if k.ws = [] then k.then_ (.ins 20 a [.pop]) else k.pops 1 := by
  unfold Mk.str Mk.pops
  cases h : k.ws <;> simp
theorem mk_dup (a : Int) (k : Mk) : k.str 21 a = if k.ws = [] then k.then_ (.ins 21 a []) else k.wait (popO k) := by
  unfold Mk.str Mk.wait popO
  cases h : k.ws <;> simp [popOs]
theorem str_three (a : Int) (k : Mk) : k.str 3 a = (k.pops 1).settle.then_ (.ins 3 a [popO k]) := by
  have : popOs 1 k.ws = [popO k] := popOs_one k.ws
  simp [Mk.str, npop, this]
theorem str_nine (a : Int) (k : Mk) : k.str 9 a = (k.pops 2).settle.then_ (.ins 9 a [popO k, popO (k.pops 1)]) := by
  have : popOs 2 k.ws = [popO k, popO (k.pops 1)] := popOs_two k.ws
  simp [Mk.str, npop, this]
theorem str_print' (a : Int) (k : Mk) : k.str 19 a = (k.pops 1).then_ (.ins 19 a [popO k]) := by
  have : popOs 1 k.ws = [popO k] := popOs_one k.ws
  simp [Mk.str, this]
theorem str_level2 {op : Int} (h : op = 4 ∨ op = 5 ∨ op = 6 ∨ op = 7 ∨ op = 8 ∨ op = 16) (a : Int) (k : Mk) : k.str op a = (k.pops 2).level.then_ (.ins op a [popO k, popO (k.pops 1)]) := by
  have : popOs 2 k.ws = [popO k, popO (k.pops 1)] := popOs_two k.ws
  rcases h with rfl | rfl | rfl | rfl | rfl | rfl <;> simp [Mk.str, npop, this]
theorem str_level1 {op : Int} (h : op = 15 ∨ op = 18) (a : Int) (k : Mk) : k.str op a = (k.pops 1).level.then_ (.ins op a [popO k]) := by
  have : popOs 1 k.ws = [popO k] := popOs_one k.ws
  rcases h with rfl | rfl <;> simp [Mk.str, npop, this]
theorem str_level3 (a : Int) (k : Mk) : k.str 17 a = (k.pops 3).level.then_ (.ins 17 a [popO k, popO (k.pops 1), popO (k.pops 2)]) := by
  have : popOs 3 k.ws = [popO k, popO (k.pops 1), popO (k.pops 2)] := popOs_three k.ws
  simp [Mk.str, npop, this]
theorem level_ds (k : Mk) : k.level.ds.length ≤ k.ds.length + 2 := by
  have := settle_ds k
  unfold Mk.level
  split
  · omega
  · show (k.settle.ds ++ _).length ≤ _
    simp
    omega

/-- The slice of what waits, as it is read. -/
theorem MkA.wait {w : World} {B kb : Nat} {L : Bxs} {k : Mk} (h : MkA w B kb L k) : ∃ p c, w.cell? ⟨kb, 1, none⟩ = some (.slice p k.ws.length c) ∧ (∀ o r, k.ws = o :: r → ∃ wb v, p = some ⟨wb, 0, none⟩ ∧ w.cell? ⟨wb, r.length, none⟩ = some v ∧ OpdV L o v) := by
  obtain ⟨tg, dv, wv, D, W, h⟩ := h
  have hw := h.ws
  rcases hw with ⟨h1, h2⟩ | ⟨b, cap, cur, h1, h2, h3, h4, h5, _, _, h6⟩
  · exact ⟨none, 0, by rw [cell_heap h.blk, h1, h2]; rfl, fun o r hr => by rw [hr] at h2; simp at h2⟩
  · refine ⟨some ⟨b, 0, none⟩, cap, by rw [cell_heap h.blk, h1]; rfl, fun o r hr => ⟨b, W r.length, rfl, (cell_heap h4).trans (h6 _ (by rw [hr]; simp)), ?_⟩⟩
    have := h.wsv r.length (by rw [hr]; simp)
    rw [hr, List.reverse_cons, getD_snoc _ _ _ (by simp), if_neg (by simp)] at this
    exact this

set_option maxRecDepth 100000 in
set_option maxHeartbeats 1000000 in
theorem dropMk {w : World} {B kb : Nat} {L : Bxs} {k : Mk} (h : MkA w B kb L k) (hs : Sml k) (a : Int) :
    Calls Tryz.prog 171 #[ptr kb] w (MkE w B kb L (k.str 20 a)) := by
  obtain ⟨p, c, d1, _⟩ := h.wait
  have hwl := hs.ws
  rw [str_drop]
  by_cases hne : k.ws = []
  · rw [if_pos hne]
    have HT := hid (thenM h (.ins 20 a [.pop]) 182 #[] (Or.inr (Or.inl ⟨rfl, rfl, rfl⟩)) (by have := hs.ds; omega))
    have hz : k.ws.length = 0 := by rw [hne]; rfl
    rw [hz] at d1
    clear h hs hwl hz hne
    go_enter Tryz.func171, Tryz.ntmps171
    go_wp2_with fail
    refine HT.out.mono ?_
    rintro e w1 ⟨rfl, h1, b1⟩
    have HQ := hid (MkE.of (fun t ht => ht) (Below.refl B w) h1 b1)
    clear h1 b1 HT
    go_wp2
    go_end0
    exact HQ.out
  · rw [if_neg hne]
    have HT := hid (takeM h (by omega))
    have hpos : 1 ≤ k.ws.length := by
      cases hc : k.ws with
      | nil => exact absurd hc hne
      | cons o r => simp
    generalize k.ws.length = wn at *
    have e1 : decide ((0 : Int) < (wn : Int)) = true := by simp; omega
    clear h hs hne
    go_enter Tryz.func171, Tryz.ntmps171
    go_wp2_with fail
    refine HT.out.mono ?_
    rintro e w1 ⟨v, rfl, _, h1, b1⟩
    have HQ := hid (MkE.of (fun t ht => ht) (Below.refl B w) h1 b1)
    clear h1 b1 HT
    go_wp2
    refine bodyPost_ret (results_none rfl _ _ _) rfl ?_
    exact HQ.out

set_option maxRecDepth 100000 in
set_option maxHeartbeats 1000000 in
theorem dupMk {w : World} {B kb : Nat} {L : Bxs} {k : Mk} (h : MkA w B kb L k) (hs : Sml k) (a : Int) :
    Calls Tryz.prog 172 #[ptr kb] w (MkE w B kb L (k.str 21 a)) := by
  obtain ⟨p, c, d1, d2⟩ := h.wait
  have hwl := hs.ws
  rw [mk_dup]
  by_cases hne : k.ws = []
  · rw [if_pos hne]
    have HT := hid (pushMk h 21 a [] 184 #[] (Or.inl ⟨rfl, rfl, rfl⟩) (by have := hs.ds; omega))
    have hz : k.ws.length = 0 := by rw [hne]; rfl
    rw [hz] at d1
    clear h hs hwl hz hne d2
    go_enter Tryz.func172, Tryz.ntmps172
    go_wp2_with fail
    refine HT.out.mono ?_
    rintro e w1 ⟨rfl, hrest⟩
    have HQ := hid (show MkE w B kb L (k.then_ (.ins 21 a [])) (.returned (.tuple #[])) w1 from ⟨rfl, hrest⟩)
    clear hrest HT
    go_wp2
    go_end0
    exact HQ.out
  · rw [if_neg hne]
    cases hc : k.ws with
    | nil => exact absurd hc hne
    | cons o r =>
      obtain ⟨wb, v, rfl, x0, ho⟩ := d2 o r hc
      have hpo : popO k = o := by unfold popO; rw [hc]; simp [popOs]
      obtain ⟨g, cp, e1, _⟩ := ho.fn
      subst e1
      have HT := hid (waitM h (popO k) g cp (by rw [hpo]; exact ho) (by omega))
      rw [hc, List.length_cons] at d1 hwl
      generalize hrn : r.length = rn at *
      have e5 : wrap64 ((rn : Int) + 1 - 1) = (rn : Int) := by unfold wrap64; omega
      have e6 : ((rn : Int) + 1 - 1) = (rn : Int) := by omega
      have e7 : decide ((0 : Int) ≤ (rn : Int)) = true := by simp
      have i0 : (0 : Int) ≤ (rn : Int) := by omega
      have i1 : (rn : Int) < (rn : Int) + 1 := by omega
      clear h hs hne d2 ho hc hrn
      go_enter Tryz.func172, Tryz.ntmps172
      go_wp2_with fail
      refine HT.out.mono ?_
      rintro e w1 ⟨rfl, h1, b1⟩
      have HQ := hid (MkE.of (fun t ht => ht) (Below.refl B w) h1 b1)
      clear h1 b1 HT
      go_wp2
      refine bodyPost_ret (results_none rfl _ _ _) rfl ?_
      exact HQ.out

set_option maxRecDepth 100000 in
set_option maxHeartbeats 1000000 in
theorem storeMk {w : World} {B kb : Nat} {L : Bxs} {k : Mk} (h : MkA w B kb L k) (hs : Sml k) (a : Int) :
    Calls Tryz.prog 169 #[ptr kb, .int .i64 a] w (MkE w B kb L (k.str 3 a)) := by
  have hmf : ∀ (fn : Fn) (first cap : Array Value) (w : World), (Instr.makeFunc fn first cap).run Tryz.prog w = .ok (.func fn first cap) w := fun _ _ _ _ => rfl
  rw [str_three]
  have hA := h.box #[.int .i64 a] 3
  have HP := hid (takeM hA (by have := hs.ws; omega))
  have HB := hid (below_alloc h.le.1 (.cells #[.int .i64 a] 3))
  have HS := hid hs
  clear h hA hs
  go_enter Tryz.func169, Tryz.ntmps169
  go_wp2_with fail
  generalize w.alloc (.cells #[.int .i64 a] 3) = W at *
  refine HP.out.mono ?_
  rintro e w1 ⟨v, rfl, o1, h1, b1⟩
  obtain ⟨g, cp, e1, _⟩ := o1.fn
  subst e1
  have h2 := h1.box #[.func (.func g) #[] cp] 224
  have b2 := below_alloc h1.le.1 (.cells #[.func (.func g) #[] cp] 224)
  have HT := hid (settleMk h2 (by have := (HS.out.pops 1).ds; omega) (by have := (HS.out.pops 1).ws; omega))
  have H1 := hid (And.intro o1 (HB.out.trans (b1.trans b2)))
  clear h1 h2 b1 b2 o1 HP HB
  go_wp2_with fail
  generalize w1.alloc (.cells #[.func (.func g) #[] cp] 224) = W1 at *
  refine HT.out.mono ?_
  rintro e w2 ⟨rfl, L2, hl2, h2, b2⟩
  have hd : DeedV L2 (.ins 3 a [popO k]) (.func (.func 181) #[] #[ptr w1.heap.size, ptr w.heap.size]) :=
    Or.inr (Or.inr (Or.inr (Or.inl ⟨rfl, popO k, w1.heap.size, w.heap.size, _, rfl, rfl, hl2 _ List.mem_cons_self, hl2 _ (List.mem_cons_of_mem _ List.mem_cons_self), H1.out.1.mono (fun t ht => hl2 _ (List.mem_cons_of_mem _ ht))⟩)))
  have HT2 := hid (thenM h2 _ _ _ hd (by have := settle_ds (k.pops 1); have := (HS.out.pops 1).ds; omega))
  have H2 := hid (And.intro (fun t (ht : t ∈ L) => hl2 t (List.mem_cons_of_mem _ (List.mem_cons_of_mem _ ht))) (H1.out.2.trans b2))
  clear h2 b2 hl2 hd HT H1
  go_wp2_with fail
  refine HT2.out.mono ?_
  rintro e w3 ⟨rfl, h3, b3⟩
  have HQ := hid (MkE.of H2.out.1 H2.out.2 h3 b3)
  clear h3 b3 HT2 H2
  go_wp2
  go_end0
  exact HQ.out

set_option maxRecDepth 100000 in
set_option maxHeartbeats 1000000 in
theorem equalMk {w : World} {B kb : Nat} {L : Bxs} {k : Mk} (h : MkA w B kb L k) (hs : Sml k) (a : Int) :
    Calls Tryz.prog 173 #[ptr kb] w (MkE w B kb L (k.str 9 a)) := by
  have hmf : ∀ (fn : Fn) (first cap : Array Value) (w : World), (Instr.makeFunc fn first cap).run Tryz.prog w = .ok (.func fn first cap) w := fun _ _ _ _ => rfl
  rw [str_nine]
  have HP := hid (takeTwoM h (by have := hs.ws; omega))
  have HS := hid hs
  clear h hs
  go_enter Tryz.func173, Tryz.ntmps173
  go_wp2_with fail
  refine HP.out.mono ?_
  rintro e w1 ⟨v, L1, rfl, hl1, o1, h1, b1⟩
  rw [pops_pops] at h1
  obtain ⟨g, cp, e1, _⟩ := o1.fn
  subst e1
  have h2 := h1.box #[.func (.func g) #[] cp] 230
  have b2 := below_alloc h1.le.1 (.cells #[.func (.func g) #[] cp] 230)
  have HT := hid (settleMk h2 (by have := (HS.out.pops 2).ds; omega) (by have := (HS.out.pops 2).ws; omega))
  have H1 := hid (And.intro o1 (And.intro hl1 (b1.trans b2)))
  clear h1 h2 b1 b2 o1 hl1 HP
  go_wp2_with fail
  generalize w1.alloc (.cells #[.func (.func g) #[] cp] 230) = W1 at *
  refine HT.out.mono ?_
  rintro e w2 ⟨rfl, L2, hl2, h2, b2⟩
  have hd : ValV L2 9 [popO k, popO (k.pops 1)] (.func (.func 186) #[] #[ptr w1.heap.size]) :=
    Or.inr (Or.inl ⟨rfl, _, _, w1.heap.size, _, rfl, rfl, hl2 _ List.mem_cons_self, H1.out.1.mono (fun t ht => hl2 _ (List.mem_cons_of_mem _ ht))⟩)
  have HT2 := hid (pushMk h2 9 a _ _ _ hd (by have := settle_ds (k.pops 2); have := (HS.out.pops 2).ds; omega))
  have H2 := hid (And.intro (fun t (ht : t ∈ L) => hl2 t (List.mem_cons_of_mem _ (H1.out.2.1 t ht))) (H1.out.2.2.trans b2))
  clear h2 b2 hl2 hd HT H1
  go_wp2_with fail
  refine HT2.out.mono ?_
  rintro e w3 ⟨rfl, L3, hl3, h3, b3⟩
  have HQ := hid (MkE.of (fun t ht => hl3 t (H2.out.1 t ht)) H2.out.2 h3 b3)
  clear h3 b3 HT2 H2 hl3
  go_wp2
  go_end0
  exact HQ.out

set_option maxRecDepth 100000 in
set_option maxHeartbeats 1000000 in
theorem reckonMk {w : World} {B kb : Nat} {L : Bxs} {k : Mk} (h : MkA w B kb L k) (hs : Sml k) (op a : Int) (hop : op = 4 ∨ op = 5 ∨ op = 6 ∨ op = 7 ∨ op = 8) :
    Calls Tryz.prog 174 #[ptr kb, .func (.func (ruleP op)) #[] #[]] w (MkE w B kb L (k.str op a)) := by
  have hmf : ∀ (fn : Fn) (first cap : Array Value) (w : World), (Instr.makeFunc fn first cap).run Tryz.prog w = .ok (.func fn first cap) w := fun _ _ _ _ => rfl
  rw [str_level2 (by omega)]
  have HO := hid hop
  have hA := h.box #[.func (.func (ruleP op)) #[] #[]] 204
  have HP := hid (takeTwoM hA (by have := hs.ws; omega))
  have HB := hid (below_alloc h.le.1 (.cells #[.func (.func (ruleP op)) #[] #[]] 204))
  have HS := hid hs
  have HR : Hid (ruleP op = ruleP op) := rfl
  clear h hs hA hop
  generalize hrf : ruleP op = rf at *
  have HRF := hid hrf
  clear hrf HR
  go_enter Tryz.func174, Tryz.ntmps174
  go_wp2_with fail
  generalize w.alloc (.cells #[.func (.func rf) #[] #[]] 204) = W at *
  refine HP.out.mono ?_
  rintro e w1 ⟨v, L1, rfl, hl1, o1, h1, b1⟩
  rw [pops_pops] at h1
  obtain ⟨g, cp, e1, _⟩ := o1.fn
  subst e1
  have h2 := h1.box #[.func (.func g) #[] cp] 230
  have b2 := below_alloc h1.le.1 (.cells #[.func (.func g) #[] cp] 230)
  have HT := hid (levelMk h2 (by have := (HS.out.pops 2).ds; omega) (by have := (HS.out.pops 2).ws; omega) (HS.out.pops 2).le (HS.out.pops 2).seen)
  have H1 := hid (And.intro o1 (And.intro hl1 (HB.out.trans (b1.trans b2))))
  clear h1 h2 b1 b2 o1 hl1 HP HB
  go_wp2_with fail
  generalize w1.alloc (.cells #[.func (.func g) #[] cp] 230) = W1 at *
  refine HT.out.mono ?_
  rintro e w2 ⟨rfl, L2, hl2, h2, b2⟩
  have hd : ValV L2 op [popO k, popO (k.pops 1)] (.func (.func 187) #[] #[ptr w1.heap.size, ptr w.heap.size]) :=
    Or.inr (Or.inr (Or.inl ⟨HO.out, _, _, w1.heap.size, _, w.heap.size, rfl, rfl, hl2 _ List.mem_cons_self, by rw [HRF.out]; exact hl2 _ (List.mem_cons_of_mem _ (H1.out.2.1 _ List.mem_cons_self)), H1.out.1.mono (fun t ht => hl2 _ (List.mem_cons_of_mem _ ht))⟩))
  have HT2 := hid (pushMk h2 op a _ _ _ hd (by have := level_ds (k.pops 2); have := (HS.out.pops 2).ds; omega))
  have H2 := hid (And.intro (fun t (ht : t ∈ L) => hl2 t (List.mem_cons_of_mem _ (H1.out.2.1 t (List.mem_cons_of_mem _ ht)))) (H1.out.2.2.trans b2))
  clear h2 b2 hl2 hd HT H1
  go_wp2_with fail
  refine HT2.out.mono ?_
  rintro e w3 ⟨rfl, L3, hl3, h3, b3⟩
  have HQ := hid (MkE.of (fun t ht => hl3 t (H2.out.1 t ht)) H2.out.2 h3 b3)
  clear h3 b3 HT2 H2 hl3
  go_wp2
  go_end0
  exact HQ.out
end Go.Proofs.YtkafkipjedpohaaGreatDoor
