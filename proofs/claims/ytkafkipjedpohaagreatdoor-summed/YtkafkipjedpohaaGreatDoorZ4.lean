import Derived.Test.YtkafkipjedpohaaGreatDoorZ1

/-
  How compiled code is made: settle, level.
-/
namespace Go.Proofs.YtkafkipjedpohaaGreatDoor
open Go.RowKit

theorem Row.tags {w : World} {B : Nat} {tag tag' : Nat → Nat} {c : Nat} {e : TypeId} {sz : Nat} {v : Value} {n : Nat} {f : Nat → Value} (h : Row w B tag c e sz v n f) (ht : ∀ b, tag b = c → tag' b = c) : Row w B tag' c e sz v n f := by
  rcases h with h | ⟨b, cap, cur, hv, hb, htg, hh, hc⟩
  · exact Or.inl h
  · exact Or.inr ⟨b, cap, cur, hv, hb, ht b htg, hh, hc⟩

/-- What waits becomes a box of the code. -/
theorem MkA.settled {w : World} {B kb : Nat} {L : Bxs} {k : Mk} (h : MkA w B kb L k) (hne : k.ws ≠ []) :
    ∃ wb cap, w.cell? ⟨kb, 1, none⟩ = some (.slice (some ⟨wb, 0, none⟩) k.ws.length cap) ∧ w.frozen? ⟨kb, 1, none⟩ = false ∧
      ∃ L', (∀ t, t ∈ L → t ∈ L') ∧ MkA ((w.setCell ⟨kb, 1, none⟩ (.slice none 0 0)).alloc (.cells #[.slice (some ⟨wb, 0, none⟩) k.ws.length cap] 217)) B kb L' { k with ws := [] } ∧
        DeedV L' (.settle k.ws.reverse) (.func (.func 192) #[] #[ptr w.heap.size]) ∧ Below B w ((w.setCell ⟨kb, 1, none⟩ (.slice none 0 0)).alloc (.cells #[.slice (some ⟨wb, 0, none⟩) k.ws.length cap] 217)) := by
  obtain ⟨tg, dv, wv, D, W, h⟩ := h
  have hz := heap_lt h.blk
  rcases h.ws with ⟨_, h0⟩ | ⟨wb, cap, cur, hv, hwB, hwt, hwh, hwc, _, _, hwe⟩
  · exact absurd (List.eq_nil_of_length_eq_zero h0) hne
  have hwz := heap_lt hwh
  refine ⟨wb, cap, by rw [← hv]; exact (cell_heap h.blk).trans rfl, frozen_heap h.blk, ?_⟩
  have hc : Ch B (fun c => c = 0) tg tg w (w.setCell ⟨kb, 1, none⟩ (.slice none 0 0)) := Ch.set w kb _ _ h.own.1 h.own.2
  have hsz : (w.setCell ⟨kb, 1, none⟩ (.slice none 0 0)).heap.size = w.heap.size := by simp [World.setCell]
  have hbl : Below (w.setCell ⟨kb, 1, none⟩ (.slice none 0 0)).heap.size (w.setCell ⟨kb, 1, none⟩ (.slice none 0 0)) ((w.setCell ⟨kb, 1, none⟩ (.slice none 0 0)).alloc (.cells #[.slice (some ⟨wb, 0, none⟩) k.ws.length cap] 217)) := (Below.refl _ _).alloc (Nat.le_refl _) _
  have hnew : ((w.setCell ⟨kb, 1, none⟩ (.slice none 0 0)).alloc (.cells #[.slice (some ⟨wb, 0, none⟩) k.ws.length cap] 217)).heap[w.heap.size]? = some (.cells #[.slice (some ⟨wb, 0, none⟩) k.ws.length cap] 217 (0, 0)) := by
    rw [← hsz]
    exact Go.Deep.blk_alloc_new _ _
  have hblk2 : ((w.setCell ⟨kb, 1, none⟩ (.slice none 0 0)).alloc (.cells #[.slice (some ⟨wb, 0, none⟩) k.ws.length cap] 217)).heap[kb]? = some (.cells #[dv, .slice none 0 0, .int .i64 k.seen, .int .i64 k.passed] 219 (0, 0)) := by
    rw [hbl.block kb (by rw [hsz]; exact hz)]
    exact heap_set h.blk _
  generalize (w.setCell ⟨kb, 1, none⟩ (.slice none 0 0)).alloc (.cells #[.slice (some ⟨wb, 0, none⟩) k.ws.length cap] 217) = V at *
  have hcV : Ch B (fun c => c = 0) tg (upd tg w.heap.size 5) w V := hc.trans (Ch.of_tags hbl (fun b hb => upd_other _ _ _ _ (by rw [hsz] at hb; omega)))
  have htw : ∀ b, b ≠ wb → upd (upd tg w.heap.size 5) wb 5 b = upd tg w.heap.size 5 b := fun b hb => upd_other _ _ _ _ hb
  have hw2 : V.heap[wb]? = some (.cells cur 224 (0, 0)) := (hcV.block wb hwz (Or.inr (by rw [hwt]; omega))).trans hwh
  have hkw : kb ≠ wb := fun e => by have := h.own.2; rw [e, hwt] at this; omega
  have hsub : ∀ t, t ∈ L → t ∈ (w.heap.size, #[Value.slice (some ⟨wb, 0, none⟩) k.ws.length cap], 217) :: (wb, cur, 224) :: L := fun t ht => List.mem_cons_of_mem _ (List.mem_cons_of_mem _ ht)
  refine ⟨(w.heap.size, #[.slice (some ⟨wb, 0, none⟩) k.ws.length cap], 217) :: (wb, cur, 224) :: L, hsub, ⟨upd (upd tg w.heap.size 5) wb 5, dv, .slice none 0 0, D, W, by have := hcV.size; have := h.le; omega, hblk2, ⟨h.own.1, ?_⟩, (h.ds.keep hcV (by omega)).tags (fun b hb => ?_), fun i hi => (h.dsv i hi).mono hsub, Row.nil _ _ _ _ _ _ _, fun i hi => absurd hi (Nat.not_lt_zero _), fun t ht => ?_, fun t ht => ?_⟩, ?_, hcV.below h.le⟩
  · rw [htw kb hkw, upd_other _ _ _ _ (by omega)]
    exact h.own.2
  · rw [htw b (fun e => ?_)]
    · exact hb
    · rw [e, upd_other _ _ _ _ (by omega), hwt] at hb
      omega
  · rcases List.mem_cons.1 ht with rfl | ht
    · exact ⟨hnew, by rw [htw _ (by show w.heap.size ≠ wb; omega)]; exact upd_same _ _ _⟩
    · rcases List.mem_cons.1 ht with rfl | ht
      · exact ⟨hw2, upd_same _ _ _⟩
      · obtain ⟨j1, j2⟩ := h.bx.keep hcV (by omega) t ht
        refine ⟨j1, ?_⟩
        by_cases e : t.1 = wb
        · rw [e]; exact upd_same _ _ _
        · rw [htw _ e]; exact j2
  · rcases List.mem_cons.1 ht with rfl | ht
    · exact h.le
    · rcases List.mem_cons.1 ht with rfl | ht
      · exact hwB
      · exact h.bB t ht
  · refine ⟨w.heap.size, wb, cap, cur, rfl, ?_, List.mem_cons_of_mem _ List.mem_cons_self, fun i hi => ?_⟩
    · rw [List.length_reverse]
      exact List.mem_cons_self
    · rw [List.length_reverse] at hi
      exact ⟨W i, hwe i (by omega), (h.wsv i hi).mono hsub⟩

set_option maxRecDepth 100000 in
set_option maxHeartbeats 1000000 in
theorem settleMk {w : World} {B kb : Nat} {L : Bxs} {k : Mk} (h : MkA w B kb L k) (hn : k.ds.length ≤ 2000) (hw : k.ws.length ≤ 2000) :
    Calls Tryz.prog 177 #[ptr kb] w (MkE w B kb L k.settle) := by
  have hmf : ∀ (fn : Fn) (first cap : Array Value) (w : World), (Instr.makeFunc fn first cap).run Tryz.prog w = .ok (.func fn first cap) w := fun _ _ _ _ => rfl
  by_cases hne : k.ws = []
  · obtain ⟨p, c, d3⟩ : ∃ p c, w.cell? ⟨kb, 1, none⟩ = some (.slice p 0 c) := by
      obtain ⟨tg, dv, wv, D, W, h⟩ := h
      have := h.ws
      rw [hne] at this
      rcases this with ⟨h1, _⟩ | ⟨b, cap, cur, h1, _⟩
      · exact ⟨_, _, by rw [cell_heap h.blk, h1]; rfl⟩
      · exact ⟨_, _, by rw [cell_heap h.blk, h1]; rfl⟩
    have hk : k.settle = k := by unfold Mk.settle; rw [if_pos hne]
    have HQ := hid (show MkE w B kb L k.settle (.returned (.tuple #[])) w from ⟨rfl, L, fun t ht => ht, by rw [hk]; exact h, Below.refl _ _⟩)
    generalize k.settle = k' at *
    clear h
    go_enter Tryz.func177, Tryz.ntmps177
    go_wp2
    refine bodyPost_ret (results_none rfl _ _ _) rfl ?_
    exact HQ.out
  · obtain ⟨wb, cap, d3, y3, L', hl, h2, hd, hbl⟩ := h.settled hne
    have hk : k.settle = ({ k with ws := [] } : Mk).then_ (.settle k.ws.reverse) := by unfold Mk.settle; rw [if_neg hne]; rfl
    have HT := hid (thenM h2 (.settle k.ws.reverse) _ _ hd hn)
    have HL := hid (And.intro hl (And.intro hbl hk))
    have hkz := h.le.2.1
    generalize k.settle = k' at *
    have hpos : 1 ≤ k.ws.length := by
      cases hc : k.ws with
      | nil => exact absurd hc hne
      | cons o r => simp
    generalize k.ws.length = wn at *
    have e1 : ((wn : Int) == 0) = false := by simp; omega
    clear h h2 hd hl hbl hk hne
    go_enter Tryz.func177, Tryz.ntmps177
    go_wp2_with fail
    refine HT.out.mono ?_
    rintro e w1 ⟨rfl, h1, b1⟩
    have HQ := hid (show MkE w B kb L k' (.returned (.tuple #[])) w1 from by rw [HL.out.2.2]; exact MkE.of HL.out.1 HL.out.2.1 h1 b1)
    clear h1 b1 HT
    go_wp2
    go_end0
    exact HQ.out
end Go.Proofs.YtkafkipjedpohaaGreatDoor

/-
  How compiled code is made: level, drop, dup, store.
-/
namespace Go.Proofs.YtkafkipjedpohaaGreatDoor
open Go.RowKit

theorem MkA.counts {w : World} {B kb : Nat} {L : Bxs} {k : Mk} (h : MkA w B kb L k) : w.cell? ⟨kb, 2, none⟩ = some (.int .i64 k.seen) ∧ w.cell? ⟨kb, 3, none⟩ = some (.int .i64 k.passed) ∧ w.frozen? ⟨kb, 2, none⟩ = false ∧ w.frozen? ⟨kb, 3, none⟩ = false := by
  obtain ⟨tg, dv, wv, D, W, h⟩ := h
  exact ⟨(cell_heap h.blk).trans rfl, (cell_heap h.blk).trans rfl, frozen_heap h.blk, frozen_heap h.blk⟩
theorem MkA.count {w : World} {B kb : Nat} {L : Bxs} {k : Mk} (h : MkA w B kb L k) (i v : Nat) (hi : i = 2 ∨ i = 3) : MkA (w.setCell ⟨kb, i, none⟩ (.int .i64 v)) B kb L { k with seen := if i = 2 then v else k.seen, passed := if i = 3 then v else k.passed } ∧ Below B w (w.setCell ⟨kb, i, none⟩ (.int .i64 v)) := by
  obtain ⟨tg, dv, wv, D, W, h⟩ := h
  have hc : Ch B (fun c => c = 0) tg tg w (w.setCell ⟨kb, i, none⟩ (.int .i64 v)) := Ch.set w kb _ _ h.own.1 h.own.2
  refine ⟨⟨tg, dv, wv, D, W, by have := hc.size; have := h.le; omega, ?_, h.own, h.ds.keep hc (by omega), h.dsv, h.ws.keep hc (by omega), h.wsv, h.bx.keep hc (by omega), h.bB⟩, hc.below h.le⟩
  rw [heap_set h.blk]
  rcases hi with rfl | rfl <;> rfl

theorem mk_level0 {k : Mk} (h : k.seen - k.passed = 0) : k.level = k.settle := by unfold Mk.level; rw [if_pos h]
theorem mk_level1 {k : Mk} (h : k.seen - k.passed ≠ 0) : k.level = ({ k.settle with passed := k.seen } : Mk).then_ (.pass (k.seen - k.passed)) := by unfold Mk.level; rw [if_neg h]; rfl
theorem settle_passed (k : Mk) : k.settle.passed = k.passed := by unfold Mk.settle; split <;> rfl
theorem settle_ds (k : Mk) : k.settle.ds.length ≤ k.ds.length + 1 := by unfold Mk.settle; split; omega; simp

set_option maxRecDepth 100000 in
set_option maxHeartbeats 1000000 in
theorem levelMk {w : World} {B kb : Nat} {L : Bxs} {k : Mk} (h : MkA w B kb L k) (hn : k.ds.length ≤ 1990) (hw : k.ws.length ≤ 2000) (hle : k.passed ≤ k.seen) (hs : k.seen ≤ 1000) :
    Calls Tryz.prog 158 #[ptr kb] w (MkE w B kb L k.level) := by
  have hmf : ∀ (fn : Fn) (first cap : Array Value) (w : World), (Instr.makeFunc fn first cap).run Tryz.prog w = .ok (.func fn first cap) w := fun _ _ _ _ => rfl
  have HS := hid (settleMk h (by omega) hw)
  obtain ⟨se, hse⟩ : ∃ se : Nat, se = k.seen := ⟨_, rfl⟩
  obtain ⟨pa, hpa⟩ : ∃ pa : Nat, pa = k.passed := ⟨_, rfl⟩
  have h1 : k.settle.seen = se := by rw [settle_seen, hse]
  have h2 : k.settle.passed = pa := by rw [settle_passed, hpa]
  have h3 := settle_ds k
  have HK := hid (And.intro h1 (And.intro h2 h3))
  have HL0 := hid (fun (e : se - pa = 0) => mk_level0 (k := k) (by rw [← hse, ← hpa]; exact e))
  have HL1 := hid (fun (e : se - pa ≠ 0) => (show k.level = ({ k.settle with passed := se } : Mk).then_ (.pass (se - pa)) from by rw [hse, hpa]; exact mk_level1 (by rw [← hse, ← hpa]; exact e)))
  rw [← hse, ← hpa] at hle
  rw [← hse] at hs
  generalize k.level = k' at *
  obtain ⟨ah, hah⟩ : ∃ ah : Nat, ah = se - pa := ⟨_, rfl⟩
  rw [← hah] at HL0 HL1
  have e1 : wrap64 ((se : Int) - (pa : Int)) = (ah : Int) := by unfold wrap64; omega
  have e2 : ((se : Int) - (pa : Int)) = (ah : Int) := by omega
  have e3 : IntKind.i64.wrap (ah : Int) = (ah : Int) := by rw [IntKind.wrap_i64]; omega
  clear hah
  clear h hw h1 h2 h3 hse hpa
  go_enter Tryz.func158, Tryz.ntmps158
  go_wp2_with fail
  refine HS.out.mono ?_
  rintro e w1 ⟨rfl, L1, hl1, a1, b1⟩
  have H1 := hid (And.intro hl1 (And.intro a1 b1))
  obtain ⟨c2, c3, z2, z3⟩ := a1.counts
  rw [HK.out.1] at c2
  rw [HK.out.2.1] at c3
  have HC := hid (And.intro c2 c3)
  have hkz := a1.le.2.1
  clear hl1 a1 b1 HS z2 z3 c2 c3
  go_wp2_with fail
  refine region_lex (fun w' => w'.cell? ⟨kb, 2, none⟩ = some (.int .i64 se) ∧ w'.cell? ⟨kb, 3, none⟩ = some (.int .i64 pa)) [(false, 0), (false, 1), (false, 2), (false, 3), (false, 4), (false, 5), (false, 6), (false, 7), (false, 8), (true, 9), (true, 10)] (by kernel_rfl) (by kernel_rfl) (panic_frame _ _ _) HC.out ?_
  simp only [lexL, List.getElem?_cons_zero, List.getElem?_cons_succ]
  iterate 9 (refine lexW_free (by rfl) (by intro w' hS'; obtain ⟨y0, y1⟩ := hS'; go_simp; exact rfl) ?_; simp only [Act.put, List.setIfInBounds_toArray, List.set_cons_zero, List.set_cons_succ])
  have hA := (H1.out.2.1.below (w' := w1.drew) (Below.refl _ _).drew)
  have HA := hid hA
  have HB := hid (H1.out.2.2.drew)
  have C1 := hid (And.intro (show w1.drew.cell? ⟨kb, 2, none⟩ = some (.int .i64 se) from HC.out.1) (show w1.drew.cell? ⟨kb, 3, none⟩ = some (.int .i64 pa) from HC.out.2))
  have hkz1 : kb < w1.drew.heap.size := hkz
  clear hA HC hkz
  generalize w1.drew = w2 at *
  refine lexW_sole (fun K hK => ?_)
  go_simp
  refine hK.out _ _ ⟨alloc_cell C1.out.1 hkz1, alloc_cell C1.out.2 hkz1⟩ ?_
  clear hK K
  refine lexW_sole (fun K hK => ?_)
  go_simp
  have hA3 := HA.out.box #[.int .i64 ah] 3
  have hB3 := HB.out.trans (below_alloc HA.out.le.1 (.cells #[.int .i64 ah] 3))
  have C3 := hid (And.intro (alloc_cell (o := .cells #[.int .i64 ah] 3) C1.out.1 hkz1) (alloc_cell (o := .cells #[.int .i64 ah] 3) C1.out.2 hkz1))
  have H3 := hid (And.intro hA3 hB3)
  refine hK.out _ _ C3.out ?_
  clear hK K HA HB C1 hA3 hB3
  refine lexW_done ?_
  have x0 := H3.out.1.hb.one List.mem_cons_self
  obtain ⟨c2, c3, z2, z3⟩ := H3.out.1.counts
  rw [HK.out.1] at c2
  rw [HK.out.2.1] at c3
  by_cases hz : ah = 0
  · have e4 : ((ah : Int) == 0) = true := by simp [hz]
    have HQ := hid (show MkE w B kb L k' (.returned (.tuple #[])) (w2.alloc (.cells #[.int .i64 ah] 3)) from by
      rw [HL0.out hz]
      exact ⟨rfl, _, fun t ht => List.mem_cons_of_mem _ (H1.out.1 t ht), H3.out.1, H3.out.2⟩)
    clear H1 H3 HK C3 c2 c3 z2 z3 hz
    go_wp2
    refine bodyPost_ret (results_none rfl _ _ _) rfl ?_
    exact HQ.out
  · have e4 : ((ah : Int) == 0) = false := by simp; omega
    obtain ⟨hA4, hB4⟩ := H3.out.1.count 3 se (by omega)
    have hk4 : ({ k.settle with seen := if 3 = 2 then se else k.settle.seen, passed := if 3 = 3 then se else k.settle.passed } : Mk) = { k.settle with passed := se } := rfl
    rw [hk4] at hA4
    have HT := hid (thenM hA4 (.pass ah) 178 #[ptr w2.heap.size] ⟨w2.heap.size, rfl, List.mem_cons_self⟩ (by show k.settle.ds.length ≤ 2000; have := HK.out.2.2; omega))
    have HE := hid (And.intro (HL1.out hz) (H3.out.2.trans hB4))
    clear H3 C3 hA4 hB4 hk4 hz HK HL0 HL1
    generalize w2.alloc (.cells #[.int .i64 ah] 3) = W at *
    go_wp2_with fail
    refine HT.out.mono ?_
    rintro e w5 ⟨rfl, h5, b5⟩
    have HQ := hid (show MkE w B kb L k' (.returned (.tuple #[])) w5 from by
      rw [HE.out.1]
      exact MkE.of (fun t ht => List.mem_cons_of_mem _ (H1.out.1 t ht)) HE.out.2 h5 b5)
    clear h5 b5 HT HE H1
    go_wp2
    go_end0
    exact HQ.out
end Go.Proofs.YtkafkipjedpohaaGreatDoor
