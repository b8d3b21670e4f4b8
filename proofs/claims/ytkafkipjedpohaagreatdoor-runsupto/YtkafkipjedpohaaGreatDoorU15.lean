import Derived.Test.YtkafkipjedpohaaGreatDoorU13

/-
  upshiftlaw's World.load: the walk.
-/
namespace Go.Proofs.YtkafkipjedpohaaGreatDoor
open Go.RowKit

/-- The two fields ahead of the lists. -/
def AdH.got (A : AdH) (f : Nat) : Value := if f = 0 then A.cv else A.pv
def AdH.put (A : AdH) (f : Nat) (v : Value) (t : Nat → Nat) : AdH := { A with tag := t, cv := if f = 0 then v else A.cv, pv := if f = 0 then A.pv else v }
theorem wcells_put (A : AdH) (f : Nat) (hf : f < 2) (v : Value) (t : Nat → Nat) : (wcells A).setIfInBounds f v = wcells (A.put f v t) := by
  have : f = 0 ∨ f = 1 := by omega
  rcases this with rfl | rfl <;> rfl
theorem wcells_got (A : AdH) (f : Nat) (hf : f < 2) : (wcells A)[f]? = some (A.got f) := by
  have : f = 0 ∨ f = 1 := by omega
  rcases this with rfl | rfl <;> rfl

theorem HoldAt.one {w w' : World} {B wb : Nat} {A : AdH} {Kd p : Nat → Prop} {n : Nat → Nat} {t : Nat → Nat} (h : HoldAt w B wb A Kd n) (f : Nat) (v : Value) (k : Ch B p A.tag t w w') (hk : ∀ d, Kd d → ¬ p d) (h5 : ∀ q, q < 4 → ¬ p (5 + q)) (hb : w'.heap[wb]? = some (.cells (wcells (A.put f v t)) 96 (0, 0))) : HoldAt w' B wb (A.put f v t) Kd n := by
  have hlt := heap_lt h.blk
  refine ⟨hb, ⟨h.own.1, (k.tags wb hlt).trans h.own.2⟩, Nat.le_trans h.le k.size, h.kd, fun q hq => (h.row q hq).keep k (h5 q hq), fun q hq i hi => (h.ent q hq i hi).keep k hk (fun _ h => h), fun i hi => ?_⟩
  obtain ⟨h1, h2, h3, h4, h5⟩ := h.ex i hi
  have ht := k.tags _ h1
  exact ⟨Nat.lt_of_lt_of_le h1 k.size, h2, by show Kd (t (A.XB (i / 4))); rw [ht]; exact h3, (k.cell (a := ⟨A.XB (i / 4), 0, none⟩) h1 (hk _ h3)).trans h4, (k.cell (a := ⟨A.XB (i / 4), 1, none⟩) h1 (hk _ h3)).trans h5⟩

/-- One more in one of the two. -/
theorem HoldAt.one_more {w : World} {B wb : Nat} {A : AdH} {Kd : Nat → Prop} {n : Nat → Nat} (h : HoldAt w B wb A Kd n) (f : Nat) (hf : f < 2) (e ts : TypeId) (i : TypeInfo) (z : Value) (bytes nc : Nat) (g : Nat → Value) (hrow : Row w B A.tag (3 + f) e 1 (A.got f) nc g) (ht : Tryz.prog.underlying ts = some (.slice e)) (hi : Tryz.prog.info? e = some i) (hz : i.zero = some z) (hsi : i.size = 1) (hby : i.bytes = bytes) (hzs : z.cells.size = 1) (hbb : bytes ≤ 24) (hnc : nc ≤ 10000000) (x : Value) (hx : x.oneCell' = true) (eT ty : TypeId) :
    ∃ gb cap w1, (Builtin.append_ #[ts, ts] ty #[A.got f, .slice (some ⟨w.heap.size, 0, none⟩) 1 1]).run Tryz.prog (w.alloc (.cells #[x] eT)) = .ok (.slice (some ⟨gb, 0, none⟩) (nc + 1) cap) w1 ∧
      w1.cell? ⟨wb, f, none⟩ = some (A.got f) ∧ w1.frozen? ⟨wb, f, none⟩ = false ∧ wb < w1.heap.size ∧
      ∃ t, HoldAt (w1.setCell ⟨wb, f, none⟩ (.slice (some ⟨gb, 0, none⟩) (nc + 1) cap)) B wb (A.put f (.slice (some ⟨gb, 0, none⟩) (nc + 1) cap) t) Kd n ∧
        Row (w1.setCell ⟨wb, f, none⟩ (.slice (some ⟨gb, 0, none⟩) (nc + 1) cap)) B t (3 + f) e 1 (.slice (some ⟨gb, 0, none⟩) (nc + 1) cap) (nc + 1) (upd g nc x) ∧
        Ch B (fun d => d = 0 ∨ d = 3 + f) A.tag t w (w1.setCell ⟨wb, f, none⟩ (.slice (some ⟨gb, 0, none⟩) (nc + 1) cap)) := by
  have hV : Below w.heap.size w (w.alloc (.cells #[x] eT)) := (Below.refl _ _).alloc (Nat.le_refl _) _
  have hbk : (nc + 1) * bytes ≤ 140737488355328 := by
    have : (nc + 1) * bytes ≤ 10000001 * 24 := Nat.mul_le_mul (by omega) hbb
    omega
  obtain ⟨gb, cap, w1, hr, hown, hgrow, hat, hlt⟩ := run_append_lies (P := Tryz.prog) (w.alloc (.cells #[x] eT)) ts ty B e i z 1 bytes ht hi hz hsi hby hzs (by decide) (A.got f) nc _ ((hrow.below hV).owns) ⟨w.heap.size, 0, none⟩ 1 1 [x] rfl (World.news_of_block (Go.Deep.blk_alloc_new w _)) (by intro u hu; simp at hu; rw [hu]; exact hx) (by omega) (by unfold maxLen; omega) hbk (Nat.le_trans h.le hV.size) (w.alloc (.cells #[x] eT)).heap.size rfl
  have hlt0 := heap_lt h.blk
  have hltV : wb < (w.alloc (.cells #[x] eT)).heap.size := Nat.lt_of_lt_of_le hlt0 hV.size
  have hb1 : w1.heap[wb]? = some (.cells (wcells A) 96 (0, 0)) := by
    refine (hgrow.block wb hltV ?_).trans ((hV.block wb hlt0).trans h.blk)
    exact hrow.other (by rw [h.own.2]; omega)
  have c1 : Ch B (fun _ => False) A.tag A.tag w (w.alloc (.cells #[x] eT)) := Ch.of_below hV
  obtain ⟨hr2, c2⟩ := (hrow.keep c1 (fun h => h)).grewN (k := 1) hown hgrow hat rfl
  generalize (fun b => if b < (w.alloc (.cells #[x] eT)).heap.size then A.tag b else 3 + f) = t2 at hr2 c2
  have ht0 : t2 wb = 0 := (c2.tags wb hltV).trans h.own.2
  have c3 : Ch B (fun d => d = 0) t2 t2 w1 (w1.setCell ⟨wb, f, none⟩ (.slice (some ⟨gb, 0, none⟩) (nc + 1) cap)) := Ch.set w1 _ _ _ h.own.1 ht0
  have call : Ch B (fun d => d = 0 ∨ d = 3 + f) A.tag t2 w (w1.setCell ⟨wb, f, none⟩ (.slice (some ⟨gb, 0, none⟩) (nc + 1) cap)) := ((c1.mono (fun _ h => h.elim)).trans (c2.mono (fun d hd => Or.inr hd))).trans (c3.mono (fun d hd => Or.inl hd))
  refine ⟨gb, cap, w1, hr, (cell_heap hb1).trans (wcells_got A f hf), frozen_heap hb1, heap_lt hb1, t2, h.one f _ call (fun d hd hp => h.kd d hd (by unfold Wt; omega)) (fun q hq => by omega) ?_, ?_, call⟩
  · rw [block_set hb1 _, wcells_put A f hf _ t2]
  · refine (hr2.keep c3 (by omega)).congr (fun i hi => ?_)
    by_cases e : i = nc
    · subst e
      rw [if_neg (by omega), upd_same]
      simp
    · rw [if_pos (by omega), upd_other _ _ _ _ e]

theorem Tryz.infoPC : (Tryz.prog.info? 25).map (fun i => (i.zero, i.size, i.bytes)) = some (some (.pointer none), 1, 8) := by kernel_rfl
theorem Tryz.infoSF : (Tryz.prog.info? 23).map (fun i => (i.zero, i.size, i.bytes)) = some (some (.slice none 0 0), 1, 24) := by kernel_rfl

/-- A code that is new, its program in blocks that stand. -/
theorem cd_new {w w' : World} {B : Nat} {tag : Nat → Nat} {v : Value} {m pb po pc : Nat} {F : Nat → PF} (hC : CodeIs w w' v m F) (hw : Below w.heap.size w w') (hP : ProgStd w B tag pb po m F) (h0 : (progP m F).1 = 0) :
    CdAt w' B (fun b => if b < w.heap.size then tag b else 9) v (.slice (some ⟨pb, po, none⟩) m pc) m F := by
  obtain ⟨b, g, cap, hv, hb, hb2, hc, hg, hg2, hne, CA, CC, hj⟩ := hC
  have h9 : ∀ b, w.heap.size ≤ b → (fun b => if b < w.heap.size then tag b else 9) b = 9 := fun b hb => by show (if b < w.heap.size then tag b else 9) = 9; rw [if_neg (by omega)]
  refine ⟨⟨b, g, cap, hv, ⟨hb2, Or.inr (h9 b hb)⟩, hc, CA, CC, ⟨hg2, fun k hk => (hj k hk).1⟩, ⟨hg2, Or.inr (h9 g hg)⟩, fun k hk cb co e hcn => ?_⟩, ⟨pb, po, pc, rfl, hP.keep hw.size (fun b hb => hw.block b hb.1) (fun b hb h => ?_)⟩, prog_fine h0⟩
  · obtain ⟨hf, cb', co', e', _, hold⟩ := hj k hk
    obtain ⟨cb2, co2, e2, hl2, _⟩ := hf.code hcn
    rw [e] at e' e2
    injection e' with e'
    injection e' with e3 e4
    injection e2 with e2
    injection e2 with e5 e6
    have hcb := hold hk
    exact ⟨by rw [e5]; exact hl2, Or.inr (h9 cb (by rw [e3]; exact hcb))⟩
  · show (if b < w.heap.size then tag b else 9) = 9
    rw [if_pos hb]; exact h

/-- What load leaves. -/
def WLdE (w : World) (B wb : Nat) (n : Nat → Nat) (nc : Nat) (e : Ending) (w' : World) : Prop :=
  e = .returned (.bool true) ∧ Below B w w' ∧ ∃ (A' : AdH) (nc' : Nat) (CV PV : Nat → Value) (M : Nat → Nat) (FF : Nat → Nat → PF), WAt w' B wb A' n nc' CV PV M FF ∧ nc ≤ nc' ∧ nc' ≤ nc + 1

theorem WAt.below {w w' : World} {B wb : Nat} {A : AdH} {n : Nat → Nat} {nc : Nat} {CV PV : Nat → Value} {M : Nat → Nat} {FF : Nat → Nat → PF} (h : WAt w B wb A n nc CV PV M FF) (k : Below w.heap.size w w') : WAt w' B wb A n nc CV PV M FF :=
  ⟨h.hold.below k, h.four, h.cr.below k, h.pr.below k, fun i hi => (h.cd i hi).keep k.size (fun b hb => k.block b hb.1) (fun _ _ h => h)⟩
theorem upd_lt {α : Type} (f : Nat → α) (k : Nat) (v : α) (i : Nat) (h : i < k) : upd f k v i = f i := upd_other _ _ _ _ (by omega)

set_option maxRecDepth 100000 in
set_option maxHeartbeats 2000000 in
theorem world_load (w : World) (B wb : Nat) (A : AdH) (n : Nat → Nat) (nc : Nat) (CV PV : Nat → Value) (M : Nat → Nat) (FF : Nat → Nat → PF) (h : WAt w B wb A n nc CV PV M FF) (p : Option Addr) (pc m : Nat) (F : Nat → PF) (CA : Nat → Option Addr) (CC : Nat → Nat) (hG : Given w p m F CA CC) (hS : 1 ≤ m → ∃ pb po, p = some ⟨pb, po, none⟩ ∧ ProgStd w B A.tag pb po m F) (hm : 40 * m ≤ 140737488355328) (hcn : ∀ k, k < m → 16 * (F k).cn ≤ 140737488355328) (ht : TabAt w) (hw : 0 < w.heap.size) (hnc2 : nc ≤ 10000000) :
    Calls Tryz.prog 36 #[.pointer (some ⟨wb, 0, none⟩), .slice p m pc] w fun e w' => WLdE w B wb n nc e w' ∧ ((progP m F).1 = 0 → ∃ (A' : AdH) (CV PV : Nat → Value) (M : Nat → Nat) (FF : Nat → Nat → PF), WAt w' B wb A' n (nc + 1) CV PV M FF) := by
  have hl := loaded_any p pc m F CA CC w hG hm hcn ht hw
  have HL := hid hl
  have HX := hid (And.intro h hS)
  clear hl h hS hG hcn ht
  go_enter Tryz.func36, Tryz.ntmps36
  go_wp2_with fail
  refine HL.out.mono ?_
  rintro e w2 ⟨v, rfl, hB2, hv⟩
  rcases hv with ⟨h0, hC⟩ | ⟨h0, rfl⟩
  · have hm1 : 1 ≤ m := by
      have := progP_fine h0
      obtain ⟨K, H, hF⟩ := prog_fine h0
      exact hF.size.1
    obtain ⟨pb, po, rfl, hPS⟩ := HX.out.2 hm1
    have hH := HX.out.1
    have hBw := hH.hold.le
    obtain ⟨t0, ht0⟩ : ∃ t0 : Nat → Nat, t0 = fun b => if b < w.heap.size then A.tag b else 9 := ⟨_, rfl⟩
    have c0 : Ch B (fun _ => False) A.tag t0 w w2 := Ch.of_tags hB2 (fun b hb => by rw [ht0]; show (if b < w.heap.size then A.tag b else 9) = _; rw [if_pos hb])
    have hcd := cd_new (pc := pc) hC hB2 hPS h0
    rw [← ht0] at hcd
    have hvb : ∃ vb, v = .pointer (some ⟨vb, 0, none⟩) := by obtain ⟨b, _, _, hv, _⟩ := hC; exact ⟨b, hv⟩
    obtain ⟨vb, rfl⟩ := hvb
    have hH2 : HoldAt w2 B wb { A with tag := t0 } (fun d => d = 9) n := hH.hold.keep c0 (fun _ _ h => h)
    have hcr2 : Row w2 B t0 3 25 1 A.cv nc CV := hH.cr.keep c0 (fun h => h)
    have hpr2 : Row w2 B t0 4 23 1 A.pv nc PV := hH.pr.keep c0 (fun h => h)
    obtain ⟨i1, hi1, z1, s1, b1⟩ : ∃ i, Tryz.prog.info? 25 = some i ∧ i.zero = some (.pointer none) ∧ i.size = 1 ∧ i.bytes = 8 := by
      obtain ⟨i, hi, hzz⟩ := Option.map_eq_some_iff.1 Tryz.infoPC
      simp only [Prod.mk.injEq] at hzz
      exact ⟨i, hi, hzz.1, hzz.2.1, hzz.2.2⟩
    obtain ⟨i2, hi2, z2, s2, b2⟩ : ∃ i, Tryz.prog.info? 23 = some i ∧ i.zero = some (.slice none 0 0) ∧ i.size = 1 ∧ i.bytes = 24 := by
      obtain ⟨i, hi, hzz⟩ := Option.map_eq_some_iff.1 Tryz.infoSF
      simp only [Prod.mk.injEq] at hzz
      exact ⟨i, hi, hzz.1, hzz.2.1, hzz.2.2⟩
    obtain ⟨g1, k1, w3, r1, x1, f1, l1, t1, hH3, hrow3, ch3⟩ := hH2.one_more 0 (by omega) 25 88 i1 _ 8 nc CV hcr2 Tryz.underlying88 hi1 z1 s1 b1 rfl (by omega) hnc2 (.pointer (some ⟨vb, 0, none⟩)) rfl 25 88
    have hpr3 := hpr2.keep ch3 (by omega)
    obtain ⟨g2, k2, w4, r2, x2, f2, l2, t2, hH4, hrow4, ch4⟩ := hH3.one_more 1 (by omega) 23 89 i2 _ 24 nc PV hpr3 Tryz.underlying89 hi2 z2 s2 b2 rfl (by omega) hnc2 (.slice (some ⟨pb, po, none⟩) m pc) rfl 23 89
    obtain ⟨p1, q1, e1⟩ := hcr2.slc
    obtain ⟨p2, q2, e2⟩ := hpr2.slc
    have y1 : w2.cell? ⟨wb, 0, none⟩ = some (.slice p1 nc q1) := by rw [cell_heap hH2.blk, ← e1]; rfl
    have lw2 := heap_lt hH2.blk
    have x1' : w3.cell? ⟨wb, 0, none⟩ = some (.slice p1 nc q1) := by rw [← e1]; exact x1
    have r1' := r1
    rw [show ({ A with tag := t0 } : AdH).got 0 = .slice p1 nc q1 from e1] at r1'
    have x2' : w4.cell? ⟨wb, 1, none⟩ = some (.slice p2 nc q2) := by rw [← e2]; exact x2
    have y2 : (w3.setCell ⟨wb, 0, none⟩ (.slice (some ⟨g1, 0, none⟩) (nc + 1) k1)).cell? ⟨wb, 1, none⟩ = some (.slice p2 nc q2) := by rw [cell_heap hH3.blk, ← e2]; rfl
    have y3 : w3.cell? ⟨wb, 1, none⟩ = some (.slice p2 nc q2) := by
      rw [← y2]
      exact (World.cell?_setCell_other _ _ _ _ (by intro e; injection e with e1 e2; omega)).symm
    rw [show (({ A with tag := t0 } : AdH).put 0 (.slice (some ⟨g1, 0, none⟩) (nc + 1) k1) t1).got 1 = .slice p2 nc q2 from e2, show (w3.setCell ⟨wb, 0, none⟩ (.slice (some ⟨g1, 0, none⟩) (nc + 1) k1)).heap.size = w3.heap.size by simp] at r2
    have HQ := hid (show WAt (w4.setCell ⟨wb, 1, none⟩ (.slice (some ⟨g2, 0, none⟩) (nc + 1) k2)) B wb _ n (nc + 1) (upd CV nc (.pointer (some ⟨vb, 0, none⟩))) (upd PV nc (.slice (some ⟨pb, po, none⟩) m pc)) (upd M nc m) (upd FF nc F) from by
      refine ⟨hH4, hH.four, ?_, ?_, fun i hi => ?_⟩
      · exact hrow3.keep ch4 (by omega)
      · exact hrow4
      · have kk : ∀ {cv pv : Value} {mm : Nat} {G : Nat → PF}, CdAt w2 B t0 cv pv mm G → CdAt (w4.setCell ⟨wb, 1, none⟩ (.slice (some ⟨g2, 0, none⟩) (nc + 1) k2)) B t2 cv pv mm G := by
          intro cv pv mm G hc
          have ca := ch3.mono (q := fun d => d = 0 ∨ d = 3 ∨ d = 4) (fun d hd => by omega)
          have cb := ca.trans (ch4.mono (q := fun d => d = 0 ∨ d = 3 ∨ d = 4) (fun d hd => by omega))
          refine hc.keep cb.size (fun b hb => cb.block b hb.1 ?_) (fun b hb h9 => (cb.tags b hb).trans h9)
          rcases hb.2 with h | h
          · exact Or.inl h
          · exact Or.inr (by show ¬ (t0 b = 0 ∨ t0 b = 3 ∨ t0 b = 4); omega)
        by_cases e : i = nc
        · subst e
          rw [upd_same, upd_same, upd_same, upd_same]
          exact kk hcd
        · have hi' : i < nc := by omega
          rw [upd_lt _ _ _ _ hi', upd_lt _ _ _ _ hi', upd_lt _ _ _ _ hi', upd_lt _ _ _ _ hi']
          exact kk ((hH.cd i hi').keep c0.size (fun b hb => c0.block b hb.1 (Or.inr (fun h => h))) (fun b hb h9 => (c0.tags b hb).trans h9)))
    have HB4 : Hid (Below B w (w4.setCell ⟨wb, 1, none⟩ (.slice (some ⟨g2, 0, none⟩) (nc + 1) k2))) := ((hB2.mono hBw).trans (ch3.below (Nat.le_trans hBw hB2.size))).trans (ch4.below (Nat.le_trans hBw (Nat.le_trans hB2.size ch3.size)))
    have HR := hid (And.intro r1' r2)
    clear hC hPS hH ht0 c0 hcd hH2 hcr2 hpr2 hi1 z1 s1 b1 hi2 z2 s2 b2 r1 x1 hH3 hrow3 ch3 hpr3 r2 x2 hH4 hrow4 ch4 e1 e2 r1' y2 hB2
    go_wp2_with (at_builtin; refine app_stop rfl _ _ 88 rfl ?_)
    refine ⟨?_, trivial⟩
    refine wpList_append_run _ rfl _ _ 88 rfl _ _ _ _ rfl rfl HR.out.1 ?_
    clear y1
    go_wp2_with (at_builtin; refine app_stop rfl _ _ 89 rfl ?_)
    refine ⟨?_, trivial⟩
    refine wpList_append_run _ rfl _ _ 89 rfl _ _ _ _ rfl rfl HR.out.2 ?_
    clear y3 x1'
    go_wp2
    go_ret
    exact ⟨⟨rfl, HB4.out, _, _, _, _, _, _, HQ.out, by omega, Nat.le_refl _⟩, fun _ => ⟨_, _, _, _, _, HQ.out⟩⟩
  · have HQ : Hid (WLdE w B wb n nc (.returned (.bool true)) w2) := ⟨rfl, hB2.mono HX.out.1.hold.le, A, nc, CV, PV, M, FF, HX.out.1.below hB2, Nat.le_refl _, by omega⟩
    clear hB2
    go_wp2
    go_ret
    exact ⟨HQ.out, fun h => absurd h h0⟩
end Go.Proofs.YtkafkipjedpohaaGreatDoor

/-
  upshiftlaw.plays: the walk.
-/
namespace Go.Proofs.YtkafkipjedpohaaGreatDoor
open Go.RowKit

def In64 (z : Int) : Prop := -9223372036854775808 ≤ z ∧ z ≤ 9223372036854775807
/-- An operation of a script. -/
structure OpD where
  kd : Int
  at_ : Int
  num : Int
  ep : Option Addr
  el : Nat
  ec : Nat
  ev : Nat → Int × Int × Int
  pp : Option Addr
  pl : Nat
  pc : Nat
  F : Nat → PF
  CA : Nat → Option Addr
  CC : Nat → Nat

/-- Events that are handed in. -/
def EvIn (w : World) (ep : Option Addr) (el : Nat) (ev : Nat → Int × Int × Int) : Prop :=
  1 ≤ el → ∃ eb eo, ep = some ⟨eb, eo, none⟩ ∧ eb < w.heap.size ∧ ∀ k, k < el → w.cell? ⟨eb, eo + k * 3, none⟩ = some (.int .i64 (ev k).1) ∧ w.cell? ⟨eb, eo + k * 3 + 1, none⟩ = some (.int .i64 (ev k).2.1) ∧ w.cell? ⟨eb, eo + k * 3 + 2, none⟩ = some (.int .i64 (ev k).2.2) ∧ In64 (ev k).1 ∧ In64 (ev k).2.1 ∧ In64 (ev k).2.2
theorem EvIn.below {w w' : World} {B el : Nat} {ep : Option Addr} {ev : Nat → Int × Int × Int} (h : EvIn w ep el ev) (k : Below B w w') (hB : w.heap.size ≤ B) : EvIn w' ep el ev := fun h1 => by
  obtain ⟨eb, eo, e, hl, hc⟩ := h h1
  have hz := k.size
  refine ⟨eb, eo, e, by omega, fun j hj => ?_⟩
  obtain ⟨c0, c1, c2, r⟩ := hc j hj
  exact ⟨(k.cell (p := ⟨eb, _, none⟩) (by show eb < B; omega)).trans c0, (k.cell (p := ⟨eb, _, none⟩) (by show eb < B; omega)).trans c1, (k.cell (p := ⟨eb, _, none⟩) (by show eb < B; omega)).trans c2, r⟩

/-- What an operation's parts are. -/
structure OpOk (w : World) (o : OpD) : Prop where
  kd : In64 o.kd
  at_ : In64 o.at_
  num : In64 o.num
  ev : EvIn w o.ep o.el o.ev
  el : 24 * o.el ≤ 140737488355328
  given : Given w o.pp o.pl o.F o.CA o.CC
  pl : 40 * o.pl ≤ 140737488355328
  cn : ∀ k, k < o.pl → 16 * (o.F k).cn ≤ 140737488355328
theorem OpOk.below {w w' : World} {B : Nat} {o : OpD} (h : OpOk w o) (k : Below B w w') (hB : w.heap.size ≤ B) : OpOk w' o :=
  ⟨h.kd, h.at_, h.num, h.ev.below k hB, h.el, h.given.below k hB, h.pl, h.cn⟩

structure OpIn (w : World) (sb so i : Nat) (o : OpD) : Prop where
  c0 : w.cell? ⟨sb, so + i * 5, none⟩ = some (.int .i64 o.kd)
  c1 : w.cell? ⟨sb, so + i * 5 + 1, none⟩ = some (.int .i64 o.at_)
  c2 : w.cell? ⟨sb, so + i * 5 + 2, none⟩ = some (.int .i64 o.num)
  c3 : w.cell? ⟨sb, so + i * 5 + 3, none⟩ = some (.slice o.ep o.el o.ec)
  c4 : w.cell? ⟨sb, so + i * 5 + 4, none⟩ = some (.slice o.pp o.pl o.pc)
  ok : OpOk w o
theorem OpIn.below {w w' : World} {B sb so i : Nat} {o : OpD} (h : OpIn w sb so i o) (k : Below B w w') (hB : w.heap.size ≤ B) (hs : sb < B) : OpIn w' sb so i o :=
  ⟨(k.cell (p := ⟨sb, _, none⟩) hs).trans h.c0, (k.cell (p := ⟨sb, _, none⟩) hs).trans h.c1, (k.cell (p := ⟨sb, _, none⟩) hs).trans h.c2, (k.cell (p := ⟨sb, _, none⟩) hs).trans h.c3, (k.cell (p := ⟨sb, _, none⟩) hs).trans h.c4, h.ok.below k hB⟩
/-- A script that is handed in. -/
def ScriptIn (w : World) (sp : Option Addr) (sl : Nat) (OP : Nat → OpD) : Prop := 1 ≤ sl → ∃ sb so, sp = some ⟨sb, so, none⟩ ∧ sb < w.heap.size ∧ ∀ i, i < sl → OpIn w sb so i (OP i)

/-- Steps of kinds 2 to most are walked. -/
def StepsUp (most : Int) : Prop := ∀ (w : World) (B wb : Nat) (A : AdH) (n : Nat → Nat) (nc : Nat) (CV PV : Nat → Value) (M : Nat → Nat) (FF : Nat → Nat → PF) (o : OpD), WAt w B wb A n nc CV PV M FF → OpOk w o → 2 ≤ o.kd → o.kd ≤ most → 1 ≤ nc → nc ≤ 10000000 → (∀ k, k < 4 → n k ≤ 3000000000000) →
    Calls Tryz.prog 38 #[.pointer (some ⟨wb, 0, none⟩), .agg #[.int .i64 o.kd, .int .i64 o.at_, .int .i64 o.num, .slice o.ep o.el o.ec, .slice o.pp o.pl o.pc]] w (WStE w B wb n nc CV PV M FF)

theorem steps_four : StepsUp 4 := by
  intro w B wb A n nc CV PV M FF o h ho h2 h4 hnc hnc2 hnb
  have : o.kd = 2 ∨ o.kd = 3 ∨ o.kd = 4 := by omega
  rcases this with e | e | e
  · rw [e]; exact step_headers w B wb A n nc CV PV M FF h _ _ _ _ _ _ _ _ ho.at_ hnc hnc2 hnb
  · rw [e]; exact step_run w B wb A n nc CV PV M FF h _ _ _ _ _ _ _ _ ho.at_ hnc hnc2 hnb
  · rw [e]; exact step_look w B wb A n nc CV PV M FF h _ _ _ _ _ _ _ _ ho.at_ hnc hnc2 hnb

set_option maxHeartbeats 400000 in
theorem small_any2 (w : World) : Calls Tryz.prog 37 #[] w fun e w' => e = .returned (.slice (some ⟨w.heap.size + 1, 0, none⟩) 1 1) ∧ Below w.heap.size w w' ∧ Given w' (some ⟨w.heap.size + 1, 0, none⟩) 1 (fun _ => smallF) (fun _ => some ⟨w.heap.size, 0, none⟩) (fun _ => 6) := by
  go_enter Tryz.func37, Tryz.ntmps37
  go_wp2
  go_ret
  exact ⟨by simp, ((Below.refl _ _).alloc (Nat.le_refl _) _).alloc (by simp) _, small_given w⟩

/-- Programs in blocks that stand. -/
theorem Given.std {w w' : World} {B pb po m : Nat} {tag : Nat → Nat} {F : Nat → PF} {CA : Nat → Option Addr} {CC : Nat → Nat} (h : ProgAt w pb po m F CA CC) (k : Below w.heap.size w w') (hs : ∀ b, b < w.heap.size → b = pb ∨ (∃ q, q < m ∧ ∃ co, CA q = some ⟨b, co, none⟩) → b < B ∨ tag b = 9) : ProgStd w' B tag pb po m F := by
  have hz := k.size
  refine ⟨CA, CC, h.below k (Nat.le_refl _), ⟨by have := h.lt; omega, hs pb h.lt (Or.inl rfl)⟩, fun q hq cb co e hcn => ?_⟩
  obtain ⟨cb', co', e', hl, _⟩ := (h.fn q hq).code hcn
  rw [e] at e'
  injection e' with e'
  injection e' with e3 e4
  subst e3
  exact ⟨by omega, hs cb hl (Or.inr ⟨q, hq, co, e⟩)⟩

/-- Where plays stands in its loop. -/
def PlAt (w : World) (B wb i : Nat) (wr : World) : Prop :=
  Below B w wr ∧ ∃ (A : AdH) (n : Nat → Nat) (nc : Nat) (CV PV : Nat → Value) (M : Nat → Nat) (FF : Nat → Nat → PF), WAt wr B wb A n nc CV PV M FF ∧ 1 ≤ nc ∧ nc ≤ i + 1 ∧ ∀ k, k < 4 → n k ≤ i * 400400

theorem rise_le {a i : Nat} (h : a ≤ i * 400400) : a ≤ (i + 1) * 400400 := Nat.le_trans h (Nat.mul_le_mul_right _ (Nat.le_succ i))
theorem rise_add {a b i : Nat} (h : b ≤ i * 400400) (h2 : a ≤ b + 400400) : a ≤ (i + 1) * 400400 := by
  rw [Nat.add_mul, Nat.one_mul]
  exact Nat.le_trans h2 (Nat.add_le_add_right h _)
theorem still_pl {w wr : World} {B wb i : Nat} (h : PlAt w B wb i wr) (hi : i ≤ 1048577) : Calls Tryz.prog 39 #[.pointer (some ⟨wb, 2, none⟩)] wr fun e w' => e = .returned (.bool true) ∧ PlAt w B wb i w' := by
  obtain ⟨hB, A, n, nc, CV, PV, M, FF, hA, h1, h2, h3⟩ := h
  refine (still_any wr B wb A _ n hA.hold (fun k hk => by have := h3 k hk; omega)).mono ?_
  rintro e w' ⟨rfl, hB'⟩
  exact ⟨rfl, hB.trans (hB'.mono hA.hold.le), A, n, nc, CV, PV, M, FF, hA.below hB', h1, h2, h3⟩

def wnew : Array Value := #[.slice none 0 0, .slice none 0 0, .slice none 0 0, .slice none 0 0, .slice none 0 0, .slice none 0 0]
def AdH.new (wb : Nat) : AdH := { tag := fun b => if b = wb then 0 else 9, cv := .slice none 0 0, pv := .slice none 0 0, hv := fun _ => .slice none 0 0, HV := fun _ _ => .slice none 0 0, XB := fun _ => 0 }
theorem WAt.new (w : World) : WAt (w.alloc (.cells wnew 96)) w.heap.size w.heap.size (AdH.new w.heap.size) (fun _ => 0) 0 (fun _ => .bool false) (fun _ => .bool false) (fun _ => 0) (fun _ _ => smallF) := by
  refine ⟨⟨Go.Deep.blk_alloc_new _ _, ⟨Nat.le_refl _, if_pos rfl⟩, by simp, fun d hd => by rw [hd]; unfold Wt; omega, fun k hk => Row.nil _ _ _ _ _ _ _, fun k hk i hi => absurd hi (by omega), fun i hi => absurd hi (by omega)⟩, fun k hk => rfl, Row.nil _ _ _ _ _ _ _, Row.nil _ _ _ _ _ _ _, fun i hi => absurd hi (by omega)⟩

set_option maxRecDepth 100000 in
set_option maxHeartbeats 2000000 in
theorem plays_any (most : Int) (hup : StepsUp most) (w : World) (sp : Option Addr) (sl sc : Nat) (OP : Nat → OpD) (hin : ScriptIn w sp sl OP) (hsl : sl ≤ 1048576) (ht : TabAt w) (hw : 0 < w.heap.size) :
    Calls Tryz.prog 18 #[.slice sp sl sc, .int .i64 most] w fun e w' => e = .returned (.bool true) ∧ Below w.heap.size w w' := by
  have HI := hid (And.intro hin (And.intro ht hup))
  clear hin ht hup
  obtain ⟨W, hWd⟩ : ∃ W, W = w.alloc (.cells wnew 96) := ⟨_, rfl⟩
  have hWB : Below w.heap.size w W := by rw [hWd]; exact (Below.refl _ _).alloc (Nat.le_refl _) _
  have hWA := WAt.new w
  rw [← hWd] at hWA
  have hWz : W.heap.size = w.heap.size + 1 := by rw [hWd]; simp
  have HW := hid (And.intro hWB (And.intro hWA hWz))
  have HD := hid hWd
  clear hWd hWB hWA hWz
  go_enter Tryz.func18, Tryz.ntmps18
  go_wp2_with fail
  rw [show (#[.slice none 0 0, .slice none 0 0, .slice none 0 0, .slice none 0 0, .slice none 0 0, .slice none 0 0] : Array Value) = wnew from rfl, ← HD.out]
  refine (small_any2 W).mono ?_
  rintro e w1 ⟨rfl, hB1, hG1⟩
  obtain ⟨hWB, hWA, hWz⟩ := HW.out
  have hBw1 : Below w.heap.size w w1 := hWB.trans (hB1.mono hWB.size)
  have hld := world_load w1 w.heap.size w.heap.size (AdH.new w.heap.size) (fun _ => 0) 0 _ _ _ _ (hWA.below hB1) (some ⟨W.heap.size + 1, 0, none⟩) 1 1 (fun _ => smallF) _ _ hG1 (fun h1 => ⟨_, _, rfl, by
    obtain ⟨pb, po, e, hP⟩ := hG1 h1
    injection e with e
    injection e with e1 e2
    rw [e1, e2]
    refine Given.std hP (Below.refl _ _) (fun b hb h => Or.inr ?_)
    show (if b = w.heap.size then 0 else 9) = 9
    rw [if_neg]
    rcases h with h | ⟨q, _, co, h⟩
    · omega
    · injection h with h
      injection h with h1 h2
      omega⟩) (by omega) (fun k hk => by show 16 * 6 ≤ _; omega) (HI.out.2.1.below hBw1 hw) (by have := hBw1.size; omega) (by omega)
  have HLD := hid hld
  have HB1 := hid hBw1
  clear hld hBw1 hB1 hG1 hWB hWA hWz
  go_wp2_with fail
  refine HLD.out.mono ?_
  rintro e w2 ⟨⟨rfl, hB2, _⟩, hA2⟩
  obtain ⟨A2, CV2, PV2, M2, FF2, hW2⟩ := hA2 small_fine
  have HP := hid (show PlAt w w.heap.size w.heap.size 0 w2 from ⟨HB1.out.trans hB2, A2, _, 1, CV2, PV2, M2, FF2, hW2, Nat.le_refl _, Nat.le_refl _, fun k hk => Nat.zero_le _⟩)
  obtain ⟨p0, q0, e0⟩ := hW2.cr.slc
  have y0 : w2.cell? ⟨w.heap.size, 0, none⟩ = some (.slice p0 ((0 : Nat) + 1 : Nat) q0) := by rw [cell_heap hW2.hold.blk, ← e0]; rfl
  have z0 := heap_lt hW2.hold.blk
  clear hA2 hW2 HB1 hB2 e0 HLD HW HD
  go_wp2
  clear y0
  go_loopw [6, 7] (fun v1 v2 wr => ∃ i : Nat, i ≤ sl ∧ v1 = .bool true ∧ v2 = .int .i64 i ∧ PlAt w w.heap.size w.heap.size i wr) (fun _ v _ => sl - (intOf v).toNat)
  case atStart => exact ⟨0, Nat.zero_le _, rfl, rfl, HP.out⟩
  case round =>
    obtain ⟨i, hi, rfl, rfl, hBr, A, n, nc, CV, PV, M, FF, hA, hn1, hn2, hnb⟩ := hrel
    by_cases hlt : i < sl
    · have hd : decide ((i : Int) < (sl : Int)) = true := by simp; omega
      obtain ⟨sb, so, rfl, hsb, hOP⟩ := HI.out.1 (by omega)
      have ho := (hOP i hlt).below hBr (Nat.le_refl _) hsb
      have i0 : (0 : Int) ≤ (i : Int) := by omega
      have i1 : (i : Int) < (sl : Int) := by omega
      obtain ⟨o, hoo⟩ : ∃ o, OP i = o := ⟨_, rfl⟩
      rw [hoo] at ho
      obtain ⟨c0, c1, c2, c3, c4, hok⟩ := ho
      have hoB := (hOP i hlt).ok
      rw [hoo] at hoB
      have hbr := hBr.size
      have hsbr : sb < wr.heap.size := by omega
      obtain ⟨X, hX⟩ : ∃ X, X = wr.alloc (.cells #[.int .i64 o.kd, .int .i64 o.at_, .int .i64 o.num, .slice o.ep o.el o.ec, .slice o.pp o.pl o.pc] 100) := ⟨_, rfl⟩
      have hXB : Below wr.heap.size wr X := by rw [hX]; exact (Below.refl _ _).alloc (Nat.le_refl _) _
      have hbx : X.heap[wr.heap.size]? = some (.cells #[.int .i64 o.kd, .int .i64 o.at_, .int .i64 o.num, .slice o.ep o.el o.ec, .slice o.pp o.pl o.pc] 100 (0, 0)) := by rw [hX]; exact Go.Deep.blk_alloc_new _ _
      have b0 : X.cell? ⟨wr.heap.size, 0, none⟩ = some (.int .i64 o.kd) := (cell_heap hbx).trans rfl
      have b1 : X.cell? ⟨wr.heap.size, 1, none⟩ = some (.int .i64 o.at_) := (cell_heap hbx).trans rfl
      have b2 : X.cell? ⟨wr.heap.size, 2, none⟩ = some (.int .i64 o.num) := (cell_heap hbx).trans rfl
      have b3 : X.cell? ⟨wr.heap.size, 3, none⟩ = some (.slice o.ep o.el o.ec) := (cell_heap hbx).trans rfl
      have b4 : X.cell? ⟨wr.heap.size, 4, none⟩ = some (.slice o.pp o.pl o.pc) := (cell_heap hbx).trans rfl
      have hxz := heap_lt hbx
      have hwX : Below w.heap.size w X := hBr.trans (hXB.mono hbr)
      have hAX := hA.below hXB
      have HX := hid (And.intro hAX (And.intro hwX (And.intro (hok.below hXB (Nat.le_refl _)) (And.intro hoB hnb))))
      have hwbX : w.heap.size < X.heap.size := heap_lt hAX.hold.blk
      have HXD := hid hX
      clear hX hXB hbx hwX hAX hA hok hoB hBr hOP hnb
      by_cases k1 : o.kd < 1 ∨ most < o.kd
      · have hPl : PlAt w w.heap.size w.heap.size (i + 1) X := ⟨HX.out.2.1, A, n, nc, CV, PV, M, FF, HX.out.1, hn1, by omega, fun k hk => rise_le (HX.out.2.2.2.2 k hk)⟩
        by_cases k0 : o.kd < 1
        · have d0 : decide (o.kd < 1) = true := by simpa using k0
          have HPl := hid hPl
          clear k0 k1 hPl
          go_wp2_with fail
          rw [← HXD.out]
          have hPl := HPl.out
          refine (still_pl hPl (by omega)).mono ?_
          rintro e w6 ⟨rfl, hQ⟩
          have HQ := hid hQ
          clear hQ
          go_wp2
          exact ⟨⟨i + 1, by omega, rfl, by go_num, HQ.out⟩, by simp [intOf]; omega⟩
        · have d0 : decide (o.kd < 1) = false := by simpa using k0
          have d1 : decide (most < o.kd) = true := by simp; omega
          have HPl := hid hPl
          clear k0 k1 hPl
          go_wp2_with fail
          rw [← HXD.out]
          have hPl := HPl.out
          refine (still_pl hPl (by omega)).mono ?_
          rintro e w6 ⟨rfl, hQ⟩
          have HQ := hid hQ
          clear hQ
          go_wp2
          exact ⟨⟨i + 1, by omega, rfl, by go_num, HQ.out⟩, by simp [intOf]; omega⟩
      · have d0 : decide (o.kd < 1) = false := by simp; omega
        have d1 : decide (most < o.kd) = false := by simp; omega
        by_cases k2 : o.kd = 1
        · have d2 : (o.kd == 1) = true := by simpa using k2
          have hld := world_load X w.heap.size w.heap.size A n nc CV PV M FF HX.out.1 o.pp o.pc o.pl o.F o.CA o.CC HX.out.2.2.1.given (fun h1 => by
            obtain ⟨pb, po, e, hP⟩ := HX.out.2.2.2.1.given h1
            have hP2 := Given.std (B := w.heap.size) (tag := A.tag) hP (Below.refl _ _) (fun b hb _ => Or.inl hb)
            have hX := HX.out.2.1
            exact ⟨pb, po, e, hP2.keep hX.size (fun b hb => hX.block b hb.1) (fun _ _ h => h)⟩) HX.out.2.2.1.pl HX.out.2.2.1.cn (HI.out.2.1.below HX.out.2.1 hw) (by omega) (by omega)
          have HLD := hid hld
          clear hld k1 k2
          go_wp2_with fail
          rw [← HXD.out]
          refine HLD.out.mono ?_
          rintro e w5 ⟨⟨rfl, hB5, A5, nc5, CV5, PV5, M5, FF5, hA5, l1, l2⟩, _⟩
          have HPl := hid (show PlAt w w.heap.size w.heap.size (i + 1) w5 from ⟨HX.out.2.1.trans hB5, A5, n, nc5, CV5, PV5, M5, FF5, hA5, by omega, by omega, fun k hk => rise_le (HX.out.2.2.2.2 k hk)⟩)
          have hw5 : w.heap.size < w5.heap.size := heap_lt hA5.hold.blk
          clear hA5 hB5 HLD
          go_wp2_with fail
          have hPl := HPl.out
          refine (still_pl hPl (by omega)).mono ?_
          rintro e w6 ⟨rfl, hQ⟩
          have HQ := hid hQ
          clear hQ
          go_wp2
          exact ⟨⟨i + 1, by omega, rfl, by go_num, HQ.out⟩, by simp [intOf]; omega⟩
        · have d2 : (o.kd == 1) = false := by simpa using k2
          have hst := HI.out.2.2 X w.heap.size w.heap.size A n nc CV PV M FF o HX.out.1 HX.out.2.2.1 (by omega) (by omega) hn1 (by omega) (fun k hk => by have := HX.out.2.2.2.2 k hk; omega)
          have HLD := hid hst
          clear hst k1 k2
          go_wp2_with fail
          rw [← HXD.out]
          refine HLD.out.mono ?_
          rintro e w5 ⟨rfl, hB5, A5, n5, hA5, l1⟩
          have HPl := hid (show PlAt w w.heap.size w.heap.size (i + 1) w5 from ⟨HX.out.2.1.trans hB5, A5, n5, nc, CV, PV, M, FF, hA5, by omega, by omega, fun k hk => rise_add (HX.out.2.2.2.2 k hk) (l1 k hk)⟩)
          have hw5 : w.heap.size < w5.heap.size := heap_lt hA5.hold.blk
          clear hA5 hB5 HLD l1
          go_wp2_with fail
          have hPl := HPl.out
          refine (still_pl hPl (by omega)).mono ?_
          rintro e w6 ⟨rfl, hQ⟩
          have HQ := hid hQ
          clear hQ
          go_wp2
          exact ⟨⟨i + 1, by omega, rfl, by go_num, HQ.out⟩, by simp [intOf]; omega⟩
    · have hd : decide ((i : Int) < (sl : Int)) = false := by simp; omega
      have HQ : Hid (Below w.heap.size w wr) := hBr
      clear hA hnb hBr
      go_wp2
      go_ret
      exact ⟨rfl, HQ.out⟩

set_option maxHeartbeats 400000 in
theorem runs_any (w : World) (sp : Option Addr) (sl sc : Nat) (OP : Nat → OpD) (hin : ScriptIn w sp sl OP) (hsl : sl ≤ 1048576) (ht : TabAt w) (hw : 0 < w.heap.size) :
    Calls Tryz.prog 4 #[.slice sp sl sc] w fun e w' => e = .returned (.bool true) ∧ Below w.heap.size w w' := by
  have HI := hid (And.intro hin ht)
  clear hin ht
  go_enter Tryz.func4, Tryz.ntmps4
  go_wp2_with fail
  refine (plays_any 4 steps_four w sp sl sc OP HI.out.1 hsl HI.out.2 hw).mono ?_
  rintro e w2 ⟨rfl, hB⟩
  have HB := hid hB
  clear hB
  go_wp2
  go_ret
  exact ⟨rfl, HB.out⟩
end Go.Proofs.YtkafkipjedpohaaGreatDoor
