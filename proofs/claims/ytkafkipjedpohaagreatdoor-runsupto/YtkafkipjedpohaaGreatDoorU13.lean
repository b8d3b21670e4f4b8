import Derived.Test.YtkafkipjedpohaaGreatDoorU11

/-
  upshiftlaw's World.step: Look.
-/
namespace Go.Proofs.YtkafkipjedpohaaGreatDoor
open Go.RowKit

theorem Row.rebase {w : World} {B B1 : Nat} {tag tag' : Nat → Nat} {c : Nat} {e : TypeId} {sz : Nat} {v : Value} {n : Nat} {f : Nat → Value} (h : Row w B1 tag c e sz v n f) (hB : B ≤ B1) (ht : ∀ b, B1 ≤ b → b < w.heap.size → tag' b = tag b) : Row w B tag' c e sz v n f := by
  rcases h with h | ⟨b, cap, cur, hv, hb, htb, hh, hr⟩
  · exact Or.inl h
  · exact Or.inr ⟨b, cap, cur, hv, by omega, (ht b hb (heap_lt hh)).trans htb, hh, hr⟩
theorem FrsOut.rebase {w : World} {B B1 k : Nat} {tag tag' : Nat → Nat} {v : Value} {LV SV : Nat → Value} {fr : Nat → Fr} (h : FrsOut w B1 tag v LV SV fr k) (hB : B ≤ B1) (ht : ∀ b, B1 ≤ b → b < w.heap.size → tag' b = tag b) : FrsOut w B tag' v LV SV fr k :=
  ⟨h.row.rebase hB ht, fun i hi => (h.loc i hi).rebase hB ht, fun i hi => (h.stk i hi).rebase hB ht⟩
theorem ArsOut.rebase {w : World} {B B1 k : Nat} {tag tag' : Nat → Nat} {v : Value} {AV : Nat → Value} {arr : List (List V)} (h : ArsOut w B1 tag v AV arr k) (hB : B ≤ B1) (ht : ∀ b, B1 ≤ b → b < w.heap.size → tag' b = tag b) : ArsOut w B tag' v AV arr k :=
  ⟨h.row.rebase hB ht, fun i hi => (h.arr i hi).rebase hB ht⟩
theorem FrsOut.below {w w' : World} {B k : Nat} {tag : Nat → Nat} {v : Value} {LV SV : Nat → Value} {fr : Nat → Fr} (h : FrsOut w B tag v LV SV fr k) (c : Below w.heap.size w w') : FrsOut w' B tag v LV SV fr k :=
  ⟨h.row.below c, fun i hi => (h.loc i hi).below c, fun i hi => (h.stk i hi).below c⟩
theorem ArsOut.below {w w' : World} {B k : Nat} {tag : Nat → Nat} {v : Value} {AV : Nat → Value} {arr : List (List V)} (h : ArsOut w B tag v AV arr k) (c : Below w.heap.size w w') : ArsOut w' B tag v AV arr k :=
  ⟨h.row.below c, fun i hi => (h.arr i hi).below c⟩

/-- Behind a state that was kept. -/
theorem WAt.afterS {w X w2 : World} {B wb : Nat} {A A2 : AdH} {n n2 : Nat → Nat} {nc : Nat} {CV PV : Nat → Value} {M : Nat → Nat} {FF : Nat → Nat → PF} {tX : Nat → Nat} (h : WAt w B wb A n nc CV PV M FF) (hX : Below w.heap.size w X) (ht : ∀ b, b < w.heap.size → tX b = A.tag b)
    (h2 : HoldAt w2 B wb A2 (fun d => d = 9) n2) (hb : ∀ b, b < X.heap.size → (b < B ∨ tX b = 3 ∨ tX b = 4 ∨ tX b = 9) → w2.heap[b]? = X.heap[b]?) (htt : ∀ b, b < X.heap.size → (tX b = 3 ∨ tX b = 4 ∨ tX b = 9) → A2.tag b = tX b) (hz : X.heap.size ≤ w2.heap.size) (hcv : A2.cv = A.cv) (hpv : A2.pv = A.pv) (h4 : ∀ k, k < 4 → n2 k % 4 = 0) :
    WAt w2 B wb A2 n2 nc CV PV M FF := by
  have hrow : ∀ {c : Nat} {e : TypeId} {sz : Nat} {v : Value} {m : Nat} {f : Nat → Value}, (c = 3 ∨ c = 4) → Row w B A.tag c e sz v m f → Row w2 B A2.tag c e sz v m f := by
    intro c e sz v m f hc hr
    rcases hr with hr | ⟨b, cap, cur, hv, hbB, htb, hh, hr⟩
    · exact Or.inl hr
    · have hlt := heap_lt hh
      have hx := Nat.lt_of_lt_of_le hlt hX.size
      have e1 : tX b = c := (ht b hlt).trans htb
      exact Or.inr ⟨b, cap, cur, hv, hbB, (htt b hx (by omega)).trans e1, (hb b hx (by omega)).trans ((hX.block b hlt).trans hh), hr⟩
  refine ⟨h2, h4, by rw [hcv]; exact hrow (by omega) h.cr, by rw [hpv]; exact hrow (by omega) h.pr, fun i hi => (h.cd i hi).keep (Nat.le_trans hX.size hz) (fun b hs => ?_) (fun b hlt h9 => ?_)⟩
  · have hx := Nat.lt_of_lt_of_le hs.1 hX.size
    refine (hb b hx ?_).trans (hX.block b hs.1)
    rcases hs.2 with h | h
    · exact Or.inl h
    · exact Or.inr (Or.inr (Or.inr ((ht b hs.1).trans h)))
  · have hx := Nat.lt_of_lt_of_le hlt hX.size
    have e1 : tX b = 9 := (ht b hlt).trans h9
    exact (htt b hx (by omega)).trans e1

set_option maxRecDepth 100000 in
set_option maxHeartbeats 2000000 in
theorem step_look (w : World) (B wb : Nat) (A : AdH) (n : Nat → Nat) (nc : Nat) (CV PV : Nat → Value) (M : Nat → Nat) (FF : Nat → Nat → PF) (h : WAt w B wb A n nc CV PV M FF) (at_ N : Int) (ep pp : Option Addr) (el ec pl pc : Nat) (hat : -9223372036854775808 ≤ at_ ∧ at_ ≤ 9223372036854775807) (hnc : 1 ≤ nc) (hnc2 : nc ≤ 10000000) (hnb : ∀ k, k < 4 → n k ≤ 3000000000000) :
    Calls Tryz.prog 38 #[.pointer (some ⟨wb, 0, none⟩), .agg #[.int .i64 4, .int .i64 at_, .int .i64 N, .slice ep el ec, .slice pp pl pc]] w (WStE w B wb n nc CV PV M FF) := by
  have hcr := h.cr
  have hpr := h.pr
  obtain ⟨crb, crc, hcv, _, hcz, hct, _⟩ := hcr.form (by omega)
  obtain ⟨prb, prc, hpv, _, hpz, hpt, _⟩ := hpr.form (by omega)
  rw [hcv] at hcr
  rw [hpv] at hpr
  have x0 : w.cell? ⟨wb, 0, none⟩ = some (.slice (some ⟨crb, 0, none⟩) nc crc) := by rw [cell_heap h.hold.blk, ← hcv]; rfl
  have x1 : w.cell? ⟨wb, 1, none⟩ = some (.slice (some ⟨prb, 0, none⟩) nc prc) := by rw [cell_heap h.hold.blk, ← hpv]; rfl
  have hwz := heap_lt h.hold.blk
  obtain ⟨W, hWd⟩ : ∃ W, W = w.alloc (.cells #[.int .i64 4, .int .i64 at_, .int .i64 N, .slice ep el ec, .slice pp pl pc] 100) := ⟨_, rfl⟩
  have hW : Below w.heap.size w W := by rw [hWd]; exact (Below.refl _ _).alloc (Nat.le_refl _) _
  have ob : W.heap[w.heap.size]? = some (.cells #[.int .i64 4, .int .i64 at_, .int .i64 N, .slice ep el ec, .slice pp pl pc] 100 (0, 0)) := by rw [hWd]; exact Go.Deep.blk_alloc_new _ _
  have o1 : W.cell? ⟨w.heap.size, 1, none⟩ = some (.int .i64 at_) := (cell_heap ob).trans rfl
  have y0 := (hW.cell (p := ⟨wb, 0, none⟩) hwz).trans x0
  have y1 := (hW.cell (p := ⟨wb, 1, none⟩) hwz).trans x1
  have hrc := fun r (hr : r < nc) => (hW.cell (p := ⟨crb, r, none⟩) hcz).trans (hcr.cell (i := r) (by omega))
  have hrp := fun r (hr : r < nc) => (hW.cell (p := ⟨prb, r, none⟩) hpz).trans (hpr.cell (i := r) (by omega))
  have HX := hid (And.intro h (And.intro hnb (And.intro hW (And.intro ob (And.intro hrc hrp)))))
  have HD := hid hWd
  clear h hnb hcr hpr hcv hpv x0 x1 hW ob hrc hrp hct hpt hWd
  have hoz : w.heap.size < W.heap.size := heap_lt HX.out.2.2.2.1
  have hwzW : wb < W.heap.size := by omega
  go_enter Tryz.func38, Tryz.ntmps38
  go_wp2_with fail
  rw [← HD.out]
  refine region_lex (fun w' => w'.cell? ⟨w.heap.size, 1, none⟩ = some (.int .i64 at_) ∧ w'.cell? ⟨wb, 0, none⟩ = some (.slice (some ⟨crb, 0, none⟩) nc crc)) [(false, 0), (false, 1), (false, 2), (false, 3), (false, 4), (false, 5), (false, 6), (true, 7), (false, 8)] (by kernel_rfl) (by kernel_rfl) (panic_frame _ _ _) ⟨o1, y0⟩ ?_
  simp only [lexL, List.getElem?_cons_zero, List.getElem?_cons_succ]
  iterate 7 (refine lexW_free (by rfl) (by intro w' hS'; obtain ⟨q0, q1⟩ := hS'; go_simp; exact rfl) ?_; simp only [Act.put, List.setIfInBounds_toArray, List.set_cons_zero, List.set_cons_succ])
  refine lexW_sole (fun K hK => ?_)
  go_simp
  refine (lawPick_any at_ (nc : Int) W.drew hat (by omega)).mono ?_
  rintro e w' ⟨r, rfl, hr, rfl⟩
  refine hK.out _ _ ⟨o1, y0⟩ ?_
  clear hK K
  refine lexW_free (by rfl) (by intro w' hS'; go_simp; exact rfl) ?_
  simp only [Act.put, List.setIfInBounds_toArray, List.set_cons_zero, List.set_cons_succ]
  refine lexW_done ?_
  have hrn : r < nc := by omega
  obtain ⟨cb, g, cap, CA, CC, pb, po, pcc, CA2, CC2, K, H, ecv, c1, hP, epv, hP2, hF, hcbz⟩ := codeOk (HX.out.1.cd r hrn)
  have z0 := HX.out.2.2.2.2.1 r hrn
  have z1 := HX.out.2.2.2.2.2 r hrn
  rw [ecv] at z0
  rw [epv] at z1
  have hWB := HX.out.2.2.1
  have hWd2 : Below W.heap.size W W.drew := (Below.refl _ _).drew
  have hszs := road_szs hF (fuelP N)
  have hfl := fuel_le N
  have hrun := codeLook W.drew cb g 0 cap (M r) (FF r) K H CA CC N (((hWB.trans (hWd2.mono hWB.size)).cell (p := ⟨cb, 0, none⟩) hcbz).trans c1) (hP.below (hWB.trans (hWd2.mono hWB.size)) (Nat.le_refl _)) hF
  have o0 : W.cell? ⟨w.heap.size, 0, none⟩ = some (.int .i64 4) := (cell_heap HX.out.2.2.2.1).trans rfl
  have o2 : W.cell? ⟨w.heap.size, 2, none⟩ = some (.int .i64 N) := (cell_heap HX.out.2.2.2.1).trans rfl
  have HR := hid hrun
  have HP := hid (And.intro hP2 (And.intro hF (And.intro hszs hfl)))
  have i0 : (0 : Int) ≤ (r : Int) := by omega
  clear hrun hP hP2 hF hszs hfl ecv epv c1 hWB hWd2
  go_wp2_with fail
  refine HR.out.mono ?_
  rintro e w2 ⟨fv, av, LV, SV, AV, tg, rfl, hB2, hFo, hAo⟩
  have hszs : Szs (atP (FF r) N) ∧ (atP (FF r) N).arr.length ≤ 100000 := ⟨HP.out.2.2.1.1, by have h1 := HP.out.2.2.1.2.1; have h2 := HP.out.2.2.2; show (nthP (FF r) (startP (FF r)) (fuelP N)).arr.length ≤ 100000; omega⟩
  generalize hsN : atP (FF r) N = sN at *
  obtain ⟨fp, fc, rfl⟩ := hFo.row.slc
  obtain ⟨ap, ac, rfl⟩ := hAo.row.slc
  have hWB := HX.out.2.2.1
  have hWd2 : Below W.heap.size W W.drew := (Below.refl _ _).drew
  have hw2 : Below w.heap.size w w2 := (hWB.trans (hWd2.mono hWB.size)).trans (hB2.mono hWB.size)
  obtain ⟨X1, hX1⟩ : ∃ X1, X1 = w2.alloc (.cells #[.slice fp sN.fr.length fc, .slice ap sN.arr.length ac] 53) := ⟨_, rfl⟩
  have hXB : Below w2.heap.size w2 X1 := by rw [hX1]; exact (Below.refl _ _).alloc (Nat.le_refl _) _
  have hbx : X1.heap[w2.heap.size]? = some (.cells #[.slice fp sN.fr.length fc, .slice ap sN.arr.length ac] 53 (0, 0)) := by rw [hX1]; exact Go.Deep.blk_alloc_new _ _
  have hwX : Below w.heap.size w X1 := hw2.trans (hXB.mono hw2.size)
  have hobz : w.heap.size < w2.heap.size := Nat.lt_of_lt_of_le hoz hB2.size
  have p2 : X1.cell? ⟨w.heap.size, 2, none⟩ = some (.int .i64 N) := (hXB.cell (p := ⟨w.heap.size, 2, none⟩) hobz).trans ((hB2.cell (p := ⟨w.heap.size, 2, none⟩) hoz).trans o2)
  have b0 : X1.cell? ⟨w2.heap.size, 0, none⟩ = some (.slice fp sN.fr.length fc) := (cell_heap hbx).trans rfl
  have b1 : X1.cell? ⟨w2.heap.size, 1, none⟩ = some (.slice ap sN.arr.length ac) := (cell_heap hbx).trans rfl
  have hXd : Below X1.heap.size X1 X1.drew := (Below.refl _ _).drew
  have hpl := playM X1.drew (M r) _ (FF r) K H N (Pg.of_prog (pc := pcc) (HP.out.1.below (hwX.trans (hXd.mono hwX.size)) (Nat.le_refl _))) HP.out.2.1
  rw [hsN] at hpl
  have hbz : w2.heap.size < X1.heap.size := heap_lt hbx
  have hobX : w.heap.size < X1.heap.size := by omega
  have hfin := hFo.frin.below hXB
  have hain := hAo.arin.below hXB
  have h1 : sN.fr.length ≤ 24 := hszs.1.fr
  have h2 : ∀ i, i < sN.fr.length → (frAt sN.fr i).loc.length ≤ 200000 ∧ (frAt sN.fr i).stk.length ≤ 200000 := fun i hi => by have := hszs.1.ls _ (frAt_mem hi); omega
  have h3 : ∀ j, j < sN.arr.length → (sN.arr.getD j []).length ≤ 200000 := fun j hj => by have := hszs.1.al _ (getD_mem2 hj); omega
  have h4 : sN.arr.length ≤ 100000 := hszs.2
  have HPL := hid hpl
  have HO := hid (And.intro hFo (And.intro hAo (And.intro hB2 (And.intro hXB (And.intro hwX (And.intro hfin (And.intro hain (And.intro h2 h3))))))))
  have HX1 := hid hX1
  clear hpl hFo hAo hB2 hXB hwX hbx hWB hWd2 hw2 hX1 hXd HR HP hsN hfin hain h2 h3 hszs
  go_wp2_with fail
  rw [← HX1.out]
  refine region_lex (fun w' => w'.cell? ⟨w2.heap.size, 0, none⟩ = some (.slice fp sN.fr.length fc) ∧ w'.cell? ⟨w2.heap.size, 1, none⟩ = some (.slice ap sN.arr.length ac) ∧ w'.cell? ⟨w.heap.size, 2, none⟩ = some (.int .i64 N)) [(false, 0), (false, 1), (false, 2), (false, 3), (true, 4), (true, 5), (false, 6)] (by kernel_rfl) (by kernel_rfl) (fun c0 a0 d0 v0 z0 h0 => panic_body (P := Tryz.prog) Tryz.f38 (WStE w B wb n nc CV PV M FF) c0 a0 d0 v0 z0 h0) ⟨b0, b1, p2⟩ ?_
  simp only [lexL, List.getElem?_cons_zero, List.getElem?_cons_succ]
  iterate 4 (refine lexW_free (by rfl) (by intro w' hS'; obtain ⟨q0, q1, q2⟩ := hS'; go_simp; exact rfl) ?_; simp only [Act.put, List.setIfInBounds_toArray, List.set_cons_zero, List.set_cons_succ])
  refine lexW_sole (fun K' hK => ?_)
  go_simp
  refine HPL.out.mono ?_
  rintro e w3 ⟨rb, rfl, hB3, A2, l2⟩
  have hB3' : Below X1.heap.size X1 w3 := (show Below X1.heap.size X1 X1.drew from (Below.refl _ _).drew).trans hB3
  have cc : ∀ a : Addr, a.block < X1.heap.size → w3.cell? a = X1.cell? a := fun a ha => hB3'.cell (p := a) ha
  refine hK.out _ _ ⟨(cc ⟨w2.heap.size, _, none⟩ hbz).trans b0, (cc ⟨w2.heap.size, _, none⟩ hbz).trans b1, (cc ⟨w.heap.size, _, none⟩ hobX).trans p2⟩ ?_
  clear hK K'
  have hoc := stateL w3 _ rb A2 (doneP sN) fp ap fc ac l2 (HO.out.2.2.2.2.2.1.below hB3') (HO.out.2.2.2.2.2.2.1.below hB3') (by show sN.fr.length ≤ 1000; omega) (by show sN.arr.length ≤ 200000; omega) HO.out.2.2.2.2.2.2.2.1 HO.out.2.2.2.2.2.2.2.2
  have HOC := hid hoc
  have e0 := (cc ⟨w2.heap.size, 0, none⟩ hbz).trans b0
  have e1 := (cc ⟨w2.heap.size, 1, none⟩ hbz).trans b1
  have e5 := (cc ⟨w.heap.size, 2, none⟩ hobX).trans p2
  have HB3 := hid hB3'
  have hz3 := hB3'.size
  clear hoc cc hB3 hB3' l2 b0 b1 p2 HPL
  refine lexW_sole (fun K' hK => ?_)
  go_simp
  refine HOC.out.mono ?_
  rintro e w4 ⟨rfl, hB4⟩
  have cc : ∀ a : Addr, a.block < w3.heap.size → w4.cell? a = w3.cell? a := fun a ha => hB4.cell (p := a) ha
  have hbz3 : w2.heap.size < w3.heap.size := by omega
  have hob3 : w.heap.size < w3.heap.size := by omega
  refine hK.out _ _ ⟨(cc ⟨w2.heap.size, _, none⟩ hbz3).trans e0, (cc ⟨w2.heap.size, _, none⟩ hbz3).trans e1, (cc ⟨w.heap.size, _, none⟩ hob3).trans e5⟩ ?_
  clear hK K'
  have f0 := (cc ⟨w2.heap.size, 0, none⟩ hbz3).trans e0
  have f1 := (cc ⟨w2.heap.size, 1, none⟩ hbz3).trans e1
  have HB4 := hid (HB3.out.trans (hB4.mono HB3.out.size))
  clear hB4 cc e0 e1 e5 HOC HB3
  refine lexW_free (by rfl) (by intro w' hS'; go_simp; exact rfl) ?_
  simp only [Act.put, List.setIfInBounds_toArray, List.set_cons_zero, List.set_cons_succ]
  refine lexW_done ?_
  go_wp2_with fail
  refine region_lex (fun w' => w'.cell? ⟨w2.heap.size, 0, none⟩ = some (.slice fp sN.fr.length fc) ∧ w'.cell? ⟨w2.heap.size, 1, none⟩ = some (.slice ap sN.arr.length ac)) [(false, 0), (false, 1), (false, 2), (false, 3), (true, 4)] (by kernel_rfl) (by kernel_rfl) (fun c0 a0 d0 v0 z0 h0 => panic_body (P := Tryz.prog) Tryz.f38 (WStE w B wb n nc CV PV M FF) c0 a0 d0 v0 z0 h0) ⟨f0, f1⟩ ?_
  simp only [lexL, List.getElem?_cons_zero, List.getElem?_cons_succ]
  iterate 4 (refine lexW_free (by rfl) (by intro w' hS'; obtain ⟨q0, q1⟩ := hS'; go_simp; exact rfl) ?_; simp only [Act.put, List.setIfInBounds_toArray, List.set_cons_zero, List.set_cons_succ])
  refine lexW_sole (fun K' hK => ?_)
  go_simp
  obtain ⟨hFo, hAo, hB2, hXB, hwX, _, _, h2, h3⟩ := HO.out
  have hw4 : Below w2.heap.size w2 w4.drew := (hXB.trans (HB4.out.mono hXB.size)).drew
  have hww4 : Below w.heap.size w w4.drew := (hwX.trans (HB4.out.mono hwX.size)).drew
  have hBw : B ≤ w.heap.size := HX.out.1.hold.le
  have hWs : w.heap.size ≤ W.drew.heap.size := by show w.heap.size ≤ W.heap.size; omega
  have hW2s := hB2.size
  obtain ⟨tX, htX⟩ : ∃ tX : Nat → Nat, tX = fun b => if b < W.drew.heap.size then A.tag b else if b < w2.heap.size then tg b else 9 := ⟨_, rfl⟩
  have htN : ∀ b, W.drew.heap.size ≤ b → b < w2.heap.size → tX b = tg b := fun b h1 h2 => by rw [htX]; show (if b < W.drew.heap.size then A.tag b else if b < w2.heap.size then tg b else 9) = tg b; rw [if_neg (by omega), if_pos h2]
  have hF4 : FrsOut w4.drew B tX (.slice fp sN.fr.length fc) LV SV (frAt sN.fr) sN.fr.length := (hFo.rebase (by omega) htN).below hw4
  have hA4 : ArsOut w4.drew B tX (.slice ap sN.arr.length ac) AV sN.arr sN.arr.length := (hAo.rebase (by omega) htN).below hw4
  have htA : ∀ b, b < w.heap.size → tX b = A.tag b := fun b hb => by rw [htX]; show (if b < W.drew.heap.size then A.tag b else _) = _; rw [if_pos (by omega)]
  have hhold : HoldAt w4.drew B wb { A with tag := tX } (fun d => d = 9) n := HX.out.1.hold.keep (Ch.of_tags (p := fun _ => False) hww4 htA) (fun _ _ h => h)
  have hq : ∀ k, k < 4 → ∃ q, n k = 4 * q := fun k hk => ⟨n k / 4, by have := HX.out.1.four k hk; omega⟩
  obtain ⟨q, hq0⟩ := hq 0 (by omega)
  obtain ⟨q1, hq1⟩ := hq 1 (by omega)
  obtain ⟨q2, hq2⟩ := hq 2 (by omega)
  have hn0 := HX.out.2.1 0 (by omega)
  have hn1 := HX.out.2.1 1 (by omega)
  have hn2 := HX.out.2.1 2 (by omega)
  have htb : tX w2.heap.size = 9 := by rw [htX]; show (if w2.heap.size < W.drew.heap.size then A.tag w2.heap.size else if w2.heap.size < w2.heap.size then tg w2.heap.size else 9) = 9; rw [if_neg (by omega), if_neg (by omega)]
  have hbz4 : w2.heap.size < w4.drew.heap.size := by have := HB4.out.size; show w2.heap.size < w4.heap.size; omega
  refine (keepState_any w4.drew B wb { A with tag := tX } fp ap fc ac LV SV AV (frAt sN.fr) sN.fr.length sN.arr.length sN.arr n q q1 q2 hhold hF4 hA4 hq0 hq1 hq2 (by omega) (by omega) (by omega) h1 h4 h2 h3).mono ?_
  rintro e w5 ⟨rfl, A5, n5, h5, n50, n51, n52, n53, cv5, pv5, hb5, ht5, hB5⟩
  have s5 : ∀ i, w5.cell? ⟨w2.heap.size, i, none⟩ = w4.drew.cell? ⟨w2.heap.size, i, none⟩ := fun i => World.cell?_of_block (a := ⟨w2.heap.size, i, none⟩) (hb5 w2.heap.size hbz4 (Or.inr (Or.inr (Or.inr htb))))
  refine hK.out _ _ ⟨(s5 0).trans f0, (s5 1).trans f1⟩ ?_
  clear hK K'
  have HQ := hid (show WStE w B wb n nc CV PV M FF (.returned (.bool true)) w5 from by
    refine ⟨rfl, (hww4.mono hBw).trans hB5, A5, n5, ?_, fun k hk => ?_⟩
    · refine HX.out.1.afterS hww4 htA h5 (fun b hb hp => hb5 b hb hp) (fun b hb hp => ht5 b hb hp) hB5.size cv5 pv5 (fun k hk => ?_)
      have : k = 0 ∨ k = 1 ∨ k = 2 ∨ k = 3 := by omega
      rcases this with rfl | rfl | rfl | rfl
      · rw [n50]; omega
      · rw [n51]; omega
      · rw [n52]; omega
      · rw [n53]; exact HX.out.1.four 3 (by omega)
    · have : k = 0 ∨ k = 1 ∨ k = 2 ∨ k = 3 := by omega
      rcases this with rfl | rfl | rfl | rfl
      · rw [n50]; omega
      · rw [n51]; omega
      · rw [n52]; omega
      · rw [n53]; omega)
  clear hFo hAo hB2 hXB hwX hw4 hww4 hF4 hA4 htA hhold htb h5 cv5 pv5 s5 f0 f1 htX htN h2 h3 hb5 ht5 hB5 hq
  refine lexW_done ?_
  go_wp2
  go_ret
  exact HQ.out
end Go.Proofs.YtkafkipjedpohaaGreatDoor

/-
  upshiftlaw's World.step: Headers.
-/
namespace Go.Proofs.YtkafkipjedpohaaGreatDoor
open Go.RowKit

theorem headsN_len {m : Nat} {F : Nat → PF} {K : Nat → Nat → Bool} {H : Nat → Nat → Int} (h : Fine m F K H) (N : Int) : (headsN m F N).length ≤ 64 := by
  unfold headsN
  by_cases e : 0 ≤ N ∧ N < m
  · rw [if_pos e]
    have h1 := headsTo_len (F N.toNat) (F N.toNat).cn
    have h2 := (h.fn N.toNat (by omega)).cn.2
    omega
  · rw [if_neg e]
    simp

set_option maxRecDepth 100000 in
set_option maxHeartbeats 2000000 in
theorem step_headers (w : World) (B wb : Nat) (A : AdH) (n : Nat → Nat) (nc : Nat) (CV PV : Nat → Value) (M : Nat → Nat) (FF : Nat → Nat → PF) (h : WAt w B wb A n nc CV PV M FF) (at_ N : Int) (ep pp : Option Addr) (el ec pl pc : Nat) (hat : -9223372036854775808 ≤ at_ ∧ at_ ≤ 9223372036854775807) (hnc : 1 ≤ nc) (hnc2 : nc ≤ 10000000) (hnb : ∀ k, k < 4 → n k ≤ 3000000000000) :
    Calls Tryz.prog 38 #[.pointer (some ⟨wb, 0, none⟩), .agg #[.int .i64 2, .int .i64 at_, .int .i64 N, .slice ep el ec, .slice pp pl pc]] w (WStE w B wb n nc CV PV M FF) := by
  have hcr := h.cr
  have hpr := h.pr
  obtain ⟨crb, crc, hcv, _, hcz, hct, _⟩ := hcr.form (by omega)
  obtain ⟨prb, prc, hpv, _, hpz, hpt, _⟩ := hpr.form (by omega)
  rw [hcv] at hcr
  rw [hpv] at hpr
  have x0 : w.cell? ⟨wb, 0, none⟩ = some (.slice (some ⟨crb, 0, none⟩) nc crc) := by rw [cell_heap h.hold.blk, ← hcv]; rfl
  have x1 : w.cell? ⟨wb, 1, none⟩ = some (.slice (some ⟨prb, 0, none⟩) nc prc) := by rw [cell_heap h.hold.blk, ← hpv]; rfl
  have hwz := heap_lt h.hold.blk
  obtain ⟨W, hWd⟩ : ∃ W, W = w.alloc (.cells #[.int .i64 2, .int .i64 at_, .int .i64 N, .slice ep el ec, .slice pp pl pc] 100) := ⟨_, rfl⟩
  have hW : Below w.heap.size w W := by rw [hWd]; exact (Below.refl _ _).alloc (Nat.le_refl _) _
  have ob : W.heap[w.heap.size]? = some (.cells #[.int .i64 2, .int .i64 at_, .int .i64 N, .slice ep el ec, .slice pp pl pc] 100 (0, 0)) := by rw [hWd]; exact Go.Deep.blk_alloc_new _ _
  have o1 : W.cell? ⟨w.heap.size, 1, none⟩ = some (.int .i64 at_) := (cell_heap ob).trans rfl
  have y0 := (hW.cell (p := ⟨wb, 0, none⟩) hwz).trans x0
  have y1 := (hW.cell (p := ⟨wb, 1, none⟩) hwz).trans x1
  have hrc := fun r (hr : r < nc) => (hW.cell (p := ⟨crb, r, none⟩) hcz).trans (hcr.cell (i := r) (by omega))
  have hrp := fun r (hr : r < nc) => (hW.cell (p := ⟨prb, r, none⟩) hpz).trans (hpr.cell (i := r) (by omega))
  have HX := hid (And.intro h (And.intro hnb (And.intro hW (And.intro ob (And.intro hrc hrp)))))
  have HD := hid hWd
  clear h hnb hcr hpr hcv hpv x0 x1 hW ob hrc hrp hct hpt hWd
  have hoz : w.heap.size < W.heap.size := heap_lt HX.out.2.2.2.1
  have hwzW : wb < W.heap.size := by omega
  go_enter Tryz.func38, Tryz.ntmps38
  go_wp2_with fail
  rw [← HD.out]
  refine region_lex (fun w' => w'.cell? ⟨w.heap.size, 1, none⟩ = some (.int .i64 at_) ∧ w'.cell? ⟨wb, 0, none⟩ = some (.slice (some ⟨crb, 0, none⟩) nc crc)) [(false, 0), (false, 1), (false, 2), (false, 3), (false, 4), (false, 5), (false, 6), (true, 7), (false, 8)] (by kernel_rfl) (by kernel_rfl) (panic_frame _ _ _) ⟨o1, y0⟩ ?_
  simp only [lexL, List.getElem?_cons_zero, List.getElem?_cons_succ]
  iterate 7 (refine lexW_free (by rfl) (by intro w' hS'; obtain ⟨q0, q1⟩ := hS'; go_simp; exact rfl) ?_; simp only [Act.put, List.setIfInBounds_toArray, List.set_cons_zero, List.set_cons_succ])
  refine lexW_sole (fun K hK => ?_)
  go_simp
  refine (lawPick_any at_ (nc : Int) W.drew hat (by omega)).mono ?_
  rintro e w' ⟨r, rfl, hr, rfl⟩
  refine hK.out _ _ ⟨o1, y0⟩ ?_
  clear hK K
  refine lexW_free (by rfl) (by intro w' hS'; go_simp; exact rfl) ?_
  simp only [Act.put, List.setIfInBounds_toArray, List.set_cons_zero, List.set_cons_succ]
  refine lexW_done ?_
  have hrn : r < nc := by omega
  obtain ⟨cb, g, cap, CA, CC, pb, po, pcc, CA2, CC2, K, H, ecv, c1, hP, epv, hP2, hF, hcbz⟩ := codeOk (HX.out.1.cd r hrn)
  have z0 := HX.out.2.2.2.2.1 r hrn
  have z1 := HX.out.2.2.2.2.2 r hrn
  rw [ecv] at z0
  rw [epv] at z1
  have hWB := HX.out.2.2.1
  have hWd2 : Below W.heap.size W W.drew := (Below.refl _ _).drew
  have hlen := headsN_len hF N
  have hll := codeHeaders W.drew cb g 0 cap (M r) (FF r) K H CA CC N (((hWB.trans (hWd2.mono hWB.size)).cell (p := ⟨cb, 0, none⟩) hcbz).trans c1) (hP.below (hWB.trans (hWd2.mono hWB.size)) (Nat.le_refl _)) hF
  have o0 : W.cell? ⟨w.heap.size, 0, none⟩ = some (.int .i64 2) := (cell_heap HX.out.2.2.2.1).trans rfl
  have o2 : W.cell? ⟨w.heap.size, 2, none⟩ = some (.int .i64 N) := (cell_heap HX.out.2.2.2.1).trans rfl
  have HR := hid hll
  have HP := hid (And.intro hP2 hF)
  have i0 : (0 : Int) ≤ (r : Int) := by omega
  clear hll hP hP2 hF ecv epv c1 hWB hWd2
  go_wp2_with fail
  refine HR.out.mono ?_
  rintro e w2 ⟨v, rfl, hI, hB2⟩
  obtain ⟨vp, vcap, rfl⟩ := Row.slc hI
  have hWB := HX.out.2.2.1
  have hWd2 : Below W.heap.size W W.drew := (Below.refl _ _).drew
  have hw2 : Below w.heap.size w w2 := (hWB.trans (hWd2.mono hWB.size)).trans (hB2.mono hWB.size)
  have hm := refHeaders w2 pb po pcc (M r) (FF r) K H CA2 CC2 N (HP.out.1.below hw2 (Nat.le_refl _)) HP.out.2
  have p2 : w2.cell? ⟨w.heap.size, 2, none⟩ = some (.int .i64 N) := (hB2.cell (p := ⟨w.heap.size, 2, none⟩) hoz).trans o2
  have HM := hid hm
  have HI := hid (And.intro hI (And.intro hB2 hw2))
  have hw2z : wb < w2.heap.size := Nat.lt_of_lt_of_le hwz hw2.size
  clear hm hI hB2 hw2 hWB hWd2 HR HP
  go_wp2_with fail
  refine HM.out.mono ?_
  rintro e w3 ⟨v, rfl, hJ, hB3⟩
  obtain ⟨up, ucap, rfl⟩ := Row.slc hJ
  obtain ⟨L, hL⟩ : ∃ L, headsN (M r) (FF r) N = L := ⟨_, rfl⟩
  rw [hL] at hJ HI hlen
  have hI3 : Row w3 W.drew.heap.size (fun _ => 0) 0 3 1 (.slice vp L.length vcap) L.length (headCell L) := HI.out.1.below hB3
  have hww3 : Below w.heap.size w w3 := HI.out.2.2.trans (hB3.mono HI.out.2.2.size)
  have HJ := hid (And.intro hJ (And.intro hI3 hww3))
  have hw3z : wb < w3.heap.size := Nat.lt_of_lt_of_le hwz hww3.size
  rw [hL]
  have HL := hid hL
  clear hJ hI3 hww3 hB3 HI HM hL p2
  generalize hln : L.length = ln at *
  have HLN := hid hln
  clear hln
  go_wp2
  go_loopw [10, 11] (fun v1 v2 wr => ∃ j : Nat, j ≤ ln ∧ v1 = .bool true ∧ v2 = .int .i64 j ∧ ∃ k, wr = w3.drewN k) (fun _ v _ => ln - (intOf v).toNat)
  case atStart => exact ⟨0, Nat.zero_le _, rfl, rfl, 0, rfl⟩
  case round =>
    obtain ⟨j, hj, rfl, rfl, k, rfl⟩ := hrel
    by_cases hlt : j < ln
    · have hd : decide ((j : Int) < (ln : Int)) = true := by simp; omega
      obtain ⟨b1, cap1, e1, _, hb1, _, _⟩ := HJ.out.2.1.form (by omega)
      injection e1 with e1 _ e3
      subst e1
      subst e3
      have hJ := HJ.out.1
      unfold IntsL at hJ
      rw [HLN.out] at hJ
      obtain ⟨b2, cap2, e2, _, hb2, _, _⟩ := hJ.form (by omega)
      injection e2 with e2 _ e4
      subst e2
      subst e4
      have y1 := HJ.out.2.1.cell (i := j) (by omega)
      have y2 := hJ.cell (i := j) (by omega)
      unfold headCell at y1 y2
      generalize ((L.getD j 0 : Nat) : Int) = u at y1 y2
      have i0 : (0 : Int) ≤ (j : Int) := by omega
      have i1 : (j : Int) < (ln : Int) := by omega
      clear hJ
      go_wp2_with fail
      go_quiet (fail)
      go_wp2
      exact ⟨⟨j + 1, by omega, by go_num, by go_num, _, rfl⟩, by simp [intOf]; omega⟩
    · have hd : decide ((j : Int) < (ln : Int)) = false := by simp; omega
      go_wp2_with fail
      obtain ⟨V, hV⟩ : ∃ V, V = w3.drewN k := ⟨_, rfl⟩
      rw [← hV]
      have hVB : Below w3.heap.size w3 V := by rw [hV]; exact below_drewN (Below.refl _ _) _
      obtain ⟨hJ, hI3, hww3⟩ := HJ.out
      have hwwV : Below w.heap.size w V := hww3.trans (hVB.mono hww3.size)
      have hBw : B ≤ w.heap.size := HX.out.1.hold.le
      have hWs : w.heap.size ≤ W.drew.heap.size := by show w.heap.size ≤ W.heap.size; omega
      obtain ⟨tX, htX⟩ : ∃ tX : Nat → Nat, tX = fun b => if b < W.drew.heap.size then A.tag b else 10 := ⟨_, rfl⟩
      have row2 : Row V B tX 10 3 1 (.slice vp ln vcap) ln (headCell L) := by
        refine Row.below ?_ hVB
        rcases hI3 with h | ⟨g, cap, cur, hv, hg, _, hh, hr⟩
        · exact Or.inl h
        · exact Or.inr ⟨g, cap, cur, hv, by omega, by rw [htX]; show (if g < W.drew.heap.size then A.tag g else 10) = 10; rw [if_neg (by omega)], hh, hr⟩
      have htA : ∀ b, b < w.heap.size → tX b = A.tag b := fun b hb => by rw [htX]; show (if b < W.drew.heap.size then A.tag b else _) = _; rw [if_pos (by omega)]
      have hhold : HoldAt V B wb { A with tag := tX } (fun d => d = 9) n := HX.out.1.hold.keep (Ch.of_tags (p := fun _ => False) hwwV htA) (fun _ _ h => h)
      obtain ⟨q, hq⟩ : ∃ q, n 3 = 4 * q := ⟨n 3 / 4, by have := HX.out.1.four 3 (by omega); omega⟩
      have hn0 := HX.out.2.1 3 (by omega)
      refine (keepInts_any V B wb { A with tag := tX } (fun d => d = 9) n q 10 vp vcap _ _ hhold hq (by omega) row2 (by omega) (by omega) (by unfold Wt; omega)).mono ?_
      rintro e w5 ⟨rfl, A5, h5, cv5, pv5, xb5, ch5⟩
      have HQ := hid (show WStE w B wb n nc CV PV M FF (.returned (.bool true)) w5 from by
        obtain ⟨A3, hA3⟩ := HX.out.1.after hwwV htA h5 ch5 (by omega) (by omega) (by omega) cv5 pv5 (fun k hk => by
          by_cases e : k = 3
          · subst e; rw [upd_same]; omega
          · rw [upd_other _ _ _ _ e]; exact HX.out.1.four k hk)
        refine ⟨rfl, (hwwV.mono hBw).trans (ch5.below (Nat.le_trans hBw hwwV.size)), A3, _, hA3, fun k hk => ?_⟩
        by_cases e : k = 3
        · subst e; rw [upd_same]; omega
        · rw [upd_other _ _ _ _ e]; omega)
      clear hJ hI3 hww3 hwwV row2 htA hhold h5 cv5 pv5 xb5 ch5 htX
      go_wp2
      go_ret
      exact HQ.out
end Go.Proofs.YtkafkipjedpohaaGreatDoor
