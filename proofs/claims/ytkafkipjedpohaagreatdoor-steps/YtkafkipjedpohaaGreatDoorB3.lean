import Derived.Test.YtkafkipjedpohaaGreatDoorB2
import Derived.Test.YtkafkipjedpohaaGreatDoorA6

/-
  The walk of upshiftref.Load.
-/
namespace Go.Proofs.YtkafkipjedpohaaGreatDoor
open Go.RowKit

set_option maxHeartbeats 1000000 in
theorem refLoad_size (p : Option Addr) (pc m : Nat) (F : Nat → PF) (w : World) (h : m < 1 ∨ 8 < m) :
    Calls Tryz.prog 75 #[.slice p m pc] w fun e w' =>
      e = .returned (.tuple #[.int .i64 (progP m F).1, .int .i64 (progP m F).2.1, .int .i64 (progP m F).2.2]) ∧ Below w.heap.size w w' := by
  rw [progP_size h]
  by_cases h0 : m = 0
  · have hb : ((m : Int) == 0) = true := by simpa using h0
    clear h h0
    go_enter Tryz.func75, Tryz.ntmps75
    go_wp2
    go_ret3
    exact ⟨rfl, Below.refl _ _⟩
  · have hb : ((m : Int) == 0) = false := by simp; omega
    have h8 : 8 < m := by omega
    clear h h0
    go_enter Tryz.func75, Tryz.ntmps75
    go_wp2
    go_ret3
    exact ⟨rfl, Below.refl _ _⟩

set_option maxRecDepth 100000 in
set_option maxHeartbeats 2000000 in
theorem refLoad_any (pb po pc m : Nat) (F : Nat → PF) (CA : Nat → Option Addr) (CC : Nat → Nat) (w : World) (hP : ProgAt w pb po m F CA CC) (h : ¬ (m < 1 ∨ 8 < m)) :
    Calls Tryz.prog 75 #[.slice (some ⟨pb, po, none⟩) m pc] w fun e w' =>
      e = .returned (.tuple #[.int .i64 (progP m F).1, .int .i64 (progP m F).2.1, .int .i64 (progP m F).2.2]) ∧ Below w.heap.size w w' := by
  have hb : ((m : Int) == 0) = false := by simp; omega
  have h8 : m ≤ 8 := by omega
  have HX : Hid (ProgAt w pb po m F CA CC ∧ ¬ (m < 1 ∨ 8 < m)) := ⟨hP, h⟩
  have hpw : pb < w.heap.size := hP.lt
  clear h hP
  generalize hR : progP m F = R
  have HR := hid hR
  clear hR
  go_enter Tryz.func75, Tryz.ntmps75
  go_wp2
  go_loopw [5] (fun v wr => ∃ k : Nat, k ≤ m ∧ v = .int .i64 k ∧ (∀ i, i < k → faultP m F i = false) ∧ Below w.heap.size w wr) (fun v _ => m - (intOf v).toNat)
  case atStart => exact ⟨0, Nat.zero_le _, rfl, fun i hi => by omega, Below.refl _ _⟩
  case round =>
    obtain ⟨k, hk, rfl, hno, hB⟩ := hrel
    by_cases hlt : k < m
    · obtain ⟨c0, c1, c2, hcode⟩ := ((HX.out.1).below hB (Nat.le_refl _)).fn k hlt
      have hsz := hB.size
      have HN : Hid ((∀ i, i < k → faultP m F i = false) ∧ Below w.heap.size w wr ∧ (1 ≤ (F k).cn → ∃ cb co, CA k = some ⟨cb, co, none⟩ ∧ cb < wr.heap.size ∧ CodeAt wr cb co (F k).cn (F k).op (F k).ar)) := ⟨hno, hB, hcode⟩
      clear hno hB hcode
      by_cases hbad : sizesP (F k) = false ∨ (k = 0 ∧ (F k).args ≠ 0)
      · have HY : Hid (R = (1, (k : Int), 0)) := by
          unfold Hid
          rw [← HR.out, progP_bad HX.out.2 hlt (by rw [funP_size hbad]; simp) HN.out.1, funP_size hbad]
        have hcases : (F k).locals < 0 ∨ (¬ (F k).locals < 0 ∧ 8 < (F k).locals) ∨ (¬ (F k).locals < 0 ∧ ¬ 8 < (F k).locals ∧ (F k).args < 0) ∨ (¬ (F k).locals < 0 ∧ ¬ 8 < (F k).locals ∧ ¬ (F k).args < 0 ∧ (F k).locals < (F k).args) ∨ (¬ (F k).locals < 0 ∧ ¬ 8 < (F k).locals ∧ ¬ (F k).args < 0 ∧ ¬ (F k).locals < (F k).args ∧ (F k).cn = 0) ∨ (¬ (F k).locals < 0 ∧ ¬ 8 < (F k).locals ∧ ¬ (F k).args < 0 ∧ ¬ (F k).locals < (F k).args ∧ ¬ (F k).cn = 0 ∧ 64 < (F k).cn) ∨ (¬ (F k).locals < 0 ∧ ¬ 8 < (F k).locals ∧ ¬ (F k).args < 0 ∧ ¬ (F k).locals < (F k).args ∧ ¬ (F k).cn = 0 ∧ ¬ 64 < (F k).cn ∧ k = 0 ∧ (F k).args ≠ 0) := by
          rcases hbad with hs | hs
          · unfold sizesP at hs
            simp only [Bool.and_eq_false_iff, decide_eq_false_iff_not] at hs
            omega
          · omega
        clear hbad
        generalize (F k).args = ag at *
        generalize (F k).locals = lc at *
        generalize (F k).cn = cn at *
        generalize CA k = ca at *
        rcases hcases with a1 | ⟨a1, a2⟩ | ⟨a1, a2, a3⟩ | ⟨a1, a2, a3, a4⟩ | ⟨a1, a2, a3, a4, a5⟩ | ⟨a1, a2, a3, a4, a5, a6⟩ | ⟨a1, a2, a3, a4, a5, a6, a7, a8⟩
        · go_wp2
          go_ret3
          rw [HY.out]
          exact ⟨rfl, HN.out.2.1.alloc (by omega) _⟩
        · have b1 : decide (lc < 0) = false := by simpa using a1
          go_wp2
          go_ret3
          rw [HY.out]
          exact ⟨rfl, HN.out.2.1.alloc (by omega) _⟩
        · have b1 : decide (lc < 0) = false := by simpa using a1
          have b2 : decide (8 < lc) = false := by simpa using a2
          go_wp2
          go_ret3
          rw [HY.out]
          exact ⟨rfl, HN.out.2.1.alloc (by omega) _⟩
        · have b1 : decide (lc < 0) = false := by simpa using a1
          have b2 : decide (8 < lc) = false := by simpa using a2
          have b3 : decide (ag < 0) = false := by simpa using a3
          go_wp2
          go_ret3
          rw [HY.out]
          exact ⟨rfl, HN.out.2.1.alloc (by omega) _⟩
        · have b1 : decide (lc < 0) = false := by simpa using a1
          have b2 : decide (8 < lc) = false := by simpa using a2
          have b3 : decide (ag < 0) = false := by simpa using a3
          have b4 : decide (lc < ag) = false := by simpa using a4
          have b5 : ((cn : Int) == 0) = true := by simpa using a5
          clear a5
          go_wp2
          go_ret3
          rw [HY.out]
          exact ⟨rfl, HN.out.2.1.alloc (by omega) _⟩
        · have b1 : decide (lc < 0) = false := by simpa using a1
          have b2 : decide (8 < lc) = false := by simpa using a2
          have b3 : decide (ag < 0) = false := by simpa using a3
          have b4 : decide (lc < ag) = false := by simpa using a4
          have b5 : ((cn : Int) == 0) = false := by simpa using a5
          clear a5
          go_wp2
          go_ret3
          rw [HY.out]
          exact ⟨rfl, HN.out.2.1.alloc (by omega) _⟩
        · have b1 : decide (lc < 0) = false := by simpa using a1
          have b2 : decide (8 < lc) = false := by simpa using a2
          have b3 : decide (ag < 0) = false := by simpa using a3
          have b4 : decide (lc < ag) = false := by simpa using a4
          have b5 : ((cn : Int) == 0) = false := by simpa using a5
          have b6 : decide ((64 : Int) < (cn : Int)) = false := by simp; omega
          have b7 : ((k : Int) == 0) = true := by simpa using a7
          have b8 : (ag != 0) = true := by simpa using a8
          clear a5 a7 a8
          go_wp2
          go_ret3
          rw [HY.out]
          exact ⟨rfl, HN.out.2.1.alloc (by omega) _⟩
      · have hs : sizesP (F k) = true := by
          cases h : sizesP (F k)
          · exact absurd (Or.inl h) hbad
          · rfl
        unfold sizesP at hs
        simp only [Bool.and_eq_true, decide_eq_true_eq] at hs
        obtain ⟨⟨⟨hl0, hl8⟩, ha0, hal⟩, hn1, hn⟩ := hs
        obtain ⟨cb, co, hca, hcb, hc⟩ := HN.out.2.2 hn1
        rw [hca] at c2
        have hg : ((k : Int) == 0) = false ∨ (((k : Int) == 0) = true ∧ ((F k).args != 0) = false) := by
          by_cases e : k = 0
          · right
            have : (F k).args = 0 := by
              by_cases e2 : (F k).args = 0
              · exact e2
              · exact absurd (Or.inr ⟨e, e2⟩) hbad
            simp [e]; rw [e] at this; exact this
          · left; simp; omega
        have HZ : Hid (¬ (sizesP (F k) = false ∨ (k = 0 ∧ (F k).args ≠ 0)) ∧ CodeAt wr cb co (F k).cn (F k).op (F k).ar) := ⟨hbad, hc⟩
        clear hbad hc hca
        have HBx : Hid (Below w.heap.size w wr) := HN.out.2.1
        have HNo : Hid (∀ i, i < k → faultP m F i = false) := HN.out.1
        clear HN
        generalize hag : (F k).args = ag at *
        generalize hlc : (F k).locals = lc at *
        generalize hcn : (F k).cn = cn at *
        have HE : Hid ((F k).args = ag ∧ (F k).locals = lc ∧ (F k).cn = cn) := ⟨hag, hlc, hcn⟩
        clear hag hlc hcn
        have b1 : decide (lc < 0) = false := by simpa using hl0
        have b2 : decide (8 < lc) = false := by simpa using hl8
        have b3 : decide (ag < 0) = false := by simpa using ha0
        have b4 : decide (lc < ag) = false := by simpa using hal
        have b5 : ((cn : Int) == 0) = false := by simp; omega
        have b6 : decide ((64 : Int) < (cn : Int)) = false := by simp; omega
        rcases hg with hg | ⟨hg, hg'⟩
        all_goals
          have hBW : Below w.heap.size w (wr.alloc (.cells #[.int .i64 ag, .int .i64 lc, .slice (some ⟨cb, co, none⟩) cn (CC k)] 31)) := HBx.out.alloc hsz _
          have hCW : CodeAt (wr.alloc (.cells #[.int .i64 ag, .int .i64 lc, .slice (some ⟨cb, co, none⟩) cn (CC k)] 31)) cb co cn (F k).op (F k).ar := HZ.out.2.below ((Below.refl wr.heap.size wr).alloc (Nat.le_refl _) _) hcb
          have d0 : (wr.alloc (.cells #[.int .i64 ag, .int .i64 lc, .slice (some ⟨cb, co, none⟩) cn (CC k)] 31)).cell? ⟨wr.heap.size, 0, none⟩ = some (.int .i64 ag) := cell_new _ _ _ _ _ rfl
          have d1 : (wr.alloc (.cells #[.int .i64 ag, .int .i64 lc, .slice (some ⟨cb, co, none⟩) cn (CC k)] 31)).cell? ⟨wr.heap.size, 1, none⟩ = some (.int .i64 lc) := cell_new _ _ _ _ _ rfl
          have d2 : (wr.alloc (.cells #[.int .i64 ag, .int .i64 lc, .slice (some ⟨cb, co, none⟩) cn (CC k)] 31)).cell? ⟨wr.heap.size, 2, none⟩ = some (.slice (some ⟨cb, co, none⟩) cn (CC k)) := cell_new _ _ _ _ _ rfl
          have hzW : wr.heap.size < (wr.alloc (.cells #[.int .i64 ag, .int .i64 lc, .slice (some ⟨cb, co, none⟩) cn (CC k)] 31)).heap.size := by simp
          have HW : Hid (Below w.heap.size w (wr.alloc (.cells #[.int .i64 ag, .int .i64 lc, .slice (some ⟨cb, co, none⟩) cn (CC k)] 31)) ∧ CodeAt (wr.alloc (.cells #[.int .i64 ag, .int .i64 lc, .slice (some ⟨cb, co, none⟩) cn (CC k)] 31)) cb co cn (F k).op (F k).ar ∧ (wr.alloc (.cells #[.int .i64 ag, .int .i64 lc, .slice (some ⟨cb, co, none⟩) cn (CC k)] 31)).cell? ⟨wr.heap.size, 0, none⟩ = some (.int .i64 ag) ∧ (wr.alloc (.cells #[.int .i64 ag, .int .i64 lc, .slice (some ⟨cb, co, none⟩) cn (CC k)] 31)).cell? ⟨wr.heap.size, 1, none⟩ = some (.int .i64 lc) ∧ (wr.alloc (.cells #[.int .i64 ag, .int .i64 lc, .slice (some ⟨cb, co, none⟩) cn (CC k)] 31)).cell? ⟨wr.heap.size, 2, none⟩ = some (.slice (some ⟨cb, co, none⟩) cn (CC k)) ∧ wr.heap.size < (wr.alloc (.cells #[.int .i64 ag, .int .i64 lc, .slice (some ⟨cb, co, none⟩) cn (CC k)] 31)).heap.size) := ⟨hBW, hCW, d0, d1, d2, hzW⟩
          clear hBW hCW d0 d1 d2 hzW
          go_wp2
          clear c0 c1 c2 b1 b2 b3 b4 b5 b6
          have HZ1 : Hid (¬ (sizesP (F k) = false ∨ (k = 0 ∧ ag ≠ 0))) := HZ.out.1
          clear HZ HBx
          generalize wr.alloc (.cells #[.int .i64 ag, .int .i64 lc, .slice (some ⟨cb, co, none⟩) cn (CC k)] 31) = W at *
          generalize wr.heap.size = bo at *
          go_loopw [8] (fun v wz => ∃ j : Nat, j ≤ cn ∧ v = .int .i64 j ∧ (∀ i, i < j → badP m (F k) i = false) ∧ Below w.heap.size w wz ∧ CodeAt wz cb co cn (F k).op (F k).ar ∧ wz.cell? ⟨bo, 0, none⟩ = some (.int .i64 ag) ∧ wz.cell? ⟨bo, 1, none⟩ = some (.int .i64 lc) ∧ wz.cell? ⟨bo, 2, none⟩ = some (.slice (some ⟨cb, co, none⟩) cn (CC k)) ∧ bo < wz.heap.size) (fun v _ => cn - (intOf v).toNat)
          case atStart => exact ⟨0, Nat.zero_le _, rfl, fun i hi => by omega, HW.out⟩
          case round =>
            clear HW
            obtain ⟨j, hj, rfl, hnb, hB, hC, e0, e1, e2, hzo⟩ := hrel
            by_cases hlj : j < cn
            · have x0 := (hC j hlj).1
              have x1 := (hC j hlj).2
              have hcz : cb < wr.heap.size := by omega
              have hbad : badP m (F k) j = !legalP ((F k).op j) ((F k).ar j) lc cn m := by unfold badP; rw [HE.out.2.1, HE.out.2.2]
              have HN : Hid ((∀ i, i < j → badP m (F k) i = false) ∧ Below w.heap.size w wr ∧ CodeAt wr cb co cn (F k).op (F k).ar ∧ badP m (F k) j = !legalP ((F k).op j) ((F k).ar j) lc cn m) := ⟨hnb, hB, hC, hbad⟩
              clear hnb hB hC hbad
              have j0 : (0 : Int) ≤ (j : Int) := by omega
              have j1 : (j : Int) < (cn : Int) := by omega
              generalize hoj : (F k).op j = oj at *
              generalize haj : (F k).ar j = aj at *
              clear hoj haj
              go_wp2
              go_region_held3 (fun w' => w'.cell? ⟨bo, 0, none⟩ = some (.int .i64 ag) ∧ w'.cell? ⟨bo, 1, none⟩ = some (.int .i64 lc) ∧ w'.cell? ⟨bo, 2, none⟩ = some (.slice (some ⟨cb, co, none⟩) cn (CC k)) ∧ w'.cell? ⟨cb, co + j * 2, none⟩ = some (.int .i64 oj) ∧ w'.cell? ⟨cb, co + j * 2 + 1, none⟩ = some (.int .i64 aj)) (go_keep)
                (first | (go_at_call 96; refine (legal_any _ _ _ _ _ _ _ _ _).mono ?_; rintro e w2 ⟨rfl, hB2⟩; have q0 := (hB2.cell (p := ⟨bo, 0, none⟩) hzo).trans e0; have q1 := (hB2.cell (p := ⟨bo, 1, none⟩) hzo).trans e1; have q2 := (hB2.cell (p := ⟨bo, 2, none⟩) hzo).trans e2; have q3 := (hB2.cell (p := ⟨cb, co + j * 2, none⟩) hcz).trans x0; have q4 := (hB2.cell (p := ⟨cb, co + j * 2 + 1, none⟩) hcz).trans x1))
              rename_i hheld
              have hB3 : Below w.heap.size w w2 := HN.out.2.1.drew.trans (hB2.mono (by show _ ≤ wr.heap.size; omega))
              have hC3 : CodeAt w2 cb co cn (F k).op (F k).ar := CodeAt.below (w := wr.drew) HN.out.2.2.1 hB2 hcz
              have hz3 : bo < w2.heap.size := by have : wr.heap.size ≤ w2.heap.size := hB2.size; omega
              have HB3 : Hid (Below w.heap.size w w2 ∧ CodeAt w2 cb co cn (F k).op (F k).ar) := ⟨hB3, hC3⟩
              clear hheld hB2 hB3 hC3 q3 q4 x0 x1 e0 e1 e2
              cases hleg : legalP oj aj lc cn m
              · have hbd := HN.out.2.2.2
                rw [hleg] at hbd
                have hfp := funP_bad (m := m) (k := k) (f := F k) (by rw [HE.out.1]; exact HZ1.out) (by rw [HE.out.2.2]; exact hlj) hbd HN.out.1
                have HY : Hid (R = (2, (k : Int), (j : Int))) := by
                  unfold Hid
                  rw [← HR.out, progP_bad HX.out.2 hlt (by rw [hfp]; simp) HNo.out, hfp]
                clear hbd hfp hleg
                go_wp2
                go_ret3
                rw [HY.out]
                exact ⟨rfl, HB3.out.1⟩
              · have hbd := HN.out.2.2.2
                rw [hleg] at hbd
                have HD : Hid (∀ i, i < j + 1 → badP m (F k) i = false) := fun i hi => by
                  by_cases e : i = j
                  · rw [e]; exact hbd
                  · exact HN.out.1 i (by omega)
                clear hbd hleg
                go_wp2
                go_roundw
                case rel => exact ⟨j + 1, by omega, by go_num, HD.out, HB3.out.1, HB3.out.2, q0, q1, q2, hz3⟩
                case measure => simp [intOf]; omega
            · obtain rfl : j = cn := by omega
              have hfp : funP m k (F k) = flowP j (F k).op (F k).ar (j + 1) s0 := by
                rw [funP_flow (by rw [HE.out.1]; exact HZ1.out) (by rw [HE.out.2.2]; exact hnb), HE.out.2.2]
              have hcon := heights_any cb co (CC k) j (F k).op (F k).ar wr hC (by omega) hn1 hn lc m (fun i hi => by
                have := bad_of_legal (hnb i hi); rw [HE.out.2.1, HE.out.2.2] at this; exact this)
              have hbadk := fun h1 => progP_bad (m := m) (F := F) HX.out.2 hlt h1 HNo.out
              rw [← hfp] at hcon
              rcases hff : funP m k (F k) with ⟨er, at'⟩
              rw [hff] at hcon hbadk
              simp only at hcon hbadk
              have HC := hid hcon
              have HM : Hid (funP m k (F k) = (er, at') ∧ (er ≠ 0 → progP m F = (er, (k : Int), at')) ∧ Below w.heap.size w wr) := ⟨hff, hbadk, hB⟩
              have hzz : w.heap.size ≤ wr.heap.size := hB.size
              clear hcon hbadk hff hfp hnb hB hC
              go_wp2_with fail
              refine HC.out.mono ?_
              rintro e w2 ⟨rfl, hB2⟩
              have HB2 : Hid (Below w.heap.size w w2) := HM.out.2.2.trans (hB2.mono hzz)
              clear hB2 HC e0 e1 e2
              by_cases her : er = 0
              · subst her
                have HY : Hid (∀ i, i < k + 1 → faultP m F i = false) := fun i hi => by
                  by_cases e : i = k
                  · subst e; unfold faultP; rw [HM.out.1]; simp
                  · exact HNo.out i (by omega)
                go_wp2
                go_roundw
                case rel => exact ⟨k + 1, by omega, by go_num, HY.out, HB2.out⟩
                case measure => simp [intOf]; omega
              · have hb : (er != 0) = true := by simpa using her
                have HY : Hid (R = (er, (k : Int), at')) := by unfold Hid; rw [← HR.out]; exact HM.out.2.1 her
                clear her
                go_wp2
                go_ret3
                rw [HY.out]
                exact ⟨rfl, HB2.out⟩
    · obtain rfl : k = m := by omega
      have HY : Hid (R = (0, 0, 0)) := by unfold Hid; rw [← HR.out]; exact progP_ok HX.out.2 hno
      have HB2 := hid hB
      clear hno hB
      go_wp2
      go_ret3
      rw [HY.out]
      exact ⟨rfl, HB2.out⟩
end Go.Proofs.YtkafkipjedpohaaGreatDoor
