import Derived.Test.YtkafkipjedpohaaGreatDoorS13
import Derived.Test.YtkafkipjedpohaaGreatDoorM25
import Derived.Deep.CutRange

/-
  upshiftref.Play without events: the walk.
-/
namespace Go.Proofs.YtkafkipjedpohaaGreatDoor
open Go.RowKit

theorem step_cH (F : Nat → PF) (s : Mc) : (stepP F s).cH ≤ s.cH + 1 := by
  have hb : ∀ b : Bool, (if b = true then 1 else 0 : Nat) ≤ 1 := by intro b; cases b <;> simp
  have h1 := hb (s.high.headD false)
  unfold stepP
  split
  · omega
  · dsimp only
    split
    · show s.cH + _ ≤ _; omega
    split
    · split
      · show s.cH + _ ≤ _; omega
      · show s.cH + _ ≤ _; omega
    split
    · unfold callP
      repeat' split
      all_goals (show s.cH + _ ≤ _; omega)
    split
    · unfold returnP
      repeat' split
      all_goals (show s.cH + _ ≤ _; omega)
    · show s.cH + _ ≤ _; omega
theorem nth_cH (F : Nat → PF) (s : Mc) (h : s.cH = 0) : ∀ n, (nthP F s n).cH ≤ n
  | 0 => by show s.cH ≤ 0; omega
  | n + 1 => by
    have ih := nth_cH F s h n
    unfold nthP
    split
    · have := step_cH F (nthP F s n); omega
    · omega

theorem getD_mem2 {l : List (List V)} {i : Nat} (h : i < l.length) : l.getD i [] ∈ l := by
  rw [List.getD_eq_getElem?_getD, List.getElem?_eq_getElem h]
  exact List.getElem_mem h

/-- A run as it ended. -/
def doneP (s : Mc) : Mc := { s with fin := endP s }

/-- Where Play stands at the head of its loop. -/
def PlayAt (w : World) (rb : Nat) (pv : Value) (S : Nat → Mc) (fu gk : Nat) (wr : World) : Prop :=
  ∃ j, j + gk = fu ∧ ∃ A : Ad, LayA wr w.heap.size rb A (S j) ∧ A.pv = pv ∧ Below w.heap.size w wr

theorem play_start (w : World) (pv : Value) (F : Nat → PF) (L : Nat) (hL : (F 0).locals = L) (hL8 : L ≤ 8) :
    ∃ A : Ad, LayA ((((w.alloc (.cells #[.bool false] 4)).alloc (.cells #[pv, .slice (some ⟨w.heap.size + 1 + 1 + 1, 0, none⟩) 1 1, .slice none 0 0, .slice none 0 0, .int .i64 0, .int .i64 0, .int .i64 0, .int .i64 0, .slice (some ⟨w.heap.size, 0, none⟩) 1 1, .bool false, .bool false, .bool false, .bool false, .bool false, .bool false, .bool false, .bool false, .int .i64 0, .int .i64 0, .int .i64 0] 155)).alloc (.cells (vArr L) 43)).alloc (.cells #[.int .i64 0, .int .i64 0, .slice (some ⟨w.heap.size + 1 + 1, 0, none⟩) L L, .slice none 0 0] 73)) w.heap.size (w.heap.size + 1) A (startP F) ∧ A.pv = pv := by
  obtain ⟨W1, h1⟩ : ∃ W, W = w.alloc (.cells #[.bool false] 4) := ⟨_, rfl⟩
  obtain ⟨W2, h2⟩ : ∃ W, W = W1.alloc (.cells #[pv, .slice (some ⟨w.heap.size + 3, 0, none⟩) 1 1, .slice none 0 0, .slice none 0 0, .int .i64 0, .int .i64 0, .int .i64 0, .int .i64 0, .slice (some ⟨w.heap.size, 0, none⟩) 1 1, .bool false, .bool false, .bool false, .bool false, .bool false, .bool false, .bool false, .bool false, .int .i64 0, .int .i64 0, .int .i64 0] 155) := ⟨_, rfl⟩
  obtain ⟨W3, h3⟩ : ∃ W, W = W2.alloc (.cells (vArr L) 43) := ⟨_, rfl⟩
  obtain ⟨W4, h4⟩ : ∃ W, W = W3.alloc (.cells #[.int .i64 0, .int .i64 0, .slice (some ⟨w.heap.size + 2, 0, none⟩) L L, .slice none 0 0] 73) := ⟨_, rfl⟩
  rw [← h1, ← h2, ← h3, ← h4]
  have z1 : W1.heap.size = w.heap.size + 1 := by rw [h1]; simp
  have z2 : W2.heap.size = w.heap.size + 2 := by rw [h2]; simp; omega
  have z3 : W3.heap.size = w.heap.size + 3 := by rw [h3]; simp; omega
  have b0 : W4.heap[w.heap.size]? = some (.cells #[.bool false] 4 (0, 0)) := by
    rw [h4, Below.heap_alloc _ _ _ (by omega), h3, Below.heap_alloc _ _ _ (by omega), h2, Below.heap_alloc _ _ _ (by omega), h1]
    exact Go.Deep.blk_alloc_new _ _
  have b1 : W4.heap[w.heap.size + 1]? = some (.cells #[pv, .slice (some ⟨w.heap.size + 3, 0, none⟩) 1 1, .slice none 0 0, .slice none 0 0, .int .i64 0, .int .i64 0, .int .i64 0, .int .i64 0, .slice (some ⟨w.heap.size, 0, none⟩) 1 1, .bool false, .bool false, .bool false, .bool false, .bool false, .bool false, .bool false, .bool false, .int .i64 0, .int .i64 0, .int .i64 0] 155 (0, 0)) := by
    rw [h4, Below.heap_alloc _ _ _ (by omega), h3, Below.heap_alloc _ _ _ (by omega), h2, ← z1]
    exact Go.Deep.blk_alloc_new _ _
  have b2 : W4.heap[w.heap.size + 2]? = some (.cells (vArr L) 43 (0, 0)) := by
    rw [h4, Below.heap_alloc _ _ _ (by omega), h3, ← z2]
    exact Go.Deep.blk_alloc_new _ _
  have b3 : W4.heap[w.heap.size + 3]? = some (.cells #[.int .i64 0, .int .i64 0, .slice (some ⟨w.heap.size + 2, 0, none⟩) L L, .slice none 0 0] 73 (0, 0)) := by
    rw [h4, ← z3]
    exact Go.Deep.blk_alloc_new _ _
  refine ⟨{ tag := fun b => if b = w.heap.size then 4 else if b = w.heap.size + 1 then 0 else if b = w.heap.size + 2 then 10 else 1, pv := pv, fv := .slice (some ⟨w.heap.size + 3, 0, none⟩) 1 1, av := .slice none 0 0, ov := .slice none 0 0, hv := .slice (some ⟨w.heap.size, 0, none⟩) 1 1, LV := fun _ => .slice (some ⟨w.heap.size + 2, 0, none⟩) L L, SV := fun _ => .slice none 0 0, AV := fun _ => .slice none 0 0 }, ⟨b1, ⟨by omega, by simp⟩, ?_, Row.nil _ _ _ _ _ _ _, Row.nil _ _ _ _ _ _ _, ?_, fun i hi => ?_, fun i hi => ?_, fun j hj => by simp [startP] at hj⟩, rfl⟩
  · refine Or.inr ⟨w.heap.size + 3, 1, _, rfl, by omega, by simp, b3, Nat.le_refl _, by unfold maxLen; omega, rfl, fun i hi => ?_⟩
    have : i = 0 ∨ i = 1 ∨ i = 2 ∨ i = 3 := by have : i < 1 * 4 := hi; omega
    rcases this with rfl | rfl | rfl | rfl <;> rfl
  · refine Or.inr ⟨w.heap.size, 1, _, rfl, Nat.le_refl _, by simp, b0, Nat.le_refl _, by unfold maxLen; omega, rfl, fun i hi => ?_⟩
    obtain rfl : i = 0 := by have : i < 1 * 1 := hi; omega
    rfl
  · obtain rfl : i = 0 := by have : i < 1 := hi; omega
    have e : (frAt (startP F).fr 0).loc = List.replicate L vnil := by show List.replicate (F 0).locals.toNat vnil = _; rw [hL]; simp
    rw [e]
    simp only [List.length_replicate]
    refine Or.inr ⟨w.heap.size + 2, L, _, rfl, by omega, by simp, b2, Nat.le_refl _, by unfold maxLen; omega, by simp [vArr, size_madeCells], fun i hi => ?_⟩
    have hz : (vArr L)[i]? = some (.int .i64 0) := by
      have : i % 2 = 0 ∨ i % 2 = 1 := by omega
      rcases this with e | e <;> simp [vArr, madeCells, hi, e]
    rw [hz]
    have hg : (List.replicate L vnil).getD (i / 2) vnil = vnil := by
      rw [List.getD_eq_getElem?_getD, List.getElem?_replicate]
      split <;> rfl
    unfold vcell
    rw [hg]
    split <;> rfl
  · obtain rfl : i = 0 := by have : i < 1 := hi; omega
    exact Row.nil _ _ _ _ _ _ _

set_option maxRecDepth 100000 in
set_option maxHeartbeats 2000000 in
theorem playM (w : World) (m : Nat) (pv : Value) (F : Nat → PF) (K : Nat → Nat → Bool) (H : Nat → Nat → Int) (fuel : Int) (hPg : Pg w w.heap.size pv m F) (hF : Fine m F K H) :
    Calls Tryz.prog 57 #[pv, .slice none 0 0, .int .i64 fuel] w fun e w' => ∃ rb, e = .returned (.pointer (some ⟨rb, 0, none⟩)) ∧ Below w.heap.size w w' ∧ ∃ A : Ad, LayA w' w.heap.size rb A (doneP (atP F fuel)) := by
  have hl := (hF.fn 0 hF.size.1).locals
  obtain ⟨L, hL⟩ : ∃ L : Nat, (F 0).locals = L := ⟨(F 0).locals.toNat, by omega⟩
  have hL8 : L ≤ 8 := by omega
  have hmk := fun wx => make_vals (L : Int) (by omega) (by omega) wx
  simp only [Int.toNat_natCast] at hmk
  obtain ⟨A0, l0, p0⟩ := play_start w pv F L hL hL8
  obtain ⟨pb, po, pc, CA, CC, hpv, hPA, hpb, _⟩ := hPg.at_
  have a1 := (hPA.fn 0 hF.size.1).locals
  rw [hL] at a1
  simp only [Nat.zero_mul, Nat.add_zero] at a1
  subst hpv
  have hm1 : (0 : Int) < (m : Int) := by have := hF.size.1; omega
  have hfl := fuel_le fuel
  have HX := hid (And.intro l0 (And.intro p0 (And.intro hPg hF)))
  clear l0 p0 hPg hF hPA hl
  go_enter Tryz.func57, Tryz.ntmps57
  go_upto_if 10 with fail
  go_cut [2] from 9 to 10 (fun v wc => (∃ fu2 : Int, v = .int .i64 fu2 ∧ ∀ j : Nat, j ≤ fuelP fuel → (fu2 ≤ (j : Int) ↔ fuelP fuel ≤ j)) ∧ wc = w)
  case first =>
    by_cases hf : fuel ≤ 100000
    · have hd : decide (100000 < fuel) = false := by simp; omega
      go_wp2_with fail
      go_meet
      exact ⟨⟨fuel, rfl, fun j hj => by unfold fuelP at *; omega⟩, rfl⟩
    · have hd : decide (100000 < fuel) = true := by simp; omega
      go_wp2_with fail
      go_meet
      exact ⟨⟨100000, rfl, fun j hj => by unfold fuelP at *; omega⟩, rfl⟩
  case rest =>
    obtain ⟨⟨fu2, rfl, hfu⟩, rfl⟩ := hcut
    have HFU := hid hfu
    clear hfu
    obtain ⟨l0, p0, hPg, hF⟩ := HX.out
    have hB0 : Below wc.heap.size wc ((((wc.alloc (.cells #[.bool false] 4)).alloc (.cells #[.slice (some ⟨pb, po, none⟩) m pc, .slice (some ⟨wc.heap.size + 1 + 1 + 1, 0, none⟩) 1 1, .slice none 0 0, .slice none 0 0, .int .i64 0, .int .i64 0, .int .i64 0, .int .i64 0, .slice (some ⟨wc.heap.size, 0, none⟩) 1 1, .bool false, .bool false, .bool false, .bool false, .bool false, .bool false, .bool false, .bool false, .int .i64 0, .int .i64 0, .int .i64 0] 155)).alloc (.cells (vArr L) 43)).alloc (.cells #[.int .i64 0, .int .i64 0, .slice (some ⟨wc.heap.size + 1 + 1, 0, none⟩) L L, .slice none 0 0] 73)) :=
      ((((Below.refl _ _).alloc (Nat.le_refl _) _).alloc (by simp) _).alloc (by simp; omega) _).alloc (by simp; omega) _
    have HS := hid (show PlayAt wc (wc.heap.size + 1) (.slice (some ⟨pb, po, none⟩) m pc) (nthP F (startP F)) (fuelP fuel) (fuelP fuel) _ from ⟨0, by omega, A0, l0, p0, hB0⟩)
    have HG := hid (And.intro hPg (And.intro hF (road hF)))
    clear l0 p0 hPg hF hB0 HX
    go_wp2_with fail
    go_loopg [8] (fuelP fuel) (fun gk at0 wr => at0 = .int .i64 0 ∧ PlayAt wc (wc.heap.size + 1) (.slice (some ⟨pb, po, none⟩) m pc) (nthP F (startP F)) (fuelP fuel) gk wr)
    case atStart => exact ⟨rfl, HS.out⟩
    case round =>
      clear HS a1 hmk hpb
      obtain ⟨rfl, j, hj, A1, l1, p1, hB1⟩ := hrel
      have hgj : j ≤ fuelP fuel := by omega
      obtain ⟨hPg, hF, hR⟩ := HG.out
      have hsz := road_szs hF j
      have hch := nth_cH F (startP F) rfl j
      generalize hS : nthP F (startP F) = S at *
      have HSS := hid hS
      clear hS
      have r7 : wr.cell? ⟨wc.heap.size + 1, 7, none⟩ = some (.int .i64 (S j).fin) := Lay.cell l1 7
      have z7 : wr.frozen? ⟨wc.heap.size + 1, 7, none⟩ = false := Lay.frozen l1 7
      by_cases hz : (S j).fin = 0
      · obtain ⟨hI, h16, hsj, hoj, haj, hnx⟩ := hR.go j hz
        have hz0 : ((S j).fin == 0) = true := by simpa using hz
        have r6 : wr.cell? ⟨wc.heap.size + 1, 6, none⟩ = some (.int .i64 (S j).steps) := Lay.cell l1 6
        rw [hsj] at r6
        have HT := hid (fun (X : World) (hX : Below wr.heap.size wr X) => refStep X wc.heap.size (wc.heap.size + 1) m A1 (S j) F K H (l1.below hX) (by rw [p1]; exact hPg.below (hB1.trans (hX.mono hB1.size))) (Nat.le_trans hB1.size hX.size) hF hI h16 hz (by omega) (by omega) (by omega) (by omega) (fun i => by
          by_cases hi : i < (S j).arr.length
          · exact hsz.1.al _ (getD_mem2 hi)
          · rw [List.getD_eq_getElem?_getD, List.getElem?_eq_none (by omega)]; exact Nat.zero_le _))
        have HY := hid (And.intro l1 (And.intro p1 (And.intro hB1 (And.intro hz (And.intro hnx hR)))))
        rw [hz] at r7
        clear l1 p1 hB1 hPg hF hR hI h16 hsj hoj haj hnx hz hsz hch
        by_cases hjf : fuelP fuel ≤ j
        · have hle := (HFU.out j (by omega)).2 hjf
          have hd : decide (fu2 ≤ (j : Int)) = true := by simpa using hle
          have HQ := hid (fun (X : World) (hX : Below wr.heap.size wr X) => (show Below wc.heap.size wc (X.setCell ⟨wc.heap.size + 1, 7, none⟩ (.int .i64 2)) ∧ ∃ A : Ad, LayA (X.setCell ⟨wc.heap.size + 1, 7, none⟩ (.int .i64 2)) wc.heap.size (wc.heap.size + 1) A (doneP (atP F fuel)) from by
            obtain ⟨l1, p1, hB1, hz, hnx, hR⟩ := HY.out
            have e0 : j = fuelP fuel := by omega
            have e1 : atP F fuel = S j := by unfold atP; rw [HSS.out, e0]
            have e2 : doneP (S j) = { S j with fin := 2 } := by unfold doneP endP; rw [if_pos hz]
            rw [e1, e2]
            obtain ⟨l2, _⟩ := (l1.below hX).ownset 7 (.int .i64 2) (s' := { S j with fin := 2 }) rfl rfl rfl rfl rfl
            exact ⟨(hB1.trans (hX.mono hB1.size)).setCell (by show wc.heap.size ≤ wc.heap.size + 1; omega) _, A1, l2⟩))
          clear HY HT
          go_wp2_with fail
          go_loopg [8] 0 (fun _ at1 wz => at1 = .int .i64 0 ∧ wz = wr)
          case atStart => exact ⟨rfl, rfl⟩
          case round =>
            obtain ⟨rfl, rfl⟩ := hrel
            go_wp2_with fail
            go_quiet (fail)
            have HV := hid (HQ.out _ (below_drewN (Below.refl _ _) nq))
            clear HQ
            go_wp2
            go_ret
            exact ⟨_, rfl, HV.out⟩
        · have hle : ¬ fu2 ≤ (j : Int) := fun h => hjf ((HFU.out j (by omega)).1 h)
          have hd : decide (fu2 ≤ (j : Int)) = false := by simpa using hle
          obtain ⟨g2, hg2, hgl⟩ : ∃ g2, j + 1 + g2 = fuelP fuel ∧ g2 < gk := ⟨gk - 1, by omega, by omega⟩
          go_wp2_with fail
          go_loopg [8] 0 (fun _ at1 wz => at1 = .int .i64 0 ∧ wz = wr)
          case atStart => exact ⟨rfl, rfl⟩
          case round =>
            obtain ⟨rfl, rfl⟩ := hrel
            go_wp2_with fail
            go_quiet (fail)
            go_wp2_with fail
            refine (HT.out _ (below_drewN (Below.refl _ _) nq)).mono ?_
            rintro e w2 ⟨rfl, A2, l2, p2, c2⟩
            have HN := hid (show PlayAt wc (wc.heap.size + 1) (.slice (some ⟨pb, po, none⟩) m pc) S (fuelP fuel) g2 w2 from by
              obtain ⟨l1, p1, hB1, hz, hnx, hR⟩ := HY.out
              refine ⟨j + 1, hg2, A2, by rw [hnx]; exact l2, p2.trans p1, ?_⟩
              have hb : Below wr.heap.size wr (wr.drewN nq) := below_drewN (Below.refl _ _) nq
              exact (hB1.trans (hb.mono hB1.size)).trans (c2.below (by have := hB1.size; simpa using this)))
            clear l2 p2 c2 HT HY
            go_wp2
            go_roundg g2
            case measure => exact hgl
            case rel => exact ⟨rfl, HN.out⟩
      · have hz0 : ((S j).fin == 0) = false := by simpa using hz
        have HQ := hid (show ∃ A : Ad, LayA wr wc.heap.size (wc.heap.size + 1) A (doneP (atP F fuel)) from by
          have e1 : atP F fuel = S j := by unfold atP; rw [HSS.out]; exact hR.stay j (fuelP fuel) hz (by omega)
          have e2 : doneP (S j) = S j := by unfold doneP endP; rw [if_neg hz]
          rw [e1, e2]
          exact ⟨A1, l1⟩)
        have HB := hid hB1
        clear l1 p1 hB1 hPg hF hR hsz hch hz
        go_wp2
        go_ret
        exact ⟨_, rfl, HB.out, HQ.out⟩
end Go.Proofs.YtkafkipjedpohaaGreatDoor
