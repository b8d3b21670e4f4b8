import Derived.Test.YtkafkipjedpohaaDoorD2

/-
  upshiftlaw.kept: the walk.
-/
namespace Go.Proofs.YtkafkipjedpohaaDoor
open Go.RowKit

theorem LentTo.below {w w' : World} {B b m k : Nat} {F : Nat → PF} (h : LentTo w b m k F) (hb : Below B w w') (hB : b + 1 + m ≤ B) : LentTo w' b m k F :=
  ⟨h.row.of_block (hb.block _ (by omega)), fun i hi hik => (h.code i hi hik).of_block (hb.block _ (by omega))⟩

theorem LentTo.cells {w : World} {b m k : Nat} {F : Nat → PF} (h : LentTo w b m k F) {i : Nat} (hi : i < m) (hik : i < k) :
    w.cell? ⟨b, i * 3, none⟩ = some (.int .i64 (F i).args) ∧ w.cell? ⟨b, i * 3 + 1, none⟩ = some (.int .i64 (F i).locals) ∧ w.cell? ⟨b, i * 3 + 2, none⟩ = some (.slice (some ⟨b + 1 + i, 0, none⟩) (F i).cn ((F i).cn + 2)) := by
  have h0 := h.row.cell (i := i * 3) (by omega)
  have h1 := h.row.cell (i := i * 3 + 1) (by omega)
  have h2 := h.row.cell (i := i * 3 + 2) (by omega)
  unfold lcellTo lcell at h0 h1 h2
  rw [if_pos (by omega), if_pos (by omega), if_pos (by omega), show i * 3 / 3 = i by omega] at h0
  rw [if_pos (by omega), if_pos (by omega), if_neg (by omega), if_pos (by omega), show (i * 3 + 1) / 3 = i by omega] at h1
  rw [if_pos (by omega), if_pos (by omega), if_neg (by omega), if_neg (by omega), show (i * 3 + 2) / 3 = i by omega] at h2
  exact ⟨h0, h1, h2⟩

theorem LentTo.marks {w : World} {b m : Nat} {F : Nat → PF} (h : LentTo w b m (m + 2) F) {i : Nat} (hi : m ≤ i) (hik : i < m + 2) :
    w.cell? ⟨b, i * 3, none⟩ = some (.int .i64 (-77)) ∧ w.cell? ⟨b, i * 3 + 1, none⟩ = some (.int .i64 0) ∧ w.cell? ⟨b, i * 3 + 2, none⟩ = some (.slice none 0 0) := by
  have h0 := h.row.cell (i := i * 3) (by omega)
  have h1 := h.row.cell (i := i * 3 + 1) (by omega)
  have h2 := h.row.cell (i := i * 3 + 2) (by omega)
  unfold lcellTo lcell at h0 h1 h2
  rw [if_pos (by omega), if_neg (by omega), if_pos (by omega)] at h0
  rw [if_pos (by omega), if_neg (by omega), if_neg (by omega), if_pos (by omega)] at h1
  rw [if_pos (by omega), if_neg (by omega), if_neg (by omega), if_neg (by omega)] at h2
  exact ⟨h0, h1, h2⟩

/-- What stands at a lent function's instruction j. -/
theorem icell_in (f : PF) (j : Nat) (hj : j < f.cn) : icell f (j * 2) = .int .i64 (f.op j) ∧ icell f (j * 2 + 1) = .int .i64 (f.ar j) := by
  unfold icell
  rw [if_pos (by omega), if_pos (by omega), if_pos (by omega), if_neg (by omega), show j * 2 / 2 = j by omega, show (j * 2 + 1) / 2 = j by omega]
  exact ⟨rfl, rfl⟩
theorem icell_out (f : PF) (j : Nat) (hj : f.cn ≤ j) : icell f (j * 2) = .int .i64 0 ∧ icell f (j * 2 + 1) = .int .i64 0 := by
  unfold icell
  rw [if_neg (by omega), if_neg (by omega)]
  exact ⟨rfl, rfl⟩

set_option maxRecDepth 100000 in
set_option maxHeartbeats 1000000 in
theorem kept_any (b : Nat) (p : Option Addr) (pc m : Nat) (F : Nat → PF) (CA : Nat → Option Addr) (CC : Nat → Nat) (w : World) (hG : Given w p m F CA CC) (hL : LentTo w b m (m + 2) F) (hb : b + 1 + m ≤ w.heap.size) (hm : 40 * m ≤ 140737488355328) (hcn : ∀ k, k < m → 16 * (F k).cn ≤ 140737488355328) :
    Calls Tryd.prog 9 #[.slice (some ⟨b, 0, none⟩) (m + 2) (m + 2), .slice p m pc] w fun e w' => e = .returned (.bool true) ∧ Below w.heap.size w w' := by
  have HG := hid (And.intro hG (And.intro hL hcn))
  clear hG hL hcn
  have hlen : ((m : Int) + 2 != (m : Int) + 2) = false := by simp
  go_enter Tryd.func9, Tryd.ntmps9
  go_wp2
  go_loopw [5] (fun v wr => ∃ k : Nat, k ≤ m ∧ v = .int .i64 k ∧ Below w.heap.size w wr) (fun v _ => m - (intOf v).toNat)
  case atStart => exact ⟨0, Nat.zero_le _, rfl, Below.refl _ _⟩
  case round =>
    obtain ⟨k, hk, rfl, hB⟩ := hrel
    by_cases hlt : k < m
    · obtain ⟨pb, po, rfl, hPw⟩ := HG.out.1 (by omega)
      have hpb : pb < w.heap.size := hPw.lt
      have hP := hPw.below hB (Nat.le_refl _)
      obtain ⟨c0, c1, c2, hcode⟩ := hP.fn k hlt
      have hLr := HG.out.2.1.below hB hb
      obtain ⟨l0, l1, l2⟩ := hLr.cells hlt (by omega)
      have hcb := HG.out.2.2 k hlt
      have HK := hid (And.intro hB (And.intro hPw (HG.out.2.1.code k hlt (by omega))))
      clear hB hPw hP hcode hLr
      generalize hcn : (F k).cn = cn at *
      have Hcn := hid hcn
      clear hcn
      generalize (F k).args = ag at *
      generalize (F k).locals = lc at *
      have e1 : (ag != ag) = false := by simp
      have e2 : (lc != lc) = false := by simp
      have e3 : ((cn : Int) != (cn : Int)) = false := by simp
      have i0 : (0 : Int) ≤ (k : Int) := by omega
      have i1 : (k : Int) < (m : Int) := by omega
      have i2 : (k : Int) < (m : Int) + 2 := by omega
      go_wp2
      go_quiet (fail)
      go_wp2
      have HB : Hid (Below w.heap.size w (wr.drewN nq)) := ⟨HK.out.1.os, HK.out.1.tape, HK.out.1.output, HK.out.1.size, HK.out.1.block⟩
      have HP : Hid (ProgAt w pb po m F CA CC ∧ w.rowIs (b + 1 + k) 38 (((F k).cn + 2) * 2) (icell (F k))) := ⟨HK.out.2.1, by rw [Hcn.out]; exact HK.out.2.2⟩
      clear HK c0 c1 c2 l0 l1 l2 e1 e2 e3
      generalize wr.drewN nq = W at *
      go_loopw [8] (fun v wz => ∃ j : Nat, j ≤ cn + 2 ∧ v = .int .i64 j ∧ Below w.heap.size w wz) (fun v _ => cn + 2 - (intOf v).toNat)
      case atStart => exact ⟨0, Nat.zero_le _, rfl, HB.out⟩
      case round =>
        clear HB
        obtain ⟨j, hj, rfl, hB⟩ := hrel
        by_cases hlj : j < cn
        · obtain ⟨c0, c1, c2, hcode⟩ := (HP.out.1.below hB (Nat.le_refl _)).fn k hlt
          obtain ⟨cb, co, ec, hcbl, hcc⟩ := hcode (by rw [Hcn.out]; omega)
          rw [ec, Hcn.out] at c2
          obtain ⟨x0, x1⟩ := hcc j (by rw [Hcn.out]; exact hlj)
          have hrow := HP.out.2.of_block (hB.block (b + 1 + k) (by omega))
          have y0 := hrow.cell (i := j * 2) (by rw [Hcn.out]; omega)
          have y1 := hrow.cell (i := j * 2 + 1) (by rw [Hcn.out]; omega)
          obtain ⟨z0, z1⟩ := icell_in (F k) j (by rw [Hcn.out]; exact hlj)
          rw [z0] at y0
          rw [z1] at y1
          generalize (F k).op j = oj at *
          generalize (F k).ar j = aj at *
          have HBr := hid hB
          have hsz := hB.size
          have hbz : b + 1 + k < wr.heap.size := by omega
          have hpz : pb < wr.heap.size := by omega
          clear hB hcode hcc hrow z0 z1 c0 c1
          have j0 : (0 : Int) ≤ (j : Int) := by omega
          have j1 : (j : Int) < (cn : Int) := by omega
          have j2 : (j : Int) < (cn : Int) + 2 := by omega
          go_wp2
          go_quiet (fail)
          go_wp2
          go_roundw
          case rel => exact ⟨j + 1, by omega, by go_num, below_drewN (HBr.out.alloc (by omega) _) _⟩
          case measure => simp [intOf]; omega
        · by_cases hl2 : j < cn + 2
          · have hrow := HP.out.2.of_block (hB.block (b + 1 + k) (by omega))
            have y0 := hrow.cell (i := j * 2) (by rw [Hcn.out]; omega)
            have y1 := hrow.cell (i := j * 2 + 1) (by rw [Hcn.out]; omega)
            obtain ⟨z0, z1⟩ := icell_out (F k) j (by rw [Hcn.out]; omega)
            rw [z0] at y0
            rw [z1] at y1
            have HBr := hid hB
            have hsz := hB.size
            have hbz : b + 1 + k < wr.heap.size := by omega
            clear hB hrow z0 z1
            have j0 : (0 : Int) ≤ (j : Int) := by omega
            have j2 : (j : Int) < (cn : Int) + 2 := by omega
            go_wp2
            go_quiet (fail)
            go_wp2
            go_roundw
            case rel => exact ⟨j + 1, by omega, by go_num, below_drewN (HBr.out.alloc (by omega) _) _⟩
            case measure => simp [intOf]; omega
          · have HBr := hid hB
            clear hB
            go_wp2
            go_roundw
            case rel => exact ⟨k + 1, by omega, by go_num, HBr.out⟩
            case measure => simp [intOf]; omega
    · obtain rfl : k = m := by omega
      have hLr := HG.out.2.1.below hB hb
      have g0 := (hLr.marks (i := k) (Nat.le_refl _) (by omega)).1
      have g1 := (hLr.marks (i := k + 1) (by omega) (by omega)).1
      have HBr := hid hB
      clear hB hLr
      go_wp2
      go_ret
      exact ⟨rfl, HBr.out⟩
end Go.Proofs.YtkafkipjedpohaaDoor
