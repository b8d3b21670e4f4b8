import Derived.Test.YtkafkipjedpohaaGreatDoorD1

/-
  upshiftlaw.lent: the walk.
-/
namespace Go.Proofs.YtkafkipjedpohaaGreatDoor
open Go.RowKit

/-- An argument that is a program: of whatever length, nil too. -/
def Given (w : World) (p : Option Addr) (m : Nat) (F : Nat → PF) (CA : Nat → Option Addr) (CC : Nat → Nat) : Prop :=
  1 ≤ m → ∃ pb po, p = some ⟨pb, po, none⟩ ∧ ProgAt w pb po m F CA CC

theorem Given.below {w w' : World} {B : Nat} {p : Option Addr} {m : Nat} {F : Nat → PF} {CA : Nat → Option Addr} {CC : Nat → Nat} (h : Given w p m F CA CC) (b : Below B w w') (hB : w.heap.size ≤ B) : Given w' p m F CA CC :=
  fun hm => by
    obtain ⟨pb, po, e, hP⟩ := h hm
    exact ⟨pb, po, e, hP.below b hB⟩

theorem make_funs (m : Nat) (hm : 40 * (m + 2) ≤ 281474976710656) (wx : World) : (Instr.makeSlice 23 (.int .i64 ((m : Int) + 2)) (.int .i64 ((m : Int) + 2))).run Tryz.prog wx = .ok (.slice (some ⟨wx.heap.size, 0, none⟩) (m + 2) (m + 2)) (wx.alloc (.cells (fArr (m + 2)) 31)) := by
  have h := run_make_rows (P := Tryz.prog) 23 31 _ _ 3 40 Tryz.underlying23 Tryz.info31 rfl .i64 .i64 (m + 2) hm (by omega) wx
  rw [show ((m + 2 : Nat) : Int) = (m : Int) + 2 by omega] at h
  exact h
theorem make_ins (n : Nat) (hn : 16 * (n + 2) ≤ 281474976710656) (wx : World) : (Instr.makeSlice 29 (.int .i64 ((n : Int) + 2)) (.int .i64 ((n : Int) + 2))).run Tryz.prog wx = .ok (.slice (some ⟨wx.heap.size, 0, none⟩) (n + 2) (n + 2)) (wx.alloc (.cells (iArr (n + 2)) 33)) := by
  have h := run_make_rows (P := Tryz.prog) 29 33 _ _ 2 16 Tryz.underlying29 Tryz.info33 rfl .i64 .i64 (n + 2) hn (by omega) wx
  rw [show ((n + 2 : Nat) : Int) = (n : Int) + 2 by omega] at h
  exact h

set_option maxRecDepth 100000 in
set_option maxHeartbeats 1000000 in
theorem lent_any (p : Option Addr) (pc m : Nat) (F : Nat → PF) (CA : Nat → Option Addr) (CC : Nat → Nat) (w : World) (hG : Given w p m F CA CC) (hm : 40 * m ≤ 140737488355328) (hcn : ∀ k, k < m → 16 * (F k).cn ≤ 140737488355328) :
    Calls Tryz.prog 74 #[.slice p m pc] w fun e w' => e = .returned (.slice (some ⟨w.heap.size, 0, none⟩) (m + 2) (m + 2)) ∧ Below w.heap.size w w' ∧ w'.heap.size = w.heap.size + 1 + m ∧ LentTo w' w.heap.size m (m + 2) F := by
  have hmk := make_funs m (by omega)
  have HG : Hid (Given w p m F CA CC ∧ ∀ k, k < m → 16 * (F k).cn ≤ 140737488355328) := ⟨hG, hcn⟩
  clear hG hcn
  go_enter Tryz.func74, Tryz.ntmps74
  go_wp2
  clear hmk
  go_loopw [4] (fun v wr => ∃ k : Nat, k ≤ m + 2 ∧ v = .int .i64 k ∧ Below w.heap.size w wr ∧ (k ≤ m → wr.heap.size = w.heap.size + 1 + k) ∧ (m ≤ k → wr.heap.size = w.heap.size + 1 + m) ∧ LentTo wr w.heap.size m k F) (fun v _ => m + 2 - (intOf v).toNat)
  case atStart => exact ⟨0, Nat.zero_le _, rfl, (Below.refl _ _).alloc (Nat.le_refl _) _, fun _ => by simp, fun _ => by simp; omega, lent_start w m F⟩
  case round =>
    obtain ⟨k, hk, rfl, hB, hz1, hz2, hL⟩ := hrel
    by_cases hlt : k < m
    · obtain ⟨pb, po, rfl, hPw⟩ := HG.out.1 (by omega)
      have hpb : pb < w.heap.size := hPw.lt
      have hP := hPw.below hB (Nat.le_refl _)
      obtain ⟨c0, c1, c2, hcode⟩ := hP.fn k hlt
      have hz : wr.heap.size = w.heap.size + 1 + k := hz1 (by omega)
      have hmi := make_ins (F k).cn (by have := HG.out.2 k hlt; omega)
      obtain ⟨w2, hcp, hrow, hB2, hz3⟩ := copy_ins wr (F k) (CA k) (CC k) hcode
      have d0 := (hB2.cell (p := ⟨pb, po + k * 3, none⟩) (by dsimp only; omega)).trans c0
      have d1 := (hB2.cell (p := ⟨pb, po + k * 3 + 1, none⟩) (by dsimp only; omega)).trans c1
      have d2 := (hB2.cell (p := ⟨pb, po + k * 3 + 2, none⟩) (by dsimp only; omega)).trans c2
      have hrow2 := hL.row.of_block (hB2.block w.heap.size (by omega))
      have hL2 : LentTo w2 w.heap.size m k F := ⟨hrow2, fun i hi hik => (hL.code i hi hik).of_block (hB2.block _ (by omega))⟩
      have hBw2 : Below w.heap.size w w2 := hB.trans (hB2.mono (by omega))
      have q0 := hrow2.cell (i := k * 3) (by omega)
      have q1 := hrow2.cell (i := k * 3 + 1) (by omega)
      have q2 := hrow2.cell (i := k * 3 + 2) (by omega)
      have f0 := hrow2.frozen (k * 3)
      have f1 := hrow2.frozen (k * 3 + 1)
      have f2 := hrow2.frozen (k * 3 + 2)
      generalize lcellTo F w.heap.size m k (k * 3) = v0 at q0
      generalize lcellTo F w.heap.size m k (k * 3 + 1) = v1 at q1
      generalize lcellTo F w.heap.size m k (k * 3 + 2) = v2 at q2
      rw [hz] at hrow
      have HL : Hid (LentTo (((w2.setCell ⟨w.heap.size, k * 3, none⟩ (.int .i64 (F k).args)).setCell ⟨w.heap.size, k * 3 + 1, none⟩ (.int .i64 (F k).locals)).setCell ⟨w.heap.size, k * 3 + 2, none⟩ (.slice (some ⟨w.heap.size + 1 + k, 0, none⟩) (F k).cn ((F k).cn + 2))) w.heap.size m (k + 1) F ∧ Below w.heap.size w w2 ∧ w2.heap.size = w.heap.size + 1 + k + 1) := ⟨hL2.fn hlt hrow, hBw2, by omega⟩
      have HZ := hid hz
      have hbn : (F k).cn ≤ (F k).cn + 2 := by omega
      have hcb := HG.out.2 k hlt
      have hpz : pb < wr.heap.size := by omega
      have hne : ¬ pb = w.heap.size := by omega
      clear hz hz1 hz2 hz3 hL hL2 hB hB2 hP hPw hcode hrow hrow2 hBw2
      generalize (F k).cn = cn at *
      generalize (F k).args = ag at *
      generalize (F k).locals = lc at *
      go_wp2
      clear hcp hmi
      have i0 : (0 : Int) ≤ (k : Int) := by omega
      have i1 : (k : Int) < (m : Int) := by omega
      have i2 : (k : Int) < (m : Int) + 2 := by omega
      have i3 : (0 : Int) ≤ (cn : Int) := by omega
      have i4 : (cn : Int) ≤ (cn : Int) + 2 := by omega
      have hne' : ¬ w.heap.size = pb := by omega
      go_region_held3 (fun w' => w'.cell? ⟨pb, po + k * 3, none⟩ = some (.int .i64 ag) ∧ w'.cell? ⟨pb, po + k * 3 + 1, none⟩ = some (.int .i64 lc) ∧ w'.cell? ⟨pb, po + k * 3 + 2, none⟩ = some (.slice (CA k) cn (CC k))) (go_keep) (fail)
      rename_i hheld
      clear hheld d0 d1 d2 c0 c1 c2 q0 q1 q2 f0 f1 f2 i0 i1 i2 i3 i4
      rw [HZ.out]
      go_wp2
      go_roundw
      case rel =>
        refine ⟨k + 1, by omega, by go_num, ?_, fun _ => ?_, fun _ => ?_, ?_⟩
        · exact (((HL.out.2.1.setCell (Nat.le_refl _) _).setCell (Nat.le_refl _) _).setCell (Nat.le_refl _) _).drew
        · have := HL.out.2.2; simp [World.setCell]; omega
        · have := HL.out.2.2; simp [World.setCell]; omega
        · exact ⟨HL.out.1.row, HL.out.1.code⟩
      case measure => simp [intOf]; omega
    · by_cases hlt2 : k < m + 2
      · have hL' := hL.mark (by omega)
        have q0 := hL.row.cell (i := k * 3) (by omega)
        have q1 := hL.row.cell (i := k * 3 + 1) (by omega)
        have q2 := hL.row.cell (i := k * 3 + 2) (by omega)
        have f0 := hL.row.frozen (k * 3)
        have f1 := hL.row.frozen (k * 3 + 1)
        have f2 := hL.row.frozen (k * 3 + 2)
        generalize lcellTo F w.heap.size m k (k * 3) = v0 at q0
        generalize lcellTo F w.heap.size m k (k * 3 + 1) = v1 at q1
        generalize lcellTo F w.heap.size m k (k * 3 + 2) = v2 at q2
        have HL := hid (And.intro hL' (And.intro hB (hz2 (by omega))))
        clear hL' hL hB hz1 hz2
        go_wp2
        go_roundw
        case rel =>
          refine ⟨k + 1, by omega, by go_num, ?_, fun _ => ?_, fun _ => ?_, ?_⟩
          · exact ((HL.out.2.1.setCell (Nat.le_refl _) _).setCell (Nat.le_refl _) _).setCell (Nat.le_refl _) _
          · omega
          · have := HL.out.2.2; simp [World.setCell]; omega
          · exact HL.out.1
        case measure => simp [intOf]; omega
      · obtain rfl : k = m + 2 := by omega
        have HZ := hid (And.intro hB (And.intro (hz2 (by omega)) hL))
        clear hB hz1 hz2 hL
        go_wp2
        go_ret
        exact ⟨rfl, HZ.out⟩
end Go.Proofs.YtkafkipjedpohaaGreatDoor
