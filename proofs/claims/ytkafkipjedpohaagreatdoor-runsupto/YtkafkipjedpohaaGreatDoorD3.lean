import Derived.Test.YtkafkipjedpohaaGreatDoorD1

/-
  upshiftlaw.kept: the walk.
-/
namespace Go.Proofs.YtkafkipjedpohaaGreatDoor
open Go.RowKit

theorem LentTo.below {w w' : World} {B b m k : Nat} {F : Nat → PF} (h : LentTo w b m k F) (hb : Below B w w') (hB : b + 1 + m ≤ B) : LentTo w' b m k F :=
  ⟨h.row.of_block (hb.block _ (by omega)), fun i hi hik => (h.code i hi hik).of_block (hb.block _ (by omega))⟩

theorem LentTo.cells {w : World} {b m k : Nat} {F : Nat → PF} (h : LentTo w b m k F) {i : Nat} (hi : i < m) (hik : i < k) :
    w.cell? ⟨b, i * 3, none⟩ = some (.int .i64 (F i).args) ∧ w.cell? ⟨b, i * 3 + 1, none⟩ = some (.int .i64 (F i).locals) ∧ w.cell? ⟨b, i * 3 + 2, none⟩ = some (.slice (some ⟨b + 1 + i, 0, none⟩) (F i).cn ((F i).cn + 2)) := by
  have h0 := h.row.cell (i := i * 3) (by omega)
  have h1 := h.row.cell (i := i * 3 + 1) (by omega)
  have h2 := h.row.cell (i := i * 3 + 2) (by omega)
  unfold lcellTo lcell at h0 h1 h2
  rw [if_pos (by omega), if_pos (by omega), if_pos (by omega), show i * 3 / 3 = i by omega] at h0
  rw [if_pos (by omega), if_pos (by omega), if_neg (by omega), if_pos (by omega), show (i * 3 + 1) / 3 = i by omega] at h1
  rw [if_pos (by omega), if_pos (by omega), if_neg (by omega), if_neg (by omega), show (i * 3 + 2) / 3 = i by omega] at h2
  exact ⟨h0, h1, h2⟩

theorem LentTo.marks {w : World} {b m : Nat} {F : Nat → PF} (h : LentTo w b m (m + 2) F) {i : Nat} (hi : m ≤ i) (hik : i < m + 2) :
    w.cell? ⟨b, i * 3, none⟩ = some (.int .i64 (-77)) ∧ w.cell? ⟨b, i * 3 + 1, none⟩ = some (.int .i64 0) ∧ w.cell? ⟨b, i * 3 + 2, none⟩ = some (.slice none 0 0) := by
  have h0 := h.row.cell (i := i * 3) (by omega)
  have h1 := h.row.cell (i := i * 3 + 1) (by omega)
  have h2 := h.row.cell (i := i * 3 + 2) (by omega)
  unfold lcellTo lcell at h0 h1 h2
  rw [if_pos (by omega), if_neg (by omega), if_pos (by omega)] at h0
  rw [if_pos (by omega), if_neg (by omega), if_neg (by omega), if_pos (by omega)] at h1
  rw [if_pos (by omega), if_neg (by omega), if_neg (by omega), if_neg (by omega)] at h2
  exact ⟨h0, h1, h2⟩

/-- What stands at a lent function's instruction j. -/
theorem icell_in (f : PF) (j : Nat) (hj : j < f.cn) : icell f (j * 2) = .int .i64 (f.op j) ∧ icell f (j * 2 + 1) = .int .i64 (f.ar j) := by
  unfold icell
  rw [if_pos (by omega), if_pos (by omega), if_pos (by omega), if_neg (by omega), show j * 2 / 2 = j by omega, show (j * 2 + 1) / 2 = j by omega]
  exact ⟨rfl, rfl⟩
theorem icell_out (f : PF) (j : Nat) (hj : f.cn ≤ j) : icell f (j * 2) = .int .i64 0 ∧ icell f (j * 2 + 1) = .int .i64 0 := by
  unfold icell
  rw [if_neg (by omega), if_neg (by omega)]
  exact ⟨rfl, rfl⟩

set_option maxRecDepth 100000 in
set_option maxHeartbeats 1000000 in
theorem kept_any (b : Nat) (p : Option Addr) (pc m : Nat) (F : Nat → PF) (CA : Nat → Option Addr) (CC : Nat → Nat) (w : World) (hG : Given w p m F CA CC) (hL : LentTo w b m (m + 2) F) (hb : b + 1 + m ≤ w.heap.size) (hm : 40 * m ≤ 140737488355328) (hcn : ∀ k, k < m → 16 * (F k).cn ≤ 140737488355328) :
    Calls Tryz.prog 76 #[.slice (some ⟨b, 0, none⟩) (m + 2) (m + 2), .slice p m pc] w fun e w' => e = .returned (.bool true) ∧ Below w.heap.size w w' := by
  have HG := hid (And.intro hG (And.intro hL hcn))
  clear hG hL hcn
  have hlen : ((m : Int) + 2 != (m : Int) + 2) = false := by simp
  go_enter Tryz.func76, Tryz.ntmps76
  go_wp2
  go_loopw [5] (fun v wr => ∃ k : Nat, k ≤ m ∧ v = .int .i64 k ∧ Below w.heap.size w wr) (fun v _ => m - (intOf v).toNat)
  case atStart => exact ⟨0, Nat.zero_le _, rfl, Below.refl _ _⟩
  case round =>
    obtain ⟨k, hk, rfl, hB⟩ := hrel
    by_cases hlt : k < m
    · obtain ⟨pb, po, rfl, hPw⟩ := HG.out.1 (by omega)
      have hpb : pb < w.heap.size := hPw.lt
      have hP := hPw.below hB (Nat.le_refl _)
      obtain ⟨c0, c1, c2, hcode⟩ := hP.fn k hlt
      have hLr := HG.out.2.1.below hB hb
      obtain ⟨l0, l1, l2⟩ := hLr.cells hlt (by omega)
      have hcb := HG.out.2.2 k hlt
      have HK := hid (And.intro hB (And.intro hPw (HG.out.2.1.code k hlt (by omega))))
      clear hB hPw hP hcode hLr
      generalize hcn : (F k).cn = cn at *
      have Hcn := hid hcn
      clear hcn
      generalize (F k).args = ag at *
      generalize (F k).locals = lc at *
      have e1 : (ag != ag) = false := by simp
      have e2 : (lc != lc) = false := by simp
      have e3 : ((cn : Int) != (cn : Int)) = false := by simp
      have i0 : (0 : Int) ≤ (k : Int) := by omega
      have i1 : (k : Int) < (m : Int) := by omega
      have i2 : (k : Int) < (m : Int) + 2 := by omega
      go_wp2
      go_quiet (fail)
      go_wp2
      have HB : Hid (Below w.heap.size w (wr.drewN nq)) := ⟨HK.out.1.os, HK.out.1.tape, HK.out.1.output, HK.out.1.size, HK.out.1.block⟩
      have HP : Hid (ProgAt w pb po m F CA CC ∧ w.rowIs (b + 1 + k) 33 (((F k).cn + 2) * 2) (icell (F k))) := ⟨HK.out.2.1, by rw [Hcn.out]; exact HK.out.2.2⟩
      clear HK c0 c1 c2 l0 l1 l2 e1 e2 e3
      generalize wr.drewN nq = W at *
      go_loopw [8] (fun v wz => ∃ j : Nat, j ≤ cn + 2 ∧ v = .int .i64 j ∧ Below w.heap.size w wz) (fun v _ => cn + 2 - (intOf v).toNat)
      case atStart => exact ⟨0, Nat.zero_le _, rfl, HB.out⟩
      case round =>
        clear HB
        obtain ⟨j, hj, rfl, hB⟩ := hrel
        by_cases hlj : j < cn
        · obtain ⟨c0, c1, c2, hcode⟩ := (HP.out.1.below hB (Nat.le_refl _)).fn k hlt
          obtain ⟨cb, co, ec, hcbl, hcc⟩ := hcode (by rw [Hcn.out]; omega)
          rw [ec, Hcn.out] at c2
          obtain ⟨x0, x1⟩ := hcc j (by rw [Hcn.out]; exact hlj)
          have hrow := HP.out.2.of_block (hB.block (b + 1 + k) (by omega))
          have y0 := hrow.cell (i := j * 2) (by rw [Hcn.out]; omega)
          have y1 := hrow.cell (i := j * 2 + 1) (by rw [Hcn.out]; omega)
          obtain ⟨z0, z1⟩ := icell_in (F k) j (by rw [Hcn.out]; exact hlj)
          rw [z0] at y0
          rw [z1] at y1
          generalize (F k).op j = oj at *
          generalize (F k).ar j = aj at *
          have HBr := hid hB
          have hsz := hB.size
          have hbz : b + 1 + k < wr.heap.size := by omega
          have hpz : pb < wr.heap.size := by omega
          clear hB hcode hcc hrow z0 z1 c0 c1
          have j0 : (0 : Int) ≤ (j : Int) := by omega
          have j1 : (j : Int) < (cn : Int) := by omega
          have j2 : (j : Int) < (cn : Int) + 2 := by omega
          go_wp2
          go_quiet (fail)
          go_wp2
          go_roundw
          case rel => exact ⟨j + 1, by omega, by go_num, below_drewN (HBr.out.alloc (by omega) _) _⟩
          case measure => simp [intOf]; omega
        · by_cases hl2 : j < cn + 2
          · have hrow := HP.out.2.of_block (hB.block (b + 1 + k) (by omega))
            have y0 := hrow.cell (i := j * 2) (by rw [Hcn.out]; omega)
            have y1 := hrow.cell (i := j * 2 + 1) (by rw [Hcn.out]; omega)
            obtain ⟨z0, z1⟩ := icell_out (F k) j (by rw [Hcn.out]; omega)
            rw [z0] at y0
            rw [z1] at y1
            have HBr := hid hB
            have hsz := hB.size
            have hbz : b + 1 + k < wr.heap.size := by omega
            clear hB hrow z0 z1
            have j0 : (0 : Int) ≤ (j : Int) := by omega
            have j2 : (j : Int) < (cn : Int) + 2 := by omega
            go_wp2
            go_quiet (fail)
            go_wp2
            go_roundw
            case rel => exact ⟨j + 1, by omega, by go_num, below_drewN (HBr.out.alloc (by omega) _) _⟩
            case measure => simp [intOf]; omega
          · have HBr := hid hB
            clear hB
            go_wp2
            go_roundw
            case rel => exact ⟨k + 1, by omega, by go_num, HBr.out⟩
            case measure => simp [intOf]; omega
    · obtain rfl : k = m := by omega
      have hLr := HG.out.2.1.below hB hb
      have g0 := (hLr.marks (i := k) (Nat.le_refl _) (by omega)).1
      have g1 := (hLr.marks (i := k + 1) (by omega) (by omega)).1
      have HBr := hid hB
      clear hB hLr
      go_wp2
      go_ret
      exact ⟨rfl, HBr.out⟩
end Go.Proofs.YtkafkipjedpohaaGreatDoor

/-
  upshiftlaw.spoil: the walk.
-/
namespace Go.Proofs.YtkafkipjedpohaaGreatDoor
open Go.RowKit

/-- What is lent while its owner writes over it: the slices stand. -/
structure Spl (w : World) (b m : Nat) (F : Nat → PF) : Prop where
  row : ∃ f, w.rowIs b 31 ((m + 2) * 3) f ∧ (∀ i, i < m → f (i * 3 + 2) = .slice (some ⟨b + 1 + i, 0, none⟩) (F i).cn ((F i).cn + 2)) ∧ (∀ i, m ≤ i → i < m + 2 → f (i * 3 + 2) = .slice none 0 0)
  code : ∀ i, i < m → ∃ g, w.rowIs (b + 1 + i) 33 (((F i).cn + 2) * 2) g

theorem LentTo.spl {w : World} {b m : Nat} {F : Nat → PF} (h : LentTo w b m (m + 2) F) : Spl w b m F := by
  refine ⟨⟨_, h.row, fun i hi => ?_, fun i hi hi2 => ?_⟩, fun i hi => ⟨_, h.code i hi (by omega)⟩⟩
  · unfold lcellTo lcell
    rw [if_pos (by omega), if_pos (by omega), if_neg (by omega), if_neg (by omega), show (i * 3 + 2) / 3 = i by omega]
  · unfold lcellTo lcell
    rw [if_pos (by omega), if_neg (by omega), if_neg (by omega), if_neg (by omega)]

theorem Spl.local {w : World} {b m : Nat} {F : Nat → PF} (h : Spl w b m F) (k : Nat) (v : Value) : Spl (w.setCell ⟨b, k * 3 + 1, none⟩ v) b m F := by
  obtain ⟨⟨f, hr, h1, h2⟩, hc⟩ := h
  refine ⟨⟨_, hr.set (k * 3 + 1) v, fun i hi => ?_, fun i hi hi2 => ?_⟩, fun i hi => ?_⟩
  · show (if i * 3 + 2 = k * 3 + 1 then v else f (i * 3 + 2)) = _
    rw [if_neg (by omega)]; exact h1 i hi
  · show (if i * 3 + 2 = k * 3 + 1 then v else f (i * 3 + 2)) = _
    rw [if_neg (by omega)]; exact h2 i hi hi2
  · obtain ⟨g, hg⟩ := hc i hi
    exact ⟨g, hg.setOther (by simp <;> omega) _⟩

theorem Spl.ins {w : World} {b m : Nat} {F : Nat → PF} (h : Spl w b m F) (k j : Nat) (u v : Value) : Spl ((w.setCell ⟨b + 1 + k, j, none⟩ u).setCell ⟨b + 1 + k, j + 1, none⟩ v) b m F := by
  obtain ⟨⟨f, hr, h1, h2⟩, hc⟩ := h
  refine ⟨⟨f, (hr.setOther (by simp <;> omega) _).setOther (by simp <;> omega) _, h1, h2⟩, fun i hi => ?_⟩
  obtain ⟨g, hg⟩ := hc i hi
  by_cases e : i = k
  · subst e; exact ⟨_, (hg.set j u).set (j + 1) v⟩
  · exact ⟨g, (hg.setOther (by simp <;> omega) _).setOther (by simp <;> omega) _⟩

/-- Between two worlds nothing turns but the blocks from b to c. -/
structure Bet (b c : Nat) (w w' : World) : Prop where
  low : Below b w w'
  high : ∀ k, c ≤ k → w'.heap[k]? = w.heap[k]?
theorem Bet.refl (b c : Nat) (w : World) : Bet b c w w := ⟨Below.refl _ _, fun _ _ => rfl⟩
theorem Bet.setCell {b c : Nat} {w w' : World} (h : Bet b c w w') {a : Addr} (hb : b ≤ a.block) (hc : a.block < c) (v : Value) : Bet b c w (w'.setCell a v) :=
  ⟨h.low.setCell hb v, fun k hk => (Below.heap_setCell _ _ _ _ (by omega)).trans (h.high k hk)⟩

set_option maxHeartbeats 1000000 in
theorem spoil_any (b m : Nat) (F : Nat → PF) (w : World) (hL : LentTo w b m (m + 2) F) (hm : 40 * m ≤ 140737488355328) (hcn : ∀ k, k < m → 16 * (F k).cn ≤ 140737488355328) :
    Calls Tryz.prog 77 #[.slice (some ⟨b, 0, none⟩) (m + 2) (m + 2)] w fun e w' => e = .returned (.tuple #[]) ∧ Bet b (b + 1 + m) w w' := by
  have HL := hid (And.intro hL.spl hcn)
  clear hL hcn
  go_enter Tryz.func77, Tryz.ntmps77
  go_wp2
  go_loopw [2] (fun v wr => ∃ k : Nat, k ≤ m + 2 ∧ v = .int .i64 k ∧ Bet b (b + 1 + m) w wr ∧ Spl wr b m F) (fun v _ => m + 2 - (intOf v).toNat)
  case atStart => exact ⟨0, Nat.zero_le _, rfl, Bet.refl _ _ _, HL.out.1⟩
  case round =>
    obtain ⟨k, hk, rfl, hB, hS⟩ := hrel
    by_cases hlt : k < m
    · have hcb := HL.out.2 k hlt
      have HS := hid (And.intro hB hS)
      clear hB hS
      go_wp2
      go_loopw [3] (fun v wz => ∃ j : Nat, j ≤ (F k).cn ∧ v = .int .i64 j ∧ Bet b (b + 1 + m) w wz ∧ Spl wz b m F) (fun v _ => (F k).cn - (intOf v).toNat)
      case atStart => exact ⟨0, Nat.zero_le _, rfl, HS.out⟩
      case round =>
        clear HS
        obtain ⟨j, hj, rfl, hB, hS⟩ := hrel
        have hS' := hS
        obtain ⟨⟨f, hr, h1, h2⟩, hc⟩ := hS'
        obtain ⟨g, hg⟩ := hc k hlt
        have c2 := hr.cell (i := k * 3 + 2) (by omega)
        rw [h1 k hlt] at c2
        have c1 := hr.cell (i := k * 3 + 1) (by omega)
        have f1 := hr.frozen (k * 3 + 1)
        generalize f (k * 3 + 1) = v1 at c1
        by_cases hlj : j < (F k).cn
        · have x0 := hg.cell (i := j * 2) (by omega)
          have x1 := hg.cell (i := j * 2 + 1) (by omega)
          have y0 := hg.frozen (j * 2)
          have y1 := hg.frozen (j * 2 + 1)
          generalize g (j * 2) = u0 at x0
          generalize g (j * 2 + 1) = u1 at x1
          have HS : Hid (Spl ((wr.setCell ⟨b + 1 + k, j * 2, none⟩ (.int .i64 (-9))).setCell ⟨b + 1 + k, j * 2 + 1, none⟩ (.int .i64 0)) b m F ∧ Bet b (b + 1 + m) w ((wr.setCell ⟨b + 1 + k, j * 2, none⟩ (.int .i64 (-9))).setCell ⟨b + 1 + k, j * 2 + 1, none⟩ (.int .i64 0))) :=
            ⟨hS.ins k (j * 2) _ _, (hB.setCell (by dsimp only; omega) (by dsimp only; omega) _).setCell (by dsimp only; omega) (by dsimp only; omega) _⟩
          clear hS hB hr hg h1 h2 hc c1 f1
          generalize (F k).cn = cn at *
          go_wp2
          go_roundw
          case rel => exact ⟨j + 1, by omega, by go_num, HS.out.2, HS.out.1⟩
          case measure => simp [intOf]; omega
        · have HS : Hid (Spl (wr.setCell ⟨b, k * 3 + 1, none⟩ (.int .i64 (-9))) b m F ∧ Bet b (b + 1 + m) w (wr.setCell ⟨b, k * 3 + 1, none⟩ (.int .i64 (-9)))) := ⟨hS.local k _, hB.setCell (Nat.le_refl _) (by dsimp only; omega) _⟩
          clear hS hB hr hg h1 h2 hc
          generalize (F k).cn = cn at *
          go_wp2
          go_roundw
          case rel => exact ⟨k + 1, by omega, by go_num, HS.out.2, HS.out.1⟩
          case measure => simp [intOf]; omega
    · by_cases hl2 : k < m + 2
      · have HS := hid (And.intro hB hS)
        clear hB hS
        go_wp2
        go_loopw [3] (fun v wz => v = .int .i64 0 ∧ Bet b (b + 1 + m) w wz ∧ Spl wz b m F) (fun _ _ => 0)
        case atStart => exact ⟨rfl, HS.out⟩
        case round =>
          clear HS
          obtain ⟨rfl, hB, hS⟩ := hrel
          have hS' := hS
          obtain ⟨⟨f, hr, h1, h2⟩, hc⟩ := hS'
          have c2 := hr.cell (i := k * 3 + 2) (by omega)
          rw [h2 k (by omega) hl2] at c2
          have c1 := hr.cell (i := k * 3 + 1) (by omega)
          have f1 := hr.frozen (k * 3 + 1)
          generalize f (k * 3 + 1) = v1 at c1
          have HS : Hid (Spl (wr.setCell ⟨b, k * 3 + 1, none⟩ (.int .i64 (-9))) b m F ∧ Bet b (b + 1 + m) w (wr.setCell ⟨b, k * 3 + 1, none⟩ (.int .i64 (-9)))) := ⟨hS.local k _, hB.setCell (Nat.le_refl _) (by dsimp only; omega) _⟩
          clear hS hB hr h1 h2 hc
          go_wp2
          go_roundw
          case rel => exact ⟨k + 1, by omega, by go_num, HS.out.2, HS.out.1⟩
          case measure => simp [intOf]; omega
      · have HS := hid hB
        clear hB hS
        go_wp2
        go_end0
        exact ⟨rfl, HS.out⟩
end Go.Proofs.YtkafkipjedpohaaGreatDoor

/-
  upshiftlaw.loaded: the walk.
-/
namespace Go.Proofs.YtkafkipjedpohaaGreatDoor
open Go.RowKit

set_option maxHeartbeats 400000 in
theorem num_any (n : Int) (w : World) : Calls Tryz.prog 78 #[.int .i64 n] w fun e w' => e = .returned (.int .i64 n) ∧ w' = w := by
  go_enter Tryz.func78, Tryz.ntmps78
  go_wp2
  go_ret
  exact ⟨rfl, rfl⟩

theorem LentTo.prog {w : World} {b m : Nat} {F : Nat → PF} (h : LentTo w b m (m + 2) F) (hb : b + 1 + m ≤ w.heap.size) : ProgAt w b 0 m F (fun i => some ⟨b + 1 + i, 0, none⟩) (fun i => (F i).cn + 2) := by
  refine ⟨by omega, fun k hk => ?_⟩
  obtain ⟨h0, h1, h2⟩ := h.cells hk (by omega)
  refine ⟨by rw [Nat.zero_add]; exact h0, by rw [Nat.zero_add]; exact h1, by rw [Nat.zero_add]; exact h2, fun _ => ⟨b + 1 + k, 0, rfl, by omega, fun i hi => ?_⟩⟩
  have hr := h.code k hk (by omega)
  have x0 := hr.cell (i := i * 2) (by omega)
  have x1 := hr.cell (i := i * 2 + 1) (by omega)
  obtain ⟨z0, z1⟩ := icell_in (F k) i hi
  rw [z0] at x0
  rw [z1] at x1
  rw [Nat.zero_add]
  exact ⟨x0, x1⟩

/-- upshiftref.Load, of whatever program. -/
theorem refLoad_all (p : Option Addr) (pc m : Nat) (F : Nat → PF) (CA : Nat → Option Addr) (CC : Nat → Nat) (w : World) (hG : Given w p m F CA CC) :
    Calls Tryz.prog 75 #[.slice p m pc] w fun e w' =>
      e = .returned (.tuple #[.int .i64 (progP m F).1, .int .i64 (progP m F).2.1, .int .i64 (progP m F).2.2]) ∧ Below w.heap.size w w' := by
  by_cases h : m < 1 ∨ 8 < m
  · exact refLoad_size p pc m F w h
  · obtain ⟨pb, po, rfl, hP⟩ := hG (by omega)
    exact refLoad_any pb po pc m F CA CC w hP h

/-- upshift.Load of what is lent. -/
theorem load_lent (b m : Nat) (F : Nat → PF) (w : World) (hL : LentTo w b m (m + 2) F) (hb : b + 1 + m ≤ w.heap.size) (ht : TabAt w) :
    Calls Tryz.prog 17 #[.slice (some ⟨b, 0, none⟩) m (m + 2)] w fun e w' =>
      ∃ v, e = .returned (.tuple #[v, .int .i64 (progP m F).1, .int .i64 (progP m F).2.1, .int .i64 (progP m F).2.2]) ∧ Below w.heap.size w w' ∧ (((progP m F).1 = 0 ∧ CodeIs w w' v m F) ∨ ((progP m F).1 ≠ 0 ∧ v = .pointer none)) := by
  by_cases h0 : (progP m F).1 = 0
  · obtain ⟨_, _, hR, _⟩ := progP_fine h0
    refine (load_fine b 0 (m + 2) m F _ _ w (hL.prog hb) ht h0).mono ?_
    rintro e w' ⟨v, rfl, hB, hC⟩
    refine ⟨v, ?_, hB, Or.inl ⟨h0, hC⟩⟩
    rw [hR]
  · have hcon : Calls Tryz.prog 34 #[.slice (some ⟨b, 0, none⟩) m (m + 2)] w fun e w' => e = .returned (.tuple #[.int .i64 (progP m F).1, .int .i64 (progP m F).2.1, .int .i64 (progP m F).2.2]) ∧ Below w.heap.size w w' := by
      by_cases h : m < 1 ∨ 8 < m
      · exact program_size _ _ m F w h
      · exact program_any b 0 (m + 2) m F _ _ w (hL.prog hb) h ht
    refine (load_bad _ _ m F w h0 hcon).mono ?_
    rintro e w' ⟨rfl, hB⟩
    exact ⟨_, rfl, hB, Or.inr ⟨h0, rfl⟩⟩

theorem CodeIs.stays {w w' w5 : World} {v : Value} {m : Nat} {F : Nat → PF} (h : CodeIs w w' v m F) (hz : w'.heap.size ≤ w5.heap.size) (hk : ∀ k, w.heap.size ≤ k → k < w'.heap.size → w5.heap[k]? = w'.heap[k]?) : CodeIs w w5 v m F := by
  obtain ⟨b, g, cap, hv, hb, hb2, hc, hg, hg2, hne, CA, CC, hj⟩ := h
  have hcell : ∀ k o, w.heap.size ≤ k → k < w'.heap.size → w5.cell? ⟨k, o, none⟩ = w'.cell? ⟨k, o, none⟩ := fun k o h1 h2 => World.cell?_of_block (hk k h1 h2)
  refine ⟨b, g, cap, hv, hb, by omega, (hcell b 0 hb hb2).trans hc, hg, by omega, hne, CA, CC, fun j hjm => ?_⟩
  obtain ⟨hf, cb, co, ec, hne2, hold⟩ := hj j hjm
  refine ⟨⟨(hcell g _ hg hg2).trans hf.args, (hcell g _ hg hg2).trans hf.locals, (hcell g _ hg hg2).trans hf.slice, fun h1 => ?_⟩, cb, co, ec, hne2, hold⟩
  obtain ⟨cb', co', e', hl, hcode⟩ := hf.code h1
  have e2 := e'
  rw [ec] at e2
  injection e2 with e2
  injection e2 with e3 e4
  subst e3
  subst e4
  refine ⟨cb, co, e', by omega, fun i hi => ?_⟩
  obtain ⟨c0, c1⟩ := hcode i hi
  exact ⟨(hcell cb _ (hold hjm) hl).trans c0, (hcell cb _ (hold hjm) hl).trans c1⟩
theorem CodeIs.elder {w0 w w' : World} {v : Value} {m : Nat} {F : Nat → PF} (h : CodeIs w w' v m F) (hz : w0.heap.size ≤ w.heap.size) : CodeIs w0 w' v m F := by
  obtain ⟨b, g, cap, hv, hb, hb2, hc, hg, hg2, hne, CA, CC, hj⟩ := h
  refine ⟨b, g, cap, hv, by omega, hb2, hc, by omega, hg2, hne, CA, CC, fun j hjm => ?_⟩
  obtain ⟨hf, cb, co, ec, hne2, hold⟩ := hj j hjm
  exact ⟨hf, cb, co, ec, hne2, fun hl => by have := hold hl; omega⟩

set_option maxRecDepth 100000 in
set_option maxHeartbeats 1000000 in
theorem loaded_any (p : Option Addr) (pc m : Nat) (F : Nat → PF) (CA : Nat → Option Addr) (CC : Nat → Nat) (w : World) (hG : Given w p m F CA CC) (hm : 40 * m ≤ 140737488355328) (hcn : ∀ k, k < m → 16 * (F k).cn ≤ 140737488355328) (ht : TabAt w) (hw : 0 < w.heap.size) :
    Calls Tryz.prog 52 #[.slice p m pc] w fun e w' =>
      ∃ v, e = .returned (.tuple #[v, .bool true]) ∧ Below w.heap.size w w' ∧ (((progP m F).1 = 0 ∧ CodeIs w w' v m F) ∨ ((progP m F).1 ≠ 0 ∧ v = .pointer none)) := by
  have HG := hid (And.intro hG (And.intro hcn ht))
  clear hG hcn ht
  go_enter Tryz.func52, Tryz.ntmps52
  go_wp2_with fail
  refine (lent_any p pc m F CA CC w HG.out.1 hm HG.out.2.1).mono ?_
  rintro e w1 ⟨rfl, hB1, hz1, hL1⟩
  have H1 := hid (And.intro hB1 (And.intro hz1 hL1))
  have hcon := load_lent w.heap.size m F w1 hL1 (by omega) (HG.out.2.2.below hB1 hw)
  have HC := hid hcon
  clear hB1 hz1 hL1 hcon
  have j0 : (0 : Int) ≤ (m : Int) := by omega
  have j1 : (m : Int) ≤ (m : Int) + 2 := by omega
  go_wp2_with fail
  refine HC.out.mono ?_
  rintro e w2 ⟨v, rfl, hB2, hv⟩
  obtain ⟨hB1, hz1, hL1⟩ := H1.out
  have hBw2 : Below w.heap.size w w2 := hB1.trans (hB2.mono hB1.size)
  have hL2 := hL1.below hB2 (by omega)
  have hz2 : w.heap.size + 1 + m ≤ w2.heap.size := by have := hB2.size; omega
  have hcon2 := refLoad_all p pc m F CA CC w2 (HG.out.1.below hBw2 (Nat.le_refl _))
  have HC2 := hid hcon2
  have H2 := hid (And.intro hBw2 (And.intro hL2 hz2))
  have Hv := hid hv
  have HZ1 := hid hz1
  clear hB1 hz1 hL1 hBw2 hL2 hz2 hcon2 hB2 hv HC H1
  generalize hR : progP m F = R at *
  have HR := hid hR
  clear hR
  go_wp2_with fail
  refine HC2.out.mono ?_
  rintro e w3 ⟨rfl, hB3⟩
  obtain ⟨hB2, hL2, hz2⟩ := H2.out
  have hBw3 : Below w.heap.size w w3 := hB2.trans (hB3.mono hB2.size)
  have hL3 := hL2.below hB3 (by omega)
  have hz3 : w.heap.size + 1 + m ≤ w3.heap.size := by have := hB3.size; omega
  have hcon3 := kept_any w.heap.size p pc m F CA CC w3 (HG.out.1.below hBw3 (Nat.le_refl _)) hL3 hz3 hm HG.out.2.1
  have HC3 := hid hcon3
  have H3 := hid (And.intro hBw3 (And.intro hL3 hz3))
  have HK3 := hid hB3
  clear hB2 hL2 hz2 hBw3 hL3 hz3 hcon3 hB3 HC2 H2
  go_wp2_with fail
  refine HC3.out.mono ?_
  rintro e w4 ⟨rfl, hB4⟩
  obtain ⟨hB3, hL3, hz3⟩ := H3.out
  have hBw4 : Below w.heap.size w w4 := hB3.trans (hB4.mono hB3.size)
  have hL4 := hL3.below hB4 (by omega)
  have hcon4 := spoil_any w.heap.size m F w4 hL4 hm HG.out.2.1
  have HC4 := hid hcon4
  have H4 := hid hBw4
  have HK4 : Hid (Below w2.heap.size w2 w4) := HK3.out.trans (hB4.mono HK3.out.size)
  clear hB3 hL3 hz3 hBw4 hL4 hcon4 hB4 HC3 H3
  go_wp2_with fail
  refine HC4.out.mono ?_
  rintro e w5 ⟨rfl, hB5⟩
  have H5 : Hid (Below w.heap.size w w5) := H4.out.trans hB5.low
  have HK5 : Hid (w2.heap.size ≤ w5.heap.size ∧ ∀ k, w1.heap.size ≤ k → k < w2.heap.size → w5.heap[k]? = w2.heap[k]?) := by
    have h1 := HK4.out.size
    have h2 := hB5.low.size
    refine ⟨by omega, fun k hk1 hk2 => ?_⟩
    rw [hB5.high k (by have := HZ1.out; omega)]
    exact HK4.out.block k hk2
  clear hB5 HC4 H4 HK4 HK3
  have e1 : (R.1 == R.1) = true := by simp
  have e2 : (R.2.1 == R.2.1) = true := by simp
  have e3 : (R.2.2 == R.2.2) = true := by simp
  rcases Hv.out with ⟨h0, hC⟩ | ⟨h0, rfl⟩
  · have HF := hid (And.intro h0 ((hC.stays HK5.out.1 HK5.out.2).elder (w0 := w) (by have := HZ1.out; omega)))
    obtain ⟨bc, g, cap, rfl, _⟩ := hC
    have e4 : (R.1 == 0) = true := by simpa using h0
    clear h0
    go_wp2_with (go_at_call 78; refine (num_any _ _).mono ?_; rintro e w' ⟨rfl, rfl⟩)
    go_ret2
    exact ⟨_, rfl, H5.out, Or.inl ⟨by rw [HR.out]; exact HF.out.1, HF.out.2⟩⟩
  · have e4 : (R.1 == 0) = false := by simpa using h0
    have e5 : (R.1 != 0) = true := by simpa using h0
    have HN := hid h0
    clear h0
    go_wp2_with (go_at_call 78; refine (num_any _ _).mono ?_; rintro e w' ⟨rfl, rfl⟩)
    go_ret2
    exact ⟨_, rfl, H5.out, Or.inr ⟨by rw [HR.out]; exact HN.out, rfl⟩⟩
end Go.Proofs.YtkafkipjedpohaaGreatDoor

/-
  upshiftlaw.small: the walk.
-/
namespace Go.Proofs.YtkafkipjedpohaaGreatDoor
open Go.RowKit

/-- The document's first example. -/
def smallF : PF := { args := 0, locals := 0, cn := 6, op := fun i => if i = 0 then 0 else if i = 1 then 0 else if i = 2 then 5 else if i = 3 then 19 else if i = 4 then 1 else 14, ar := fun i => if i = 0 then 2 else if i = 1 then 3 else 0 }

theorem small_fine : (progP 1 (fun _ => smallF)).1 = 0 := by decide +kernel

def smallI : Array Value := #[.int .i64 0, .int .i64 2, .int .i64 0, .int .i64 3, .int .i64 5, .int .i64 0, .int .i64 19, .int .i64 0, .int .i64 1, .int .i64 0, .int .i64 14, .int .i64 0]

theorem small_given (w : World) : Given ((w.alloc (.cells smallI 33)).alloc (.cells #[.int .i64 0, .int .i64 0, .slice (some ⟨w.heap.size, 0, none⟩) 6 6] 31)) (some ⟨w.heap.size + 1, 0, none⟩) 1 (fun _ => smallF) (fun _ => some ⟨w.heap.size, 0, none⟩) (fun _ => 6) := by
  intro _
  refine ⟨w.heap.size + 1, 0, rfl, by simp, fun k hk => ?_⟩
  obtain rfl : k = 0 := by omega
  have hB : Below (w.heap.size + 1) (w.alloc (.cells smallI 33)) ((w.alloc (.cells smallI 33)).alloc (.cells #[.int .i64 0, .int .i64 0, .slice (some ⟨w.heap.size, 0, none⟩) 6 6] 31)) := (Below.refl _ _).alloc (by simp) _
  refine ⟨cell_new _ _ _ _ _ (by simp), cell_new _ _ _ _ _ (by simp), cell_new _ _ _ _ _ (by simp), fun _ => ⟨w.heap.size, 0, rfl, by simp; omega, fun i hi => ?_⟩⟩
  rw [hB.cell (p := ⟨w.heap.size, _, none⟩) (by simp), hB.cell (p := ⟨w.heap.size, _, none⟩) (by simp), cell_new _ _ _ _ _ rfl, cell_new _ _ _ _ _ rfl]
  have : i = 0 ∨ i = 1 ∨ i = 2 ∨ i = 3 ∨ i = 4 ∨ i = 5 := by have : i < 6 := hi; omega
  rcases this with rfl | rfl | rfl | rfl | rfl | rfl <;> exact ⟨rfl, rfl⟩

set_option maxHeartbeats 400000 in
theorem small_any (w : World) : Calls Tryz.prog 37 #[] w fun e w' => ∃ p, e = .returned (.slice p 1 1) ∧ Below w.heap.size w w' ∧ Given w' p 1 (fun _ => smallF) (fun _ => some ⟨w.heap.size, 0, none⟩) (fun _ => 6) := by
  go_enter Tryz.func37, Tryz.ntmps37
  go_wp2
  go_ret
  exact ⟨_, rfl, ((Below.refl _ _).alloc (Nat.le_refl _) _).alloc (by simp) _, small_given w⟩
end Go.Proofs.YtkafkipjedpohaaGreatDoor
