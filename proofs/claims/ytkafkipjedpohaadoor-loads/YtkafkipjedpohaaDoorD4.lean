import Derived.Test.YtkafkipjedpohaaDoorD3

/-
  upshiftlaw.spoil: the walk.
-/
namespace Go.Proofs.YtkafkipjedpohaaDoor
open Go.RowKit

/-- What is lent while its owner writes over it: the slices stand. -/
structure Spl (w : World) (b m : Nat) (F : Nat → PF) : Prop where
  row : ∃ f, w.rowIs b 41 ((m + 2) * 3) f ∧ (∀ i, i < m → f (i * 3 + 2) = .slice (some ⟨b + 1 + i, 0, none⟩) (F i).cn ((F i).cn + 2)) ∧ (∀ i, m ≤ i → i < m + 2 → f (i * 3 + 2) = .slice none 0 0)
  code : ∀ i, i < m → ∃ g, w.rowIs (b + 1 + i) 38 (((F i).cn + 2) * 2) g

theorem LentTo.spl {w : World} {b m : Nat} {F : Nat → PF} (h : LentTo w b m (m + 2) F) : Spl w b m F := by
  refine ⟨⟨_, h.row, fun i hi => ?_, fun i hi hi2 => ?_⟩, fun i hi => ⟨_, h.code i hi (by omega)⟩⟩
  · unfold lcellTo lcell
    rw [if_pos (by omega), if_pos (by omega), if_neg (by omega), if_neg (by omega), show (i * 3 + 2) / 3 = i by omega]
  · unfold lcellTo lcell
    rw [if_pos (by omega), if_neg (by omega), if_neg (by omega), if_neg (by omega)]

theorem Spl.local {w : World} {b m : Nat} {F : Nat → PF} (h : Spl w b m F) (k : Nat) (v : Value) : Spl (w.setCell ⟨b, k * 3 + 1, none⟩ v) b m F := by
  obtain ⟨⟨f, hr, h1, h2⟩, hc⟩ := h
  refine ⟨⟨_, hr.set (k * 3 + 1) v, fun i hi => ?_, fun i hi hi2 => ?_⟩, fun i hi => ?_⟩
  · show (if i * 3 + 2 = k * 3 + 1 then v else f (i * 3 + 2)) = _
    rw [if_neg (by omega)]; exact h1 i hi
  · show (if i * 3 + 2 = k * 3 + 1 then v else f (i * 3 + 2)) = _
    rw [if_neg (by omega)]; exact h2 i hi hi2
  · obtain ⟨g, hg⟩ := hc i hi
    exact ⟨g, hg.setOther (by simp <;> omega) _⟩

theorem Spl.ins {w : World} {b m : Nat} {F : Nat → PF} (h : Spl w b m F) (k j : Nat) (u v : Value) : Spl ((w.setCell ⟨b + 1 + k, j, none⟩ u).setCell ⟨b + 1 + k, j + 1, none⟩ v) b m F := by
  obtain ⟨⟨f, hr, h1, h2⟩, hc⟩ := h
  refine ⟨⟨f, (hr.setOther (by simp <;> omega) _).setOther (by simp <;> omega) _, h1, h2⟩, fun i hi => ?_⟩
  obtain ⟨g, hg⟩ := hc i hi
  by_cases e : i = k
  · subst e; exact ⟨_, (hg.set j u).set (j + 1) v⟩
  · exact ⟨g, (hg.setOther (by simp <;> omega) _).setOther (by simp <;> omega) _⟩

/-- Between two worlds nothing turns but the blocks from b to c. -/
structure Bet (b c : Nat) (w w' : World) : Prop where
  low : Below b w w'
  high : ∀ k, c ≤ k → w'.heap[k]? = w.heap[k]?
theorem Bet.refl (b c : Nat) (w : World) : Bet b c w w := ⟨Below.refl _ _, fun _ _ => rfl⟩
theorem Bet.setCell {b c : Nat} {w w' : World} (h : Bet b c w w') {a : Addr} (hb : b ≤ a.block) (hc : a.block < c) (v : Value) : Bet b c w (w'.setCell a v) :=
  ⟨h.low.setCell hb v, fun k hk => (Below.heap_setCell _ _ _ _ (by omega)).trans (h.high k hk)⟩

set_option maxHeartbeats 1000000 in
theorem spoil_any (b m : Nat) (F : Nat → PF) (w : World) (hL : LentTo w b m (m + 2) F) (hm : 40 * m ≤ 140737488355328) (hcn : ∀ k, k < m → 16 * (F k).cn ≤ 140737488355328) :
    Calls Tryd.prog 10 #[.slice (some ⟨b, 0, none⟩) (m + 2) (m + 2)] w fun e w' => e = .returned (.tuple #[]) ∧ Bet b (b + 1 + m) w w' := by
  have HL := hid (And.intro hL.spl hcn)
  clear hL hcn
  go_enter Tryd.func10, Tryd.ntmps10
  go_wp2
  go_loopw [2] (fun v wr => ∃ k : Nat, k ≤ m + 2 ∧ v = .int .i64 k ∧ Bet b (b + 1 + m) w wr ∧ Spl wr b m F) (fun v _ => m + 2 - (intOf v).toNat)
  case atStart => exact ⟨0, Nat.zero_le _, rfl, Bet.refl _ _ _, HL.out.1⟩
  case round =>
    obtain ⟨k, hk, rfl, hB, hS⟩ := hrel
    by_cases hlt : k < m
    · have hcb := HL.out.2 k hlt
      have HS := hid (And.intro hB hS)
      clear hB hS
      go_wp2
      go_loopw [3] (fun v wz => ∃ j : Nat, j ≤ (F k).cn ∧ v = .int .i64 j ∧ Bet b (b + 1 + m) w wz ∧ Spl wz b m F) (fun v _ => (F k).cn - (intOf v).toNat)
      case atStart => exact ⟨0, Nat.zero_le _, rfl, HS.out⟩
      case round =>
        clear HS
        obtain ⟨j, hj, rfl, hB, hS⟩ := hrel
        have hS' := hS
        obtain ⟨⟨f, hr, h1, h2⟩, hc⟩ := hS'
        obtain ⟨g, hg⟩ := hc k hlt
        have c2 := hr.cell (i := k * 3 + 2) (by omega)
        rw [h1 k hlt] at c2
        have c1 := hr.cell (i := k * 3 + 1) (by omega)
        have f1 := hr.frozen (k * 3 + 1)
        generalize f (k * 3 + 1) = v1 at c1
        by_cases hlj : j < (F k).cn
        · have x0 := hg.cell (i := j * 2) (by omega)
          have x1 := hg.cell (i := j * 2 + 1) (by omega)
          have y0 := hg.frozen (j * 2)
          have y1 := hg.frozen (j * 2 + 1)
          generalize g (j * 2) = u0 at x0
          generalize g (j * 2 + 1) = u1 at x1
          have HS : Hid (Spl ((wr.setCell ⟨b + 1 + k, j * 2, none⟩ (.int .i64 (-9))).setCell ⟨b + 1 + k, j * 2 + 1, none⟩ (.int .i64 0)) b m F ∧ Bet b (b + 1 + m) w ((wr.setCell ⟨b + 1 + k, j * 2, none⟩ (.int .i64 (-9))).setCell ⟨b + 1 + k, j * 2 + 1, none⟩ (.int .i64 0))) :=
            ⟨hS.ins k (j * 2) _ _, (hB.setCell (by dsimp only; omega) (by dsimp only; omega) _).setCell (by dsimp only; omega) (by dsimp only; omega) _⟩
          clear hS hB hr hg h1 h2 hc c1 f1
          generalize (F k).cn = cn at *
          go_wp2
          go_roundw
          case rel => exact ⟨j + 1, by omega, by go_num, HS.out.2, HS.out.1⟩
          case measure => simp [intOf]; omega
        · have HS : Hid (Spl (wr.setCell ⟨b, k * 3 + 1, none⟩ (.int .i64 (-9))) b m F ∧ Bet b (b + 1 + m) w (wr.setCell ⟨b, k * 3 + 1, none⟩ (.int .i64 (-9)))) := ⟨hS.local k _, hB.setCell (Nat.le_refl _) (by dsimp only; omega) _⟩
          clear hS hB hr hg h1 h2 hc
          generalize (F k).cn = cn at *
          go_wp2
          go_roundw
          case rel => exact ⟨k + 1, by omega, by go_num, HS.out.2, HS.out.1⟩
          case measure => simp [intOf]; omega
    · by_cases hl2 : k < m + 2
      · have HS := hid (And.intro hB hS)
        clear hB hS
        go_wp2
        go_loopw [3] (fun v wz => v = .int .i64 0 ∧ Bet b (b + 1 + m) w wz ∧ Spl wz b m F) (fun _ _ => 0)
        case atStart => exact ⟨rfl, HS.out⟩
        case round =>
          clear HS
          obtain ⟨rfl, hB, hS⟩ := hrel
          have hS' := hS
          obtain ⟨⟨f, hr, h1, h2⟩, hc⟩ := hS'
          have c2 := hr.cell (i := k * 3 + 2) (by omega)
          rw [h2 k (by omega) hl2] at c2
          have c1 := hr.cell (i := k * 3 + 1) (by omega)
          have f1 := hr.frozen (k * 3 + 1)
          generalize f (k * 3 + 1) = v1 at c1
          have HS : Hid (Spl (wr.setCell ⟨b, k * 3 + 1, none⟩ (.int .i64 (-9))) b m F ∧ Bet b (b + 1 + m) w (wr.setCell ⟨b, k * 3 + 1, none⟩ (.int .i64 (-9)))) := ⟨hS.local k _, hB.setCell (Nat.le_refl _) (by dsimp only; omega) _⟩
          clear hS hB hr h1 h2 hc
          go_wp2
          go_roundw
          case rel => exact ⟨k + 1, by omega, by go_num, HS.out.2, HS.out.1⟩
          case measure => simp [intOf]; omega
      · have HS := hid hB
        clear hB hS
        go_wp2
        go_end0
        exact ⟨rfl, HS.out⟩
end Go.Proofs.YtkafkipjedpohaaDoor
