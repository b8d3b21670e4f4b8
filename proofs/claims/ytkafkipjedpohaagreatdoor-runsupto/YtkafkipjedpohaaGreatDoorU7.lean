import Derived.Test.YtkafkipjedpohaaGreatDoorU3

/-
  upshiftlaw's Hold.still: the walk.
-/
namespace Go.Proofs.YtkafkipjedpohaaGreatDoor
open Go.RowKit

theorem tdiv4 (i : Nat) : Int.tdiv (i : Int) 4 = ((i / 4 : Nat) : Int) := rfl
theorem neqMark (k : Int) (X : World) : (binOp .neq 43 (.agg #[.int .i64 k, .int .i64 0]) (.agg #[.int .i64 k, .int .i64 0])).run Tryz.prog X = .ok (.bool false) X := by
  have e1 : (k == k) = true := by simp
  go_simp

/-- A list that is held, as it is read. -/
theorem HoldAt.look {w wr : World} {B wb : Nat} {A : AdH} {Kd : Nat → Prop} {n : Nat → Nat} (h : HoldAt w B wb A Kd n) (hB : Below w.heap.size w wr) (k : Nat) (hk : k < 4) (i : Nat) (hi : i < n k) :
    ∃ rb rcap p m cap, A.hv k = .slice (some ⟨rb, 0, none⟩) (n k) rcap ∧ wr.cell? ⟨rb, i, none⟩ = some (.slice p m cap) ∧ m ≤ 200003 ∧ (0 < m → ∃ b, p = some ⟨b, 0, none⟩ ∧ ∀ wz, Below w.heap.size w wz → ∀ j, j < m * hsz k → wz.cell? ⟨b, j, none⟩ = some (hmark A.XB k (i / 4) (j % hsz k))) ∧ ∀ wz, Below w.heap.size w wz → wz.cell? ⟨rb, i, none⟩ = some (.slice p m cap) := by
  have hr := h.row k hk
  obtain ⟨rb, rcap, e, hb, hz, ht, _⟩ := hr.form (by omega)
  rw [e] at hr
  have hc := hr.cell (i := i) (by omega)
  obtain ⟨p, m, cap, hv, hm, hf⟩ := h.ent k hk i hi
  rw [hv] at hc
  refine ⟨rb, rcap, p, m, cap, e, (hB.cell (p := ⟨rb, i, none⟩) hz).trans hc, hm, fun h0 => ?_, fun wz hw => (hw.cell (p := ⟨rb, i, none⟩) hz).trans hc⟩
  obtain ⟨b, e2, _, _, hbz, hcs⟩ := hf h0
  exact ⟨b, e2, fun wz hw j hj => (hw.cell (p := ⟨b, j, none⟩) hbz).trans (hcs j hj)⟩
theorem HoldAt.fld {w wr : World} {B wb : Nat} {A : AdH} {Kd : Nat → Prop} {n : Nat → Nat} (h : HoldAt w B wb A Kd n) (hB : Below w.heap.size w wr) (k : Nat) (hk : k < 4) : ∃ p cap, A.hv k = .slice p (n k) cap ∧ wr.cell? ⟨wb, 2 + k, none⟩ = some (.slice p (n k) cap) := by
  have hr := h.row k hk
  obtain ⟨p, cap, e⟩ : ∃ p cap, A.hv k = .slice p (n k) cap := by
    rcases hr with ⟨h1, h2⟩ | ⟨b, cap, cur, h1, _⟩
    · exact ⟨none, 0, by rw [h1, h2]⟩
    · exact ⟨_, _, h1⟩
  refine ⟨p, cap, e, ?_⟩
  rw [hB.cell (p := ⟨wb, 2 + k, none⟩) (heap_lt h.blk), cell_heap h.blk, ← e]
  have : k = 0 ∨ k = 1 ∨ k = 2 ∨ k = 3 := by omega
  rcases this with rfl | rfl | rfl | rfl <;> rfl

set_option maxRecDepth 100000 in
set_option maxHeartbeats 4000000 in
theorem still_any (w : World) (B wb : Nat) (A : AdH) (Kd : Nat → Prop) (n : Nat → Nat) (h : HoldAt w B wb A Kd n) (hn : ∀ k, k < 4 → n k ≤ 5000000000000) :
    Calls Tryz.prog 39 #[.pointer (some ⟨wb, 2, none⟩)] w fun e w' => e = .returned (.bool true) ∧ Below w.heap.size w w' := by
  have HX := hid h
  have b0 := hn 0 (by omega)
  have b1 := hn 1 (by omega)
  have b2 := hn 2 (by omega)
  have b3 := hn 3 (by omega)
  generalize h0 : n 0 = n0 at *
  generalize h1 : n 1 = n1 at *
  generalize h2 : n 2 = n2 at *
  generalize h3 : n 3 = n3 at *
  have HE := hid (And.intro h0 (And.intro h1 (And.intro h2 h3)))
  clear h h0 h1 h2 h3 hn
  go_enter Tryz.func39, Tryz.ntmps39
  go_wp2
  go_loopw [3] (fun v wr => ∃ i : Nat, i ≤ n0 ∧ v = .int .i64 i ∧ Below w.heap.size w wr) (fun v _ => n0 - (intOf v).toNat)
  case atStart => exact ⟨0, Nat.zero_le _, rfl, Below.refl _ _⟩
  case round =>
    obtain ⟨i, hi, rfl, hB⟩ := hrel
    obtain ⟨p0, c0, ev, f0⟩ := HX.out.fld hB 0 (by omega)
    rw [HE.out.1] at ev f0
    simp only [Nat.add_zero] at f0
    by_cases hlt : i < n0
    · have hd : decide ((i : Int) < (n0 : Int)) = true := by simp; omega
      obtain ⟨rb, rcap, p, m, cap, e1, y0, hm, hcs, hyz⟩ := HX.out.look hB 0 (by omega) i (by rw [HE.out.1]; exact hlt)
      rw [ev, HE.out.1] at e1
      injection e1 with e1 _ e3
      subst e1
      subst e3
      have HB := hid hB
      have HC := hid (And.intro hcs hyz)
      have HF := hid (fun wz (hz : Below w.heap.size w wz) => HX.out.fld hz 0 (by omega))
      clear hB hcs hyz
      go_wp2
      clear y0 f0
      go_loopw [4] (fun v wz => ∃ k : Nat, k ≤ m ∧ v = .int .i64 k ∧ Below w.heap.size w wz) (fun v _ => m - (intOf v).toNat)
      case atStart => exact ⟨0, Nat.zero_le _, rfl, HB.out⟩
      case round =>
        clear HB
        obtain ⟨k, hk, rfl, hB⟩ := hrel
        obtain ⟨p0', c0', ev', f0⟩ := HF.out _ hB
        rw [HE.out.1] at ev' f0
        rw [ev] at ev'
        injection ev' with e1 _ e3
        subst e1
        subst e3
        simp only [Nat.add_zero] at f0
        have y0 := HC.out.2 _ hB
        by_cases hltk : k < m
        · have hdk : decide ((k : Int) < (m : Int)) = true := by simp; omega
          obtain ⟨b, rfl, hcs⟩ := HC.out.1 (by omega)
          have x0 := hcs _ hB (k * 2) (by show k * 2 < m * 2; omega)
          have x1 := hcs _ hB (k * 2 + 1) (by show k * 2 + 1 < m * 2; omega)
          rw [show hmark A.XB 0 (i / 4) (k * 2 % hsz 0) = .int .i64 (-1000 - ((i / 4 : Nat) : Int)) by show vmark (i / 4) (k * 2 % 2) = _; rw [show k * 2 % 2 = 0 by omega]; rfl] at x0
          rw [show hmark A.XB 0 (i / 4) ((k * 2 + 1) % hsz 0) = .int .i64 0 by show vmark (i / 4) ((k * 2 + 1) % 2) = _; rw [show (k * 2 + 1) % 2 = 1 by omega]; rfl] at x1
          have e4 := tdiv4 i
          have hqd : i / 4 ≤ 5000000000000 := by omega
          generalize i / 4 = qd at *
          have e5 : wrap64 (-1000 - (qd : Int)) = -1000 - (qd : Int) := by unfold wrap64; omega
          have hne := neqMark (-1000 - (qd : Int))
          have HB := hid hB
          clear hB hcs
          go_wp2
          exact ⟨⟨k + 1, by omega, by go_num, HB.out⟩, by simp [intOf]; omega⟩
        · have hdk : decide ((k : Int) < (m : Int)) = false := by simp; omega
          have HB := hid hB
          clear hB
          go_wp2
          exact ⟨⟨i + 1, by omega, by go_num, HB.out⟩, by simp [intOf]; omega⟩
    · have hd : decide ((i : Int) < (n0 : Int)) = false := by simp; omega
      have HB := hid hB
      clear hB
      go_wp2
      clear f0
      go_loopw [5] (fun v wr => ∃ i : Nat, i ≤ n3 ∧ v = .int .i64 i ∧ Below w.heap.size w wr) (fun v _ => n3 - (intOf v).toNat)
      case atStart => exact ⟨0, Nat.zero_le _, rfl, HB.out⟩
      case round =>
        clear HB
        obtain ⟨i, hi, rfl, hB⟩ := hrel
        obtain ⟨p0, c0, ev, f0⟩ := HX.out.fld hB 3 (by omega)
        rw [HE.out.2.2.2] at ev f0
        change _ = some _ at f0
        have f5 : wr.cell? ⟨wb, 5, none⟩ = some (.slice p0 n3 c0) := f0
        clear f0
        by_cases hlt : i < n3
        · have hd : decide ((i : Int) < (n3 : Int)) = true := by simp; omega
          obtain ⟨rb, rcap, p, m, cap, e1, y0, hm, hcs, hyz⟩ := HX.out.look hB 3 (by omega) i (by rw [HE.out.2.2.2]; exact hlt)
          rw [ev, HE.out.2.2.2] at e1
          injection e1 with e1 _ e3
          subst e1
          subst e3
          have HB := hid hB
          have HC := hid (And.intro hcs hyz)
          have HF := hid (fun wz (hz : Below w.heap.size w wz) => HX.out.fld hz 3 (by omega))
          clear hB hcs hyz
          go_wp2
          clear y0 f5
          go_loopw [6] (fun v wz => ∃ k : Nat, k ≤ m ∧ v = .int .i64 k ∧ Below w.heap.size w wz) (fun v _ => m - (intOf v).toNat)
          case atStart => exact ⟨0, Nat.zero_le _, rfl, HB.out⟩
          case round =>
            clear HB
            obtain ⟨k, hk, rfl, hB⟩ := hrel
            obtain ⟨p0', c0', ev', f0⟩ := HF.out _ hB
            rw [HE.out.2.2.2] at ev' f0
            rw [ev] at ev'
            injection ev' with e1 _ e3
            subst e1
            subst e3
            have f5 : wr.cell? ⟨wb, 5, none⟩ = some (.slice (some ⟨rb, 0, none⟩) n3 c0) := f0
            clear f0
            have y0 := HC.out.2 _ hB
            by_cases hltk : k < m
            · have hdk : decide ((k : Int) < (m : Int)) = true := by simp; omega
              obtain ⟨b, rfl, hcs⟩ := HC.out.1 (by omega)
              have x0 : wr.cell? ⟨b, k, none⟩ = some (.int .i64 (-1000 - ((i / 4 : Nat) : Int))) := hcs _ hB k (by show k < m * 1; omega)
              have e4 := tdiv4 i
              have hqd : i / 4 ≤ 5000000000000 := by omega
              generalize i / 4 = qd at *
              have e5 : wrap64 (-1000 - (qd : Int)) = -1000 - (qd : Int) := by unfold wrap64; omega
              have hne : ((-1000 - (qd : Int)) != (-1000 - (qd : Int))) = false := by simp
              have HB := hid hB
              clear hB hcs
              go_wp2
              exact ⟨⟨k + 1, by omega, by go_num, HB.out⟩, by simp [intOf]; omega⟩
            · have hdk : decide ((k : Int) < (m : Int)) = false := by simp; omega
              have HB := hid hB
              clear hB
              go_wp2
              exact ⟨⟨i + 1, by omega, by go_num, HB.out⟩, by simp [intOf]; omega⟩
        · have hd : decide ((i : Int) < (n3 : Int)) = false := by simp; omega
          have HB := hid hB
          clear hB
          go_wp2
          clear f5
          go_loopw [7] (fun v wr => ∃ i : Nat, i ≤ n1 ∧ v = .int .i64 i ∧ Below w.heap.size w wr) (fun v _ => n1 - (intOf v).toNat)
          case atStart => exact ⟨0, Nat.zero_le _, rfl, HB.out⟩
          case round =>
            clear HB
            obtain ⟨i, hi, rfl, hB⟩ := hrel
            obtain ⟨p0, c0, ev, f0⟩ := HX.out.fld hB 1 (by omega)
            rw [HE.out.2.1] at ev f0
            have f3 : wr.cell? ⟨wb, 3, none⟩ = some (.slice p0 n1 c0) := f0
            clear f0
            by_cases hlt : i < n1
            · have hd : decide ((i : Int) < (n1 : Int)) = true := by simp; omega
              obtain ⟨rb, rcap, p, m, cap, e1, y0, hm, hcs, hyz⟩ := HX.out.look hB 1 (by omega) i (by rw [HE.out.2.1]; exact hlt)
              rw [ev, HE.out.2.1] at e1
              injection e1 with e1 _ e3
              subst e1
              subst e3
              have HB := hid hB
              have HC := hid (And.intro hcs hyz)
              have HF := hid (fun wz (hz : Below w.heap.size w wz) => HX.out.fld hz 1 (by omega))
              clear hB hcs hyz
              go_wp2
              clear y0 f3
              go_loopw [8] (fun v wz => ∃ k : Nat, k ≤ m ∧ v = .int .i64 k ∧ Below w.heap.size w wz) (fun v _ => m - (intOf v).toNat)
              case atStart => exact ⟨0, Nat.zero_le _, rfl, HB.out⟩
              case round =>
                clear HB
                obtain ⟨k, hk, rfl, hB⟩ := hrel
                obtain ⟨p0', c0', ev', f0⟩ := HF.out _ hB
                rw [HE.out.2.1] at ev' f0
                rw [ev] at ev'
                injection ev' with e1 _ e3
                subst e1
                subst e3
                have f3 : wr.cell? ⟨wb, 3, none⟩ = some (.slice (some ⟨rb, 0, none⟩) n1 c0) := f0
                clear f0
                have y0 := HC.out.2 _ hB
                by_cases hltk : k < m
                · have hdk : decide ((k : Int) < (m : Int)) = true := by simp; omega
                  obtain ⟨b, rfl, hcs⟩ := HC.out.1 (by omega)
                  have x0 := hcs _ hB (k * 4) (by show k * 4 < m * 4; omega)
                  have x1 := hcs _ hB (k * 4 + 1) (by show k * 4 + 1 < m * 4; omega)
                  have x2 := hcs _ hB (k * 4 + 2) (by show k * 4 + 2 < m * 4; omega)
                  have x3 := hcs _ hB (k * 4 + 3) (by show k * 4 + 3 < m * 4; omega)
                  rw [show hmark A.XB 1 (i / 4) (k * 4 % hsz 1) = .int .i64 (-1000 - ((i / 4 : Nat) : Int)) by show fmark (i / 4) (k * 4 % 4) = _; rw [show k * 4 % 4 = 0 by omega]; rfl] at x0
                  rw [show hmark A.XB 1 (i / 4) ((k * 4 + 1) % hsz 1) = .int .i64 0 by show fmark (i / 4) ((k * 4 + 1) % 4) = _; rw [show (k * 4 + 1) % 4 = 1 by omega]; rfl] at x1
                  rw [show hmark A.XB 1 (i / 4) ((k * 4 + 2) % hsz 1) = .slice none 0 0 by show fmark (i / 4) ((k * 4 + 2) % 4) = _; rw [show (k * 4 + 2) % 4 = 2 by omega]; rfl] at x2
                  rw [show hmark A.XB 1 (i / 4) ((k * 4 + 3) % hsz 1) = .slice none 0 0 by show fmark (i / 4) ((k * 4 + 3) % 4) = _; rw [show (k * 4 + 3) % 4 = 3 by omega]; rfl] at x3
                  have e4 := tdiv4 i
                  have hqd : i / 4 ≤ 5000000000000 := by omega
                  generalize i / 4 = qd at *
                  have e5 : wrap64 (-1000 - (qd : Int)) = -1000 - (qd : Int) := by unfold wrap64; omega
                  have hne : ((-1000 - (qd : Int)) != (-1000 - (qd : Int))) = false := by simp
                  have HB := hid (hB.alloc hB.size (.cells #[.int .i64 (-1000 - (qd : Int)), .int .i64 0, .slice none 0 0, .slice none 0 0] 73))
                  clear hB hcs
                  go_wp2
                  exact ⟨⟨k + 1, by omega, by go_num, HB.out⟩, by simp [intOf]; omega⟩
                · have hdk : decide ((k : Int) < (m : Int)) = false := by simp; omega
                  have HB := hid hB
                  clear hB
                  go_wp2
                  exact ⟨⟨i + 1, by omega, by go_num, HB.out⟩, by simp [intOf]; omega⟩
            · have hd : decide ((i : Int) < (n1 : Int)) = false := by simp; omega
              have HB := hid hB
              clear hB
              go_wp2
              clear f3
              go_loopw [10] (fun v wr => ∃ i : Nat, i ≤ n2 ∧ v = .int .i64 i ∧ Below w.heap.size w wr) (fun v _ => n2 - (intOf v).toNat)
              case atStart => exact ⟨0, Nat.zero_le _, rfl, HB.out⟩
              case round =>
                clear HB
                obtain ⟨i, hi, rfl, hB⟩ := hrel
                obtain ⟨p0, c0, ev, f0⟩ := HX.out.fld hB 2 (by omega)
                rw [HE.out.2.2.1] at ev f0
                have f4 : wr.cell? ⟨wb, 4, none⟩ = some (.slice p0 n2 c0) := f0
                clear f0
                by_cases hlt : i < n2
                · have hd : decide ((i : Int) < (n2 : Int)) = true := by simp; omega
                  obtain ⟨rb, rcap, p, m, cap, e1, y0, hm, hcs, hyz⟩ := HX.out.look hB 2 (by omega) i (by rw [HE.out.2.2.1]; exact hlt)
                  rw [ev, HE.out.2.2.1] at e1
                  injection e1 with e1 _ e3
                  subst e1
                  subst e3
                  have HXX := hid (HX.out.ex i (by rw [HE.out.2.2.1]; exact hlt))
                  have HB := hid hB
                  have HC := hid (And.intro hcs hyz)
                  have HF := hid (fun wz (hz : Below w.heap.size w wz) => HX.out.fld hz 2 (by omega))
                  clear hB hcs hyz
                  go_wp2
                  clear y0 f4
                  go_loopw [11] (fun v wz => ∃ k : Nat, k ≤ m ∧ v = .int .i64 k ∧ Below w.heap.size w wz) (fun v _ => m - (intOf v).toNat)
                  case atStart => exact ⟨0, Nat.zero_le _, rfl, HB.out⟩
                  case round =>
                    clear HB
                    obtain ⟨k, hk, rfl, hB⟩ := hrel
                    obtain ⟨p0', c0', ev', f0⟩ := HF.out _ hB
                    rw [HE.out.2.2.1] at ev' f0
                    rw [ev] at ev'
                    injection ev' with e1 _ e3
                    subst e1
                    subst e3
                    have f4 : wr.cell? ⟨wb, 4, none⟩ = some (.slice (some ⟨rb, 0, none⟩) n2 c0) := f0
                    clear f0
                    have y0 := HC.out.2 _ hB
                    by_cases hltk : k < m
                    · have hdk : decide ((k : Int) < (m : Int)) = true := by simp; omega
                      obtain ⟨b, rfl, hcs⟩ := HC.out.1 (by omega)
                      have x0 : wr.cell? ⟨b, k, none⟩ = some (.slice (some ⟨A.XB (i / 4), 0, none⟩) 1 1) := hcs _ hB k (by show k < m * 1; omega)
                      obtain ⟨hz1, _, _, q0, q1⟩ := HXX.out
                      have x1 : wr.cell? ⟨A.XB (i / 4), 0, none⟩ = some (.int .i64 (-1000 - ((i / 4 : Nat) : Int))) := (hB.cell (p := ⟨A.XB (i / 4), 0, none⟩) hz1).trans q0
                      have x2 : wr.cell? ⟨A.XB (i / 4), 1, none⟩ = some (.int .i64 0) := (hB.cell (p := ⟨A.XB (i / 4), 1, none⟩) hz1).trans q1
                      clear hz1 q0 q1
                      generalize A.XB (i / 4) = xb at *
                      have e4 := tdiv4 i
                      have hqd : i / 4 ≤ 5000000000000 := by omega
                      generalize i / 4 = qd at *
                      have e5 : wrap64 (-1000 - (qd : Int)) = -1000 - (qd : Int) := by unfold wrap64; omega
                      have hne := neqMark (-1000 - (qd : Int))
                      have HB := hid hB
                      clear hB hcs
                      go_wp2
                      exact ⟨⟨k + 1, by omega, by go_num, HB.out⟩, by simp [intOf]; omega⟩
                    · have hdk : decide ((k : Int) < (m : Int)) = false := by simp; omega
                      have HB := hid hB
                      clear hB
                      go_wp2
                      exact ⟨⟨i + 1, by omega, by go_num, HB.out⟩, by simp [intOf]; omega⟩
                · have hd : decide ((i : Int) < (n2 : Int)) = false := by simp; omega
                  have HB := hid hB
                  clear hB
                  go_wp2
                  go_ret
                  exact ⟨rfl, HB.out⟩
end Go.Proofs.YtkafkipjedpohaaGreatDoor
