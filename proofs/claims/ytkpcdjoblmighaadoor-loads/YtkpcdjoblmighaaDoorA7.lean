/-
  The walk of check.Program.
-/
import Derived.Test.YtkpcdjoblmighaaDoorA6
namespace Go.Proofs.YtkpcdjoblmighaaDoor
open Go.RowKit

theorem function_any (pb po pc m k : Nat) (f : PF) (ca : Option Addr) (cc : Nat) (w : World) (hf : FunAt w pb po k f ca cc) (hk : k < m) (hm : m ≤ 8) (ht : TabAt w) (hw : 0 < w.heap.size) :
    Calls Tryd.prog 17 #[.slice (some ⟨pb, po, none⟩) m pc, .int .i64 k] w fun e w' =>
      e = .returned (.tuple #[.int .i64 (funP m k f).1, .int .i64 (funP m k f).2]) ∧ Below w.heap.size w w' := by
  cases hs : sizesP f
  · exact function_size pb po pc m k f ca cc w hf hk hs
  · by_cases h0 : k = 0 ∧ f.args ≠ 0
    · exact function_args pb po pc m k f ca cc w hf hk hs h0.1 h0.2
    · exact function_rest pb po pc m k f ca cc w hf hk hm hs h0 ht hw

/-- A program in memory: m functions from an address on. -/
structure ProgAt (w : World) (pb po m : Nat) (F : Nat → PF) (CA : Nat → Option Addr) (CC : Nat → Nat) : Prop where
  lt : pb < w.heap.size
  fn : ∀ k, k < m → FunAt w pb po k (F k) (CA k) (CC k)

theorem ProgAt.below {w w' : World} {B pb po m : Nat} {F : Nat → PF} {CA : Nat → Option Addr} {CC : Nat → Nat} (h : ProgAt w pb po m F CA CC) (b : Below B w w') (hB : w.heap.size ≤ B) : ProgAt w' pb po m F CA CC :=
  ⟨by have := b.size; have := h.lt; omega, fun k hk => (h.fn k hk).below b hB (by have := h.lt; omega)⟩

theorem progP_size {m : Nat} {F : Nat → PF} (h : m < 1 ∨ 8 < m) : progP m F = (1, 0, 0) := by unfold progP; rw [if_pos h]
theorem progP_bad {m : Nat} {F : Nat → PF} (h : ¬ (m < 1 ∨ 8 < m)) {k : Nat} (hk : k < m) (hb : (funP m k (F k)).1 ≠ 0) (hn : ∀ i, i < k → faultP m F i = false) : progP m F = ((funP m k (F k)).1, (k : Int), (funP m k (F k)).2) := by
  unfold progP; rw [if_neg h, leastP_eq _ _ _ hk (by simpa [faultP] using hb) hn, if_pos hk]
theorem progP_ok {m : Nat} {F : Nat → PF} (h : ¬ (m < 1 ∨ 8 < m)) (hn : ∀ i, i < m → faultP m F i = false) : progP m F = (0, 0, 0) := by
  unfold progP; rw [if_neg h, leastP_none _ _ hn, if_neg (by omega)]

set_option maxHeartbeats 1000000 in
theorem program_size (p : Option Addr) (pc m : Nat) (F : Nat → PF) (w : World) (h : m < 1 ∨ 8 < m) :
    Calls Tryd.prog 12 #[.slice p m pc] w fun e w' =>
      e = .returned (.tuple #[.int .i64 (progP m F).1, .int .i64 (progP m F).2.1, .int .i64 (progP m F).2.2]) ∧ Below w.heap.size w w' := by
  rw [progP_size h]
  have hd : decide (1 ≤ (m : Int) ∧ (m : Int) ≤ 8) = false := by simp; omega
  have HD := hid hd
  clear hd h
  go_enter Tryd.func12, Tryd.ntmps12
  go_wp2_with fail
  refine (within_any _ _ _ _).mono ?_
  rintro e w' ⟨rfl, rfl⟩
  rw [HD.out]
  clear HD
  go_wp2
  go_ret3
  exact ⟨rfl, Below.refl _ _⟩

set_option maxHeartbeats 1000000 in
theorem program_any (pb po pc m : Nat) (F : Nat → PF) (CA : Nat → Option Addr) (CC : Nat → Nat) (w : World) (hP : ProgAt w pb po m F CA CC) (h : ¬ (m < 1 ∨ 8 < m)) (ht : TabAt w) :
    Calls Tryd.prog 12 #[.slice (some ⟨pb, po, none⟩) m pc] w fun e w' =>
      e = .returned (.tuple #[.int .i64 (progP m F).1, .int .i64 (progP m F).2.1, .int .i64 (progP m F).2.2]) ∧ Below w.heap.size w w' := by
  have hd : decide (1 ≤ (m : Int) ∧ (m : Int) ≤ 8) = true := by simp; omega
  have HD := hid hd
  have HX : Hid (ProgAt w pb po m F CA CC ∧ TabAt w ∧ ¬ (m < 1 ∨ 8 < m)) := ⟨hP, ht, h⟩
  have hw : 0 < w.heap.size := by have := hP.lt; omega
  have hm : m ≤ 8 := by omega
  clear hd h hP ht
  generalize hR : progP m F = R
  have HR := hid hR
  clear hR
  go_enter Tryd.func12, Tryd.ntmps12
  go_wp2_with fail
  refine (within_any _ _ _ _).mono ?_
  rintro e w1 ⟨rfl, hw1⟩
  rw [hw1]
  clear hw1 w1
  rw [HD.out]
  clear HD
  go_wp2
  go_loopw [14] (fun v wr => ∃ k : Nat, k ≤ m ∧ v = .int .i64 k ∧ (∀ i, i < k → faultP m F i = false) ∧ Below w.heap.size w wr) (fun v _ => m - (intOf v).toNat)
  case atStart => exact ⟨0, Nat.zero_le _, rfl, fun i hi => by omega, Below.refl _ _⟩
  case round =>
    obtain ⟨k, hk, rfl, hno, hB⟩ := hrel
    by_cases hlt : k < m
    · have hcon := function_any pb po pc m k (F k) (CA k) (CC k) wr (((HX.out.1).below hB (Nat.le_refl _)).fn k hlt) hlt hm (HX.out.2.1.below hB hw) (by have := hB.size; omega)
      have hbad := fun h1 => progP_bad (m := m) (F := F) HX.out.2.2 hlt h1 hno
      rcases hfp : funP m k (F k) with ⟨er, at'⟩
      rw [hfp] at hcon hbad
      simp only at hcon hbad
      have HC := hid hcon
      have HN : Hid ((∀ i, i < k → faultP m F i = false) ∧ Below w.heap.size w wr ∧ funP m k (F k) = (er, at') ∧ (er ≠ 0 → progP m F = (er, (k : Int), at'))) := ⟨hno, hB, hfp, hbad⟩
      have hsz := hB.size
      clear hcon hno hB hfp hbad
      go_wp2_with fail
      refine HC.out.mono ?_
      rintro e w2 ⟨rfl, hB2⟩
      have HB2 : Hid (Below w.heap.size w w2) := HN.out.2.1.trans (hB2.mono hsz)
      clear hB2 HC
      by_cases her : er = 0
      · subst her
        have HY : Hid (∀ i, i < k + 1 → faultP m F i = false) := fun i hi => by
          by_cases e : i = k
          · subst e; unfold faultP; rw [HN.out.2.2.1]; simp
          · exact HN.out.1 i (by omega)
        go_wp2
        go_roundw
        case rel => exact ⟨k + 1, by omega, by go_num, HY.out, HB2.out⟩
        case measure => simp [intOf]; omega
      · have hb : (er != 0) = true := by simpa using her
        have HY : Hid (R = (er, (k : Int), at')) := by unfold Hid; rw [← HR.out]; exact HN.out.2.2.2 her
        clear her
        go_wp2
        go_ret3
        rw [HY.out]
        exact ⟨rfl, HB2.out⟩
    · obtain rfl : k = m := by omega
      have HY : Hid (R = (0, 0, 0)) := by unfold Hid; rw [← HR.out]; exact progP_ok HX.out.2.2 hno
      have HB2 := hid hB
      clear hno hB
      go_wp2
      go_ret3
      rw [HY.out]
      exact ⟨rfl, HB2.out⟩
end Go.Proofs.YtkpcdjoblmighaaDoor
