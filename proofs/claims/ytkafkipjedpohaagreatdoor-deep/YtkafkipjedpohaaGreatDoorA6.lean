import Derived.Test.YtkafkipjedpohaaGreatDoorA5
import Derived.Deep.AppendSrc

/-
  The walks of check.function and check.Program.
-/
namespace Go.Proofs.YtkafkipjedpohaaGreatDoor
open Go.RowKit

/-- A function's three cells, and its instructions. -/
structure FunAt (w : World) (pb po k : Nat) (f : PF) (ca : Option Addr) (cc : Nat) : Prop where
  args : w.cell? ⟨pb, po + k * 3, none⟩ = some (.int .i64 f.args)
  locals : w.cell? ⟨pb, po + k * 3 + 1, none⟩ = some (.int .i64 f.locals)
  slice : w.cell? ⟨pb, po + k * 3 + 2, none⟩ = some (.slice ca f.cn cc)
  code : 1 ≤ f.cn → ∃ cb co, ca = some ⟨cb, co, none⟩ ∧ cb < w.heap.size ∧ CodeAt w cb co f.cn f.op f.ar

theorem FunAt.below {w w' : World} {B pb po k cc : Nat} {f : PF} {ca : Option Addr} (h : FunAt w pb po k f ca cc) (b : Below B w w') (hB : w.heap.size ≤ B) (hpb : pb < B) : FunAt w' pb po k f ca cc :=
  ⟨(b.cell (p := ⟨pb, _, none⟩) hpb).trans h.args, (b.cell (p := ⟨pb, _, none⟩) hpb).trans h.locals, (b.cell (p := ⟨pb, _, none⟩) hpb).trans h.slice,
    fun h1 => by
      obtain ⟨cb, co, e, hl, hc⟩ := h.code h1
      exact ⟨cb, co, e, by have := b.size; omega, hc.below b (by omega)⟩⟩

theorem funP_size {m k : Nat} {f : PF} (h : sizesP f = false ∨ (k = 0 ∧ f.args ≠ 0)) : funP m k f = (1, 0) := by unfold funP; rw [if_pos h]
theorem funP_bad {m k : Nat} {f : PF} (h : ¬ (sizesP f = false ∨ (k = 0 ∧ f.args ≠ 0))) {j : Nat} (hj : j < f.cn) (hb : badP m f j = true) (hn : ∀ i, i < j → badP m f i = false) : funP m k f = (2, (j : Int)) := by
  unfold funP; rw [if_neg h, leastP_eq _ _ _ hj hb hn, if_pos hj]
theorem funP_flow {m k : Nat} {f : PF} (h : ¬ (sizesP f = false ∨ (k = 0 ∧ f.args ≠ 0))) (hn : ∀ i, i < f.cn → badP m f i = false) : funP m k f = flowP f.cn f.op f.ar (f.cn + 1) s0 := by
  unfold funP; rw [if_neg h, leastP_none _ _ hn, if_neg (by omega)]

set_option maxHeartbeats 1000000 in
theorem function_size (pb po pc m k : Nat) (f : PF) (ca : Option Addr) (cc : Nat) (w : World) (hf : FunAt w pb po k f ca cc) (hk : k < m) (hs : sizesP f = false) :
    Calls Tryz.prog 49 #[.slice (some ⟨pb, po, none⟩) m pc, .int .i64 k] w fun e w' =>
      e = .returned (.tuple #[.int .i64 (funP m k f).1, .int .i64 (funP m k f).2]) ∧ Below w.heap.size w w' := by
  obtain ⟨c0, c1, c2, _⟩ := hf
  rw [funP_size (Or.inl hs)]
  unfold sizesP at hs
  have HS := hid hs
  clear hs
  generalize f.args = ag at *
  generalize f.locals = lc at *
  generalize f.cn = cn at *
  go_enter Tryz.func49, Tryz.ntmps49
  go_wp2_with fail
  refine (sizesFit_any _ _ _ _ _ _).mono ?_
  rintro e w2 ⟨rfl, hB⟩
  rw [HS.out]
  clear HS
  have HB2 := hid hB
  clear hB
  go_wp2
  go_ret2
  exact ⟨rfl, ((Below.refl _ _).alloc (Nat.le_refl _) _).trans (HB2.out.mono (by simp))⟩

set_option maxHeartbeats 1000000 in
theorem function_args (pb po pc m k : Nat) (f : PF) (ca : Option Addr) (cc : Nat) (w : World) (hf : FunAt w pb po k f ca cc) (hk : k < m) (hs : sizesP f = true) (h0 : k = 0) (ha : f.args ≠ 0) :
    Calls Tryz.prog 49 #[.slice (some ⟨pb, po, none⟩) m pc, .int .i64 k] w fun e w' =>
      e = .returned (.tuple #[.int .i64 (funP m k f).1, .int .i64 (funP m k f).2]) ∧ Below w.heap.size w w' := by
  obtain ⟨c0, c1, c2, _⟩ := hf
  rw [funP_size (Or.inr ⟨h0, ha⟩)]
  unfold sizesP at hs
  have HS := hid hs
  have hb : (f.args != 0) = true := by simpa using ha
  have hk0 : ((k : Int) == 0) = true := by simpa using h0
  clear hs ha h0
  generalize f.args = ag at *
  generalize f.locals = lc at *
  generalize f.cn = cn at *
  go_enter Tryz.func49, Tryz.ntmps49
  go_wp2_with fail
  refine (sizesFit_any _ _ _ _ _ _).mono ?_
  rintro e w2 ⟨rfl, hB⟩
  rw [HS.out]
  clear HS
  have HB2 := hid hB
  have d0 : w2.cell? ⟨w.heap.size, 0, none⟩ = some (.int .i64 ag) := (hB.cell (p := ⟨w.heap.size, 0, none⟩) (by simp)).trans (by simp)
  clear hB
  go_wp2
  go_ret2
  exact ⟨rfl, ((Below.refl _ _).alloc (Nat.le_refl _) _).trans (HB2.out.mono (by simp))⟩

theorem bad_of_legal {m : Nat} {f : PF} {j : Nat} (h : badP m f j = false) : legalP (f.op j) (f.ar j) f.locals f.cn m = true := by simpa [badP] using h

set_option maxHeartbeats 2000000 in
theorem function_rest (pb po pc m k : Nat) (f : PF) (ca : Option Addr) (cc : Nat) (w : World) (hf : FunAt w pb po k f ca cc) (hk : k < m) (_hm : m ≤ 8) (hs : sizesP f = true) (h0 : ¬ (k = 0 ∧ f.args ≠ 0)) (ht : TabAt w) (hw : 0 < w.heap.size) :
    Calls Tryz.prog 49 #[.slice (some ⟨pb, po, none⟩) m pc, .int .i64 k] w fun e w' =>
      e = .returned (.tuple #[.int .i64 (funP m k f).1, .int .i64 (funP m k f).2]) ∧ Below w.heap.size w w' := by
  have hno : ¬ (sizesP f = false ∨ (k = 0 ∧ f.args ≠ 0)) := by rw [hs]; simp only [Bool.true_eq_false, false_or]; exact h0
  have hs' := hs
  unfold sizesP at hs'
  simp only [Bool.and_eq_true, decide_eq_true_eq] at hs'
  obtain ⟨⟨⟨hl0, hl8⟩, ha0, hal⟩, hn1, hn⟩ := hs'
  obtain ⟨c0, c1, c2, hcode⟩ := hf
  obtain ⟨cb, co, rfl, hcb, hc⟩ := hcode hn1
  have hg : ((k : Int) == 0) = false ∨ (((k : Int) == 0) = true ∧ (f.args != 0) = false) := by
    by_cases e : k = 0
    · right; subst e; simp at h0; simp [h0]
    · left; simp; omega
  unfold sizesP at hs
  have HS := hid hs
  have HX : Hid (¬ (sizesP f = false ∨ (k = 0 ∧ f.args ≠ 0)) ∧ CodeAt w cb co f.cn f.op f.ar ∧ TabAt w) := ⟨hno, hc, ht⟩
  generalize hR : funP m k f = R
  have HR := hid hR
  clear hs h0 hno hc ht hR hcode
  generalize hag : f.args = ag at *
  generalize hlc : f.locals = lc at *
  generalize hcn : f.cn = cn at *
  have HE : Hid (f.args = ag ∧ f.locals = lc ∧ f.cn = cn) := ⟨hag, hlc, hcn⟩
  clear hag hlc hcn
  have hz1 : (w.alloc (.cells #[.int .i64 ag, .int .i64 lc, .slice (some ⟨cb, co, none⟩) cn cc] 31)).heap.size = w.heap.size + 1 := by simp
  have hB1 : Below w.heap.size w (w.alloc (.cells #[.int .i64 ag, .int .i64 lc, .slice (some ⟨cb, co, none⟩) cn cc] 31)) := (Below.refl _ _).alloc (Nat.le_refl _) _
  have HB1 := hid hB1
  clear hB1
  go_enter Tryz.func49, Tryz.ntmps49
  go_wp2_with fail
  refine (sizesFit_any _ _ _ _ _ _).mono ?_
  rintro e w2 ⟨rfl, hB⟩
  rw [HS.out]
  clear HS
  have d0 : w2.cell? ⟨w.heap.size, 0, none⟩ = some (.int .i64 ag) := (hB.cell (p := ⟨w.heap.size, 0, none⟩) (by simp)).trans (by simp)
  have d2 : w2.cell? ⟨w.heap.size, 2, none⟩ = some (.slice (some ⟨cb, co, none⟩) cn cc) := (hB.cell (p := ⟨w.heap.size, 2, none⟩) (by simp)).trans (by simp)
  have HB2 := hid hB
  clear hB
  rcases hg with hg | ⟨hg, hg'⟩
  all_goals
    have hBw : Below w.heap.size w w2 := HB1.out.trans (HB2.out.mono (by simp))
    have d1 : w2.cell? ⟨w.heap.size, 1, none⟩ = some (.int .i64 lc) := (HB2.out.cell (p := ⟨w.heap.size, 1, none⟩) (by simp)).trans (by simp)
    have hsz2 : w.heap.size + 1 ≤ w2.heap.size := by have := HB2.out.size; simpa using this
    have HBw := hid hBw
    clear hBw HB1 HB2
    go_wp2
    go_loopw [28] (fun v wr => ∃ j : Nat, j ≤ cn ∧ v = .int .i64 j ∧ (∀ i, i < j → badP m f i = false) ∧ Below w.heap.size w wr ∧ wr.cell? ⟨w.heap.size, 0, none⟩ = some (.int .i64 ag) ∧ wr.cell? ⟨w.heap.size, 1, none⟩ = some (.int .i64 lc) ∧ wr.cell? ⟨w.heap.size, 2, none⟩ = some (.slice (some ⟨cb, co, none⟩) cn cc) ∧ w.heap.size + 1 ≤ wr.heap.size) (fun v _ => cn - (intOf v).toNat)
    case atStart => exact ⟨0, Nat.zero_le _, rfl, fun i hi => by omega, HBw.out, d0, d1, d2, hsz2⟩
    case round =>
      clear d0 d1 d2 hsz2 HBw
      obtain ⟨j, hj, rfl, hnb, hB, e0, e1, e2, hsz⟩ := hrel
      by_cases hlt : j < cn
      · have x0 : wr.cell? ⟨cb, co + j * 2, none⟩ = some (.int .i64 (f.op j)) := ((HX.out.2.1.below hB hcb) j hlt).1
        have x1 : wr.cell? ⟨cb, co + j * 2 + 1, none⟩ = some (.int .i64 (f.ar j)) := ((HX.out.2.1.below hB hcb) j hlt).2
        have hwr : w.heap.size < wr.heap.size := by omega
        have HN : Hid ((∀ i, i < j → badP m f i = false) ∧ Below w.heap.size w wr) := ⟨hnb, hB⟩
        have hleg := legal_fits (f.op j) (f.ar j) lc cn m
        have hbad : badP m f j = !legalP (f.op j) (f.ar j) lc cn m := by unfold badP; rw [HE.out.2.1, HE.out.2.2]
        clear hnb hB
        by_cases hkn : 0 ≤ f.op j ∧ f.op j < 22
        · have hkd : decide (0 ≤ f.op j ∧ f.op j < 22) = true := by simpa using hkn
          rw [hkd, Bool.true_and] at hleg
          rw [hleg] at hbad
          clear hleg
          cases hfit : fitsP (f.op j) (f.ar j) lc cn m
          · rw [hfit] at hbad
            have HF : Hid (R = (2, (j : Int))) := by
              unfold Hid; rw [← HR.out]; exact funP_bad (by rw [HE.out.1]; exact HX.out.1) (by rw [HE.out.2.2]; exact hlt) hbad HN.out.1
            have HFit := hid hfit
            have HKd := hid hkd
            clear hfit hkd hbad hkn
            generalize f.op j = oj at *
            generalize f.ar j = aj at *
            go_wp2_with fail
            refine (known_any _ _).mono ?_
            rintro e w' ⟨rfl, rfl⟩
            rw [HKd.out]
            clear HKd
            go_wp2_with fail
            refine (operandFits_any _ _ _ _ _ _ _ _ _).mono ?_
            rintro e w3 ⟨rfl, hB3⟩
            rw [HFit.out]
            clear HFit
            have HB3 := hid hB3
            clear hB3
            go_wp2
            go_ret2
            rw [HF.out]
            exact ⟨rfl, (HN.out.2.alloc (by omega) _).trans (HB3.out.mono (by simp; omega))⟩
          · rw [hfit] at hbad
            have HF : Hid (∀ i, i < j + 1 → badP m f i = false) := fun i hi => by
              by_cases e : i = j
              · rw [e]; exact hbad
              · exact HN.out.1 i (by omega)
            have HFit := hid hfit
            have HKd := hid hkd
            clear hfit hkd hbad hkn
            generalize f.op j = oj at *
            generalize f.ar j = aj at *
            go_wp2_with fail
            refine (known_any _ _).mono ?_
            rintro e w' ⟨rfl, rfl⟩
            rw [HKd.out]
            clear HKd
            go_wp2_with fail
            refine (operandFits_any _ _ _ _ _ _ _ _ _).mono ?_
            rintro e w3 ⟨rfl, hB3⟩
            rw [HFit.out]
            clear HFit
            have HQ : Hid (Below w.heap.size w w3 ∧ w3.cell? ⟨w.heap.size, 0, none⟩ = some (.int .i64 ag) ∧ w3.cell? ⟨w.heap.size, 1, none⟩ = some (.int .i64 lc) ∧ w3.cell? ⟨w.heap.size, 2, none⟩ = some (.slice (some ⟨cb, co, none⟩) cn cc) ∧ w.heap.size + 1 ≤ w3.heap.size) := by
              have hB4 : Below wr.heap.size wr w3 := ((Below.refl _ _).alloc (Nat.le_refl _) _).trans (hB3.mono (by simp))
              exact ⟨HN.out.2.trans (hB4.mono (by omega)), (hB4.cell (p := ⟨w.heap.size, _, none⟩) hwr).trans e0, (hB4.cell (p := ⟨w.heap.size, _, none⟩) hwr).trans e1, (hB4.cell (p := ⟨w.heap.size, _, none⟩) hwr).trans e2, by have := hB4.size; omega⟩
            clear hB3
            go_wp2
            go_roundw
            case rel => exact ⟨j + 1, by omega, by go_num, HF.out, HQ.out⟩
            case measure => simp [intOf]; omega
        · have hkd : decide (0 ≤ f.op j ∧ f.op j < 22) = false := by simpa using hkn
          rw [hkd, Bool.false_and] at hleg
          rw [hleg] at hbad
          have HF : Hid (R = (2, (j : Int))) := by
            unfold Hid; rw [← HR.out]; exact funP_bad (by rw [HE.out.1]; exact HX.out.1) (by rw [HE.out.2.2]; exact hlt) hbad HN.out.1
          have HKd := hid hkd
          clear hkd hbad hkn hleg
          generalize f.op j = oj at *
          generalize f.ar j = aj at *
          go_wp2_with fail
          refine (known_any _ _).mono ?_
          rintro e w' ⟨rfl, rfl⟩
          rw [HKd.out]
          clear HKd
          go_wp2
          go_ret2
          rw [HF.out]
          exact ⟨rfl, HN.out.2.alloc (by omega) _⟩
      · obtain rfl : j = cn := by omega
        have HF : Hid (R = flowP j f.op f.ar (j + 1) s0) := by
          unfold Hid; rw [← HR.out, funP_flow (by rw [HE.out.1]; exact HX.out.1) (by rw [HE.out.2.2]; exact hnb), HE.out.2.2]
        have hcon := flow_any cb co cc j f.op f.ar wr (HX.out.2.1.below hB hcb) (by omega) (HX.out.2.2.below hB hw) hn1 hn lc m (fun i hi => by
          have := bad_of_legal (hnb i hi); rw [HE.out.2.1, HE.out.2.2] at this; exact this)
        rw [← HF.out] at hcon
        have HC := hid hcon
        have HN := hid hB
        clear hcon hB hnb
        go_wp2_with fail
        refine HC.out.mono ?_
        rintro e w3 ⟨rfl, hB3⟩
        have HB3 : Hid (Below w.heap.size w w3) := HN.out.trans (hB3.mono (by omega))
        clear hB3 HC
        go_wp2
        go_ret2
        exact ⟨rfl, HB3.out⟩
end Go.Proofs.YtkafkipjedpohaaGreatDoor

/-
  The walk of check.Program.
-/
namespace Go.Proofs.YtkafkipjedpohaaGreatDoor
open Go.RowKit

theorem function_any (pb po pc m k : Nat) (f : PF) (ca : Option Addr) (cc : Nat) (w : World) (hf : FunAt w pb po k f ca cc) (hk : k < m) (hm : m ≤ 8) (ht : TabAt w) (hw : 0 < w.heap.size) :
    Calls Tryz.prog 49 #[.slice (some ⟨pb, po, none⟩) m pc, .int .i64 k] w fun e w' =>
      e = .returned (.tuple #[.int .i64 (funP m k f).1, .int .i64 (funP m k f).2]) ∧ Below w.heap.size w w' := by
  cases hs : sizesP f
  · exact function_size pb po pc m k f ca cc w hf hk hs
  · by_cases h0 : k = 0 ∧ f.args ≠ 0
    · exact function_args pb po pc m k f ca cc w hf hk hs h0.1 h0.2
    · exact function_rest pb po pc m k f ca cc w hf hk hm hs h0 ht hw

/-- A program in memory: m functions from an address on. -/
structure ProgAt (w : World) (pb po m : Nat) (F : Nat → PF) (CA : Nat → Option Addr) (CC : Nat → Nat) : Prop where
  lt : pb < w.heap.size
  fn : ∀ k, k < m → FunAt w pb po k (F k) (CA k) (CC k)

theorem ProgAt.below {w w' : World} {B pb po m : Nat} {F : Nat → PF} {CA : Nat → Option Addr} {CC : Nat → Nat} (h : ProgAt w pb po m F CA CC) (b : Below B w w') (hB : w.heap.size ≤ B) : ProgAt w' pb po m F CA CC :=
  ⟨by have := b.size; have := h.lt; omega, fun k hk => (h.fn k hk).below b hB (by have := h.lt; omega)⟩

theorem progP_size {m : Nat} {F : Nat → PF} (h : m < 1 ∨ 8 < m) : progP m F = (1, 0, 0) := by unfold progP; rw [if_pos h]
theorem progP_bad {m : Nat} {F : Nat → PF} (h : ¬ (m < 1 ∨ 8 < m)) {k : Nat} (hk : k < m) (hb : (funP m k (F k)).1 ≠ 0) (hn : ∀ i, i < k → faultP m F i = false) : progP m F = ((funP m k (F k)).1, (k : Int), (funP m k (F k)).2) := by
  unfold progP; rw [if_neg h, leastP_eq _ _ _ hk (by simpa [faultP] using hb) hn, if_pos hk]
theorem progP_ok {m : Nat} {F : Nat → PF} (h : ¬ (m < 1 ∨ 8 < m)) (hn : ∀ i, i < m → faultP m F i = false) : progP m F = (0, 0, 0) := by
  unfold progP; rw [if_neg h, leastP_none _ _ hn, if_neg (by omega)]

set_option maxHeartbeats 1000000 in
theorem program_any (pb po pc m : Nat) (F : Nat → PF) (CA : Nat → Option Addr) (CC : Nat → Nat) (w : World) (hP : ProgAt w pb po m F CA CC) (h : ¬ (m < 1 ∨ 8 < m)) (ht : TabAt w) :
    Calls Tryz.prog 34 #[.slice (some ⟨pb, po, none⟩) m pc] w fun e w' =>
      e = .returned (.tuple #[.int .i64 (progP m F).1, .int .i64 (progP m F).2.1, .int .i64 (progP m F).2.2]) ∧ Below w.heap.size w w' := by
  have hd : decide (1 ≤ (m : Int) ∧ (m : Int) ≤ 8) = true := by simp; omega
  have HD := hid hd
  have HX : Hid (ProgAt w pb po m F CA CC ∧ TabAt w ∧ ¬ (m < 1 ∨ 8 < m)) := ⟨hP, ht, h⟩
  have hw : 0 < w.heap.size := by have := hP.lt; omega
  have hm : m ≤ 8 := by omega
  clear hd h hP ht
  generalize hR : progP m F = R
  have HR := hid hR
  clear hR
  go_enter Tryz.func34, Tryz.ntmps34
  go_wp2_with fail
  refine (within_any _ _ _ _).mono ?_
  rintro e w1 ⟨rfl, hw1⟩
  rw [hw1]
  clear hw1 w1
  rw [HD.out]
  clear HD
  go_wp2
  go_loopw [14] (fun v wr => ∃ k : Nat, k ≤ m ∧ v = .int .i64 k ∧ (∀ i, i < k → faultP m F i = false) ∧ Below w.heap.size w wr) (fun v _ => m - (intOf v).toNat)
  case atStart => exact ⟨0, Nat.zero_le _, rfl, fun i hi => by omega, Below.refl _ _⟩
  case round =>
    obtain ⟨k, hk, rfl, hno, hB⟩ := hrel
    by_cases hlt : k < m
    · have hcon := function_any pb po pc m k (F k) (CA k) (CC k) wr (((HX.out.1).below hB (Nat.le_refl _)).fn k hlt) hlt hm (HX.out.2.1.below hB hw) (by have := hB.size; omega)
      have hbad := fun h1 => progP_bad (m := m) (F := F) HX.out.2.2 hlt h1 hno
      rcases hfp : funP m k (F k) with ⟨er, at'⟩
      rw [hfp] at hcon hbad
      simp only at hcon hbad
      have HC := hid hcon
      have HN : Hid ((∀ i, i < k → faultP m F i = false) ∧ Below w.heap.size w wr ∧ funP m k (F k) = (er, at') ∧ (er ≠ 0 → progP m F = (er, (k : Int), at'))) := ⟨hno, hB, hfp, hbad⟩
      have hsz := hB.size
      clear hcon hno hB hfp hbad
      go_wp2_with fail
      refine HC.out.mono ?_
      rintro e w2 ⟨rfl, hB2⟩
      have HB2 : Hid (Below w.heap.size w w2) := HN.out.2.1.trans (hB2.mono hsz)
      clear hB2 HC
      by_cases her : er = 0
      · subst her
        have HY : Hid (∀ i, i < k + 1 → faultP m F i = false) := fun i hi => by
          by_cases e : i = k
          · subst e; unfold faultP; rw [HN.out.2.2.1]; simp
          · exact HN.out.1 i (by omega)
        go_wp2
        go_roundw
        case rel => exact ⟨k + 1, by omega, by go_num, HY.out, HB2.out⟩
        case measure => simp [intOf]; omega
      · have hb : (er != 0) = true := by simpa using her
        have HY : Hid (R = (er, (k : Int), at')) := by unfold Hid; rw [← HR.out]; exact HN.out.2.2.2 her
        clear her
        go_wp2
        go_ret3
        rw [HY.out]
        exact ⟨rfl, HB2.out⟩
    · obtain rfl : k = m := by omega
      have HY : Hid (R = (0, 0, 0)) := by unfold Hid; rw [← HR.out]; exact progP_ok HX.out.2.2 hno
      have HB2 := hid hB
      clear hno hB
      go_wp2
      go_ret3
      rw [HY.out]
      exact ⟨rfl, HB2.out⟩
end Go.Proofs.YtkafkipjedpohaaGreatDoor

/-
  slices.Clone, twice; upshift.copied; upshift.Load.
-/
namespace Go.Proofs.YtkafkipjedpohaaGreatDoor
open Go.RowKit

/-- append of n elements to an empty slice: a new block that begins with their cells. -/
theorem append_cloneC {P : Program} (t e : TypeId) (z : Value) (size bytes : Nat) (ht : P.underlying t = some (.slice e)) (hinfo : (P.info? e).map (fun i => (i.zero, i.size, i.bytes)) = some (some z, size, bytes))
    (g : Option Addr) (a : Addr) (n c : Nat) (news : List Value) (hl : news.length = n * size) (h1 : ∀ u ∈ news, u.oneCell' = true) (hn : 1 ≤ n) (hb : n * bytes ≤ 281474976710656) (h63 : n ≤ 9223372036854775807)
    (w : World) (hnews : ∀ j u, news[j]? = some u → w.cell? (a.add j) = some u) :
    ∃ (cap : Nat) (w' : World), (Builtin.append_ #[t, t] t #[.slice g 0 0, .slice (some a) n c]).run P w = .ok (.slice (some ⟨w.heap.size, 0, none⟩) n cap) w' ∧ Below w.heap.size w w' ∧ w'.heap.size = w.heap.size + 1 ∧
      (∀ j u, news[j]? = some u → w'.cell? ⟨w.heap.size, j, none⟩ = some u) ∧ (∀ j, w'.frozen? ⟨w.heap.size, j, none⟩ = false) ∧ n ≤ cap := by
  obtain ⟨i, hi, hzz⟩ := Option.map_eq_some_iff.1 hinfo
  simp only [Prod.mk.injEq] at hzz
  obtain ⟨hz, hs, hby⟩ := hzz
  subst hs
  have hsrc : Src P i.size t (.slice (some a) n c) n news w := Src.ofSlice w ht a n c news hl hnews h1
  have hold : (Builtin.firstCells i.size 0 (.slice g 0 0)).run P w.drew = .ok ([] : List Value).toArray w.drew := by
    cases g with
    | none => exact run_firstCells_none w.drew i.size 0 0 0
    | some g => exact run_firstCells_some w.drew i.size 0 g 0 0 [] (by simp) (by simp)
  have hr := run_append_grow_src w t t t e i z ht hi hz g 0 0 [] hold (.slice (some a) n c) n news hsrc (by omega) (by omega) (by
    unfold Builtin.nextslicecap; rw [if_pos (by omega), hby]; simpa using hb)
  simp only [Nat.zero_add, List.nil_append] at hr
  refine ⟨_, _, hr, ?_, ?_, ?_, ?_, grownCap_ge w n 0 e⟩
  · exact (Below.refl _ _).drew.alloc (Nat.le_refl _) _
  · simp
  · intro j u hu
    have hj : j < news.length := by
      rw [List.getElem?_eq_some_iff] at hu
      exact hu.1
    rw [cell_new w.drew _ _ w.heap.size _ rfl, Array.getElem?_append_left (by simpa using hj)]
    simpa using hu
  · intro j
    unfold World.frozen?
    have : (w.drew.alloc (.cells (news.toArray ++ Builtin.zeroCells z.cells (grownCap w n 0 e - n)) e)).heap[w.heap.size]? = some (.cells (news.toArray ++ Builtin.zeroCells z.cells (grownCap w n 0 e - n)) e) := Go.Deep.blk_alloc_new _ _
    rw [this]
    simp

/-- append of n elements to an empty slice: a new block that begins with their cells. -/
theorem append_clone {P : Program} (t e : TypeId) (z : Value) (size bytes : Nat) (ht : P.underlying t = some (.slice e)) (hinfo : (P.info? e).map (fun i => (i.zero, i.size, i.bytes)) = some (some z, size, bytes))
    (g : Option Addr) (a : Addr) (n c : Nat) (news : List Value) (hl : news.length = n * size) (h1 : ∀ u ∈ news, u.oneCell' = true) (hn : 1 ≤ n) (hb : n * bytes ≤ 281474976710656) (h63 : n ≤ 9223372036854775807)
    (w : World) (hnews : ∀ j u, news[j]? = some u → w.cell? (a.add j) = some u) :
    ∃ (cap : Nat) (w' : World), (Builtin.append_ #[t, t] t #[.slice g 0 0, .slice (some a) n c]).run P w = .ok (.slice (some ⟨w.heap.size, 0, none⟩) n cap) w' ∧ Below w.heap.size w w' ∧ w'.heap.size = w.heap.size + 1 ∧
      (∀ j u, news[j]? = some u → w'.cell? ⟨w.heap.size, j, none⟩ = some u) ∧ (∀ j, w'.frozen? ⟨w.heap.size, j, none⟩ = false) := by
  obtain ⟨cap, w', h1', h2', h3', h4', h5', _⟩ := append_cloneC t e z size bytes ht hinfo g a n c news hl h1 hn hb h63 w hnews
  exact ⟨cap, w', h1', h2', h3', h4', h5'⟩

/-- A builtin append whose run is known. -/
theorem wpList_append_run {P : Program} (w : World) {ops : Array Oper} {rest : List Oper} {o : Oper} {a : Act} {Q : Exit → Act → World → Prop}
    (hg : o.guard = none) (x y : Operand) (t : TypeId) (hop : o.op = Op.call { callee := Callee.builtin Builtin.append, args := #[x, y], argTypes := #[t, t] })
    (vx vy v : Value) (w' : World) (hx : a.eval x = vx) (hy : a.eval y = vy) (hrun : (Builtin.append_ #[t, t] o.type #[vx, vy]).run P w = .ok v w')
    (hK : wpList P ops Q rest (a.put o.dst v) w') : wpList P ops Q (o :: rest) a w := by
  refine wpList_plain hg fun K hK' => ?_
  unfold Oper.wp
  simp [execOp, hop, resolve, invoke, builtin, hx, hy, hrun, Result.andThen]
  exact hK' _ _ hK

theorem Tryz.info31 : (Tryz.prog.info? 31).map (fun i => (i.zero, i.size, i.bytes)) = some (some (.agg #[.int .i64 0, .int .i64 0, .slice none 0 0]), 3, 40) := by kernel_rfl
theorem Tryz.info33 : (Tryz.prog.info? 33).map (fun i => (i.zero, i.size, i.bytes)) = some (some (.agg #[.int .i64 0, .int .i64 0]), 2, 16) := by kernel_rfl

set_option maxHeartbeats 400000 in
theorem clone18_any (pb po pc m : Nat) (news : List Value) (w : World) (hm : 1 ≤ m) (hm8 : m ≤ 8) (hl : news.length = m * 3) (h1 : ∀ u ∈ news, u.oneCell' = true) (hpb : pb < w.heap.size) (hnews : ∀ j u, news[j]? = some u → w.cell? ⟨pb, po + j, none⟩ = some u) :
    Calls Tryz.prog 50 #[.slice (some ⟨pb, po, none⟩) m pc] w fun e w' => ∃ g cap, e = .returned (.slice (some ⟨g, 0, none⟩) m cap) ∧ Below w.heap.size w w' ∧ w.heap.size ≤ g ∧ g < w'.heap.size ∧
      (∀ j u, news[j]? = some u → w'.cell? ⟨g, j, none⟩ = some u) ∧ (∀ j, w'.frozen? ⟨g, j, none⟩ = false) := by
  have hnil := fun wx => Lib.run_eql_slice_nil (P := Tryz.prog) wx 23 31 (some ⟨pb, po, none⟩) m pc 0 0 Tryz.underlying23
  obtain ⟨cap, w2, hrun, hB, hz, hcells, hfz⟩ := append_clone (P := Tryz.prog) 23 31 _ 3 40 Tryz.underlying23 Tryz.info31 (some ⟨w.heap.size, 0, none⟩) ⟨pb, po, none⟩ m pc news hl h1 hm (by omega) (by omega) (w.alloc (.cells #[] 31))
    (fun j u hu => by rw [Addr.add_lit]; exact ((Below.cell ((Below.refl w.heap.size w).alloc (Nat.le_refl _) (.cells #[] 31)) (p := ⟨pb, po + j, none⟩) hpb)).trans (hnews j u hu))
  rw [World.size_alloc] at hrun hB hz hcells hfz
  have HX := hid (And.intro hB (And.intro hz (And.intro hcells hfz)))
  have HR := hid hrun
  clear hB hz hcells hfz hnews h1 hl hrun
  go_enter Tryz.func50, Tryz.ntmps50
  go_wp2_with (at_builtin; refine wpList_append_run _ rfl _ _ 23 rfl _ _ _ _ rfl rfl HR.out ?_)
  go_ret
  obtain ⟨hB, hz, hcells, hfz⟩ := HX.out
  exact ⟨_, _, rfl, ((Below.refl _ _).alloc (Nat.le_refl _) _).trans (hB.mono (by omega)), by omega, by omega, hcells, hfz⟩
end Go.Proofs.YtkafkipjedpohaaGreatDoor
