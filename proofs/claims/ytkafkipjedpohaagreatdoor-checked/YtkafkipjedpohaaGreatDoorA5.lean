import Derived.Test.YtkafkipjedpohaaGreatDoorA3
import Derived.Deep.LoopGhost

/-
  The walk of check.flow.
-/
namespace Go.Proofs.YtkafkipjedpohaaGreatDoor
open Go.RowKit

/-- make([]T, n) of elements of several cells, for every world. -/
theorem run_make_rows {P : Program} (t e : TypeId) (z : Value) (zs : Array Value) (sz bytes : Nat) (ht : P.underlying t = some (.slice e)) (hinfo : (P.info? e).map (fun i => (i.zero, i.size, i.bytes)) = some (some z, sz, bytes)) (hz : z.cells = zs)
    (kl kc : IntKind) (n : Nat) (hbytes : bytes * n ≤ 281474976710656) (h63 : n ≤ 9223372036854775807) (w : World) :
    (Instr.makeSlice t (.int kl (n : Int)) (.int kc (n : Int))).run P w = .ok (.slice (some ⟨w.heap.size, 0, none⟩) n n) (w.alloc (.cells (madeCells zs (n * sz)) e)) := by
  obtain ⟨i, hi, hzz⟩ := Option.map_eq_some_iff.1 hinfo
  simp only [Prod.mk.injEq] at hzz
  obtain ⟨hzero, hs, hb⟩ := hzz
  have hb' : (i.bytes : Int) * (n : Int) ≤ 281474976710656 := by
    have h : ((i.bytes * n : Nat) : Int) ≤ 281474976710656 := by rw [hb]; omega
    rwa [Int.natCast_mul] at h
  have hr := run_make (P := P) w t e i z ht hi hzero kl kc n n (by omega) (Int.le_refl _) hb' (by omega)
  simp only [Int.toNat_natCast, hs, hz] at hr
  exact hr

theorem Tryz.info171 : (Tryz.prog.info? 171).map (fun i => (i.zero, i.size, i.bytes)) = some (some (.agg #[.bool false, .bool false, .int .i64 0]), 3, 16) := by kernel_rfl

/-- The cells of n new places. -/
def plArr (n : Nat) : Array Value := madeCells #[.bool false, .bool false, .int .i64 0] (n * 3)
theorem plArr_zero (n : Nat) (h : 1 ≤ n) : (plArr n)[0]? = some (.bool false) := by
  have : 0 < n * 3 := by omega
  simp [plArr, madeCells, this]
theorem places_made (w : World) (n : Nat) (hn : 1 ≤ n) : PlacesAt (w.alloc (.cells ((plArr n).setIfInBounds 0 (.bool true)) 171)) w.heap.size n s0 := by
  refine ⟨_, Go.Deep.blk_alloc_new _ _, by simp [plArr, size_madeCells], fun i hi => ?_⟩
  have : i % 3 = 0 ∨ i % 3 = 1 ∨ i % 3 = 2 := by omega
  by_cases h0 : i = 0
  · subst h0
    have hl : 0 < (plArr n).size := by simp [plArr, size_madeCells]; omega
    simp [hl, plc, s0, upd]
  · rw [Array.getElem?_setIfInBounds_ne (by omega)]
    rcases this with e | e | e <;> simp [plArr, madeCells, hi, plc, e, s0, upd]
    omega

theorem flowP_succ (n : Nat) (op ar : Nat → Int) (f : Nat) (s : St) : flowP n op ar (f + 1) s =
    if leastP (waits s) n < n then
      if (lookP n op ar s (leastP (waits s) n)).1 = 0 then flowP n op ar f (lookP n op ar s (leastP (waits s) n)).2
      else ((lookP n op ar s (leastP (waits s) n)).1, (leastP (waits s) n : Int))
    else (0, 0) := rfl

set_option maxHeartbeats 1000000 in
theorem flow_any (cb co cc n : Nat) (op ar : Nat → Int) (w : World) (hc : CodeAt w cb co n op ar) (hcb : cb < w.heap.size) (ht : TabAt w) (hn1 : 1 ≤ n) (hn : n ≤ 64) (lc m : Int)
    (hleg : ∀ j, j < n → legalP (op j) (ar j) lc n m = true) :
    Calls Tryz.prog 73 #[.slice (some ⟨cb, co, none⟩) n cc] w fun e w' =>
      e = .returned (.tuple #[.int .i64 (flowP n op ar (n + 1) s0).1, .int .i64 (flowP n op ar (n + 1) s0).2]) ∧ Below w.heap.size w w' := by
  have hmk : ∀ wx : World, (Instr.makeSlice 169 (.int .i64 (n : Int)) (.int .i64 (n : Int))).run Tryz.prog wx = .ok (.slice (some ⟨wx.heap.size, 0, none⟩) n n) (wx.alloc (.cells (plArr n) 171)) :=
    fun wx => run_make_rows (P := Tryz.prog) 169 171 _ _ 3 16 Tryz.underlying169 Tryz.info171 rfl .i64 .i64 n (by omega) (by omega) wx
  have h0 := plArr_zero n hn1
  have HI : Hid (CodeAt w cb co n op ar ∧ TabAt w ∧ ∀ j, j < n → legalP (op j) (ar j) lc n m = true) := ⟨hc, ht, hleg⟩
  clear hc ht hleg
  generalize hR : flowP n op ar (n + 1) s0 = R at *
  have HR := hid hR
  clear hR
  have hw0 : Below w.heap.size w (w.alloc (.cells ((plArr n).setIfInBounds 0 (.bool true)) 171)) := (Below.refl _ _).alloc (Nat.le_refl _) _
  have HW := hid hw0
  clear hw0
  go_enter Tryz.func73, Tryz.ntmps73
  go_wp2
  go_loopg [] n (fun gk wr => ∃ s : St, unl s.L n ≤ gk ∧ flowP n op ar (gk + 1) s = R ∧ HB s ∧ PlacesAt wr w.heap.size n s ∧ Below w.heap.size w wr)
  case atStart => exact ⟨s0, unl_le _ _, HR.out, HB_s0, places_made w n hn1, HW.out⟩
  case round =>
    obtain ⟨s, hu, hF, hH, hP, hB⟩ := hrel
    have HK : Hid (unl s.L n ≤ gk ∧ flowP n op ar (gk + 1) s = R ∧ HB s ∧ PlacesAt wr w.heap.size n s ∧ Below w.heap.size w wr) := ⟨hu, hF, hH, hP, hB⟩
    clear hu hF hH hP hB HR HW h0 hmk
    go_wp2_with fail
    refine (leastWaiting_any _ n s wr HK.out.2.2.2.1 hn).mono ?_
    rintro e w2 ⟨rfl, hB2⟩
    obtain ⟨hu, hF, hH, hP, hB⟩ := HK.out
    have hs1 : w.heap.size < wr.heap.size := World.rowIs.lt hP
    have hB2' : Below w.heap.size w w2 := hB.trans (hB2.mono (by omega))
    have hP2 := hP.below hB2 hs1
    have hF2 := hF
    rw [flowP_succ] at hF2
    unfold lwV
    rcases leastP_spec (waits s) n with ⟨h1, h2, h3⟩ | ⟨h1, h2⟩
    · rw [if_pos h1] at hF2 ⊢
      have hdec : decide (leastP (waits s) n < n) = true := by simp [h1]
      rw [hdec]
      have hwt : s.L (leastP (waits s) n) = false := by
        have := h2
        simp only [waits, Bool.and_eq_true, Bool.not_eq_true'] at this
        exact this.2
      generalize leastP (waits s) n = i at *
      have hul := unl_upd s.L n i h1 hwt
      have hl := HI.out.2.2 i h1
      have hcon := look_any cb co cc w.heap.size n i op ar s w2 (HI.out.1.below hB2' hcb) (by have := hB2'.size; omega) (by omega) hP2 (HI.out.2.1.below hB2' (by omega)) (by omega) hH h1 hn (legal_range hl) (legal_call hl) (legal_jump hl)
      have hLL := lookP_L n op ar s i
      have hHH := lookP_HB (n := n) (op := op) (ar := ar) (i := i) hH
      rcases hlk : lookP n op ar s i with ⟨er, sr⟩
      rw [hlk] at hcon hF2 hLL hHH
      simp only at hcon hF2 hLL hHH
      have HC := hid hcon
      have HX : Hid (Below w.heap.size w w2 ∧ (if er = 0 then flowP n op ar gk sr else (er, (i : Int))) = R ∧ sr.L = upd s.L i true ∧ HB sr ∧ unl (upd s.L i true) n + 1 = unl s.L n ∧ unl s.L n ≤ gk) := ⟨hB2', hF2, hLL, hHH, hul, hu⟩
      clear hcon hF2 hLL hHH hul hu hF hH hP hB hP2 hB2 hB2' hlk hl h2 h3 hdec hwt HK
      go_wp2_with fail
      refine HC.out.mono ?_
      rintro e w3 ⟨rfl, hP3, hK3⟩
      obtain ⟨hB2, hF2, hLL, hHH, hul, hu⟩ := HX.out
      have hB3 : Below w.heap.size w w3 := hB2.trans (hK3.below (Nat.le_refl _) hB2.size)
      by_cases her : er = 0
      · subst her
        rw [if_pos rfl] at hF2
        have HY : Hid (∃ s : St, unl s.L n ≤ gk - 1 ∧ flowP n op ar (gk - 1 + 1) s = R ∧ HB s ∧ PlacesAt w3 w.heap.size n s ∧ Below w.heap.size w w3) :=
          ⟨sr, by rw [hLL]; omega, by rw [show gk - 1 + 1 = gk by omega]; exact hF2, hHH, hP3, hB3⟩
        have hgk : gk - 1 < gk := by omega
        clear hF2 hLL hHH hul hu hP3 hB3 hB2 hK3 HX HC
        go_wp2
        go_roundg (gk - 1)
        case measure => exact hgk
        case rel => exact HY.out
      · have hb : (er != 0) = true := by simpa using her
        rw [if_neg her] at hF2
        have HY : Hid (R = (er, (i : Int)) ∧ Below w.heap.size w w3) := ⟨hF2.symm, hB3⟩
        clear hF2 hLL hHH hul hu hP3 hB3 hB2 hK3 HX HC her
        go_wp2
        go_ret2
        rw [HY.out.1]
        exact ⟨rfl, HY.out.2⟩
    · rw [h1, if_neg (by omega)] at hF2 ⊢
      have hdec : decide (n < n) = false := by simp
      rw [hdec]
      have HY : Hid (R = (0, 0) ∧ Below w.heap.size w w2) := ⟨hF2.symm, hB2'⟩
      clear hF2 h1 h2 hu hF hH hP hB hP2 hB2 hB2' HK hdec
      go_wp2
      go_ret2
      rw [HY.out.1]
      exact ⟨rfl, HY.out.2⟩
end Go.Proofs.YtkafkipjedpohaaGreatDoor
