import Derived.Test.YtkafkipjedpohaaGreatDoorM24
import Derived.Test.YtkafkipjedpohaaGreatDoorPureD
import Derived.Test.YtkafkipjedpohaaGreatDoorW1
import Derived.Test.YtkafkipjedpohaaGreatDoorM27
import Derived.Test.YtkafkipjedpohaaGreatDoorM32

/-
  What gears do not turn, as plain mathematics. No Go here.
-/
namespace Go.Proofs.YtkafkipjedpohaaGreatDoor

variable {m : Nat} {F : Nat → PF} {K : Nat → Nat → Bool} {H : Nat → Nat → Int}

/-- The same run, but for gears and counts. -/
structure Six (s s' : Mc) : Prop where
  fr : s'.fr = s.fr
  arr : s'.arr = s.arr
  out : s'.out = s.out
  gives : s'.gives = s.gives
  steps : s'.steps = s.steps
  fin : s'.fin = s.fin
theorem Six.trans {s t u : Mc} (h : Six s t) (k : Six t u) : Six s u := ⟨k.fr.trans h.fr, k.arr.trans h.arr, k.out.trans h.out, k.gives.trans h.gives, k.steps.trans h.steps, k.fin.trans h.fin⟩
theorem Cm.six {s s' : Mc} (h : Cm s s') : Six s s' := ⟨h.fr, h.arr, h.out, h.gives, h.steps, h.fin⟩

theorem call_six {s s' : Mc} (A : Nat) (f : Fr) (rest : List Fr) (h : Six s s') : Six (callP F A f rest s) (callP F A f rest s') := by
  unfold callP
  split
  · exact h
  · split
    · exact ⟨rfl, h.arr, h.out, h.gives, h.steps, rfl⟩
    · split
      · exact ⟨rfl, h.arr, h.out, h.gives, h.steps, rfl⟩
      · exact ⟨rfl, h.arr, h.out, h.gives, h.steps, h.fin⟩
theorem return_six {s s' : Mc} (f : Fr) (rest : List Fr) (h : Six s s') : Six (returnP f rest s) (returnP f rest s') := by
  unfold returnP
  split
  · exact h
  · split
    · exact ⟨rfl, h.arr, h.out, rfl, h.steps, rfl⟩
    · exact ⟨rfl, h.arr, h.out, h.gives, h.steps, h.fin⟩
theorem step_six {s s' : Mc} (h : Six s s') : Six (stepP F s) (stepP F s') := by
  cases hc : s.fr with
  | nil =>
    have hc' : s'.fr = [] := h.fr.trans hc
    have e1 : stepP F s = s := by unfold stepP; rw [hc]
    have e2 : stepP F s' = s' := by unfold stepP; rw [hc']
    rw [e1, e2]
    exact h
  | cons f rest =>
    rw [stepP_at hc, stepP_at (h.fr.trans hc)]
    unfold stepQ
    dsimp only
    have hst := h.steps
    split
    · exact ⟨rfl, h.arr, h.out, h.gives, by show s'.steps + 1 = _; rw [hst], h.fin⟩
    · split
      · split
        · exact ⟨h.fr, h.arr, h.out, h.gives, by show s'.steps + 1 = _; rw [hst], h.fin⟩
        · exact ⟨rfl, h.arr, h.out, h.gives, by show s'.steps + 1 = _; rw [hst], h.fin⟩
      · split
        · exact call_six _ _ _ ⟨h.fr, h.arr, h.out, h.gives, by show s'.steps + 1 = _; rw [hst], h.fin⟩
        · split
          · exact return_six _ _ ⟨h.fr, h.arr, h.out, h.gives, by show s'.steps + 1 = _; rw [hst], h.fin⟩
          · rw [h.arr, h.out]
            exact ⟨rfl, rfl, rfl, h.gives, by show s'.steps + 1 = _; rw [hst], rfl⟩

/-- Events turn no more than gears and counts. -/
theorem evs_six (hF : Fine m F K H) {E : List Ev} (hr : Rising 0 E) (hok : ∀ e, e ∈ E → EvOk m e) : ∀ n, Six (nthP F (startP F) n) (evS F (startP F) E n).1
  | 0 => (met_cm (F := F) E (startP F) (start_inv hF).1.highs).six
  | n + 1 => by
    have ih := evs_six hF hr hok n
    have hAt := run_at hF hr hok n
    show Six (if (nthP F (startP F) n).fin = 0 then stepP F (nthP F (startP F) n) else nthP F (startP F) n) (if (evS F (startP F) E n).1.fin = 0 then (if (stepP F (evS F (startP F) E n).1).fin = 0 then metP F (evS F (startP F) E n).2 (stepP F (evS F (startP F) E n).1) else (stepP F (evS F (startP F) E n).1, (evS F (startP F) E n).2)) else evS F (startP F) E n).1
    generalize evS F (startP F) E n = x at *
    generalize nthP F (startP F) n = y at *
    rw [ih.fin]
    by_cases hz : y.fin = 0
    · rw [if_pos hz, if_pos hz]
      have h1 := step_six (F := F) ih
      obtain ⟨hI, _⟩ := hAt.go (ih.fin.trans hz)
      split
      · rename_i hz2
        exact h1.trans (met_cm (F := F) x.2 (stepP F x.1) (step_inv hF hI hz2).highs).six
      · exact h1
    · rw [if_neg hz, if_neg hz]
      exact ih
end Go.Proofs.YtkafkipjedpohaaGreatDoor

/-
  The project's machine: Counts; upshift's Shift.
-/
namespace Go.Proofs.YtkafkipjedpohaaGreatDoor
open Go.RowKit

theorem EvV.mono {w : World} {B B2 : Nat} {v : Value} {E : List Ev} (h : EvV w B v E) (hb : B ≤ B2) : EvV w B2 v E := by
  obtain ⟨p, c, h1, h2, h3⟩ := h
  refine ⟨p, c, h1, h2, fun hE => ?_⟩
  obtain ⟨eb, eo, e1, e2, e3⟩ := h3 hE
  exact ⟨eb, eo, e1, by omega, e3⟩

/-- Counts that go out. -/
def CountsV (s : Mc) : Value := .agg #[.int .i64 s.cH, .int .i64 s.cU, .int .i64 s.cD]

set_option maxHeartbeats 1000000 in
theorem countsM (w : World) (B mb m : Nat) (F : Nat → PF) (MV : Nat → Value) (A : AdM) (s : Mc) (en : Int) (hM : MSt w B mb m F MV A s en) :
    Calls Tryz.prog 46 #[.pointer (some ⟨mb, 0, none⟩)] w fun e w' => e = .returned (CountsV s) ∧ Below w.heap.size w w' := by
  have x8 : w.cell? ⟨mb, 8, none⟩ = some (.int .i64 s.cH) := by rw [cell_heap hM.lay.run, ← hM.cnt.1]; rfl
  have x9 : w.cell? ⟨mb, 9, none⟩ = some (.int .i64 s.cU) := by rw [cell_heap hM.lay.run, ← hM.cnt.2.1]; rfl
  have x10 : w.cell? ⟨mb, 10, none⟩ = some (.int .i64 s.cD) := by rw [cell_heap hM.lay.run, ← hM.cnt.2.2]; rfl
  have hmz := heap_lt hM.lay.run
  have hne : ¬ mb = w.heap.size := by omega
  have HQ := hid (show Below w.heap.size w (w.alloc (.cells #[.int .i64 s.cH, .int .i64 s.cU, .int .i64 s.cD] 61)) from (Below.refl _ _).alloc (Nat.le_refl _) _)
  clear hM
  unfold CountsV
  go_enter Tryz.func46, Tryz.ntmps46
  go_wp2
  exact bodyPost_ret (v := .agg #[.int .i64 s.cH, .int .i64 s.cU, .int .i64 s.cD]) (by simp [results, Tryz.results46, go_sem]) rfl ⟨rfl, HQ.out⟩

/-- The events are refused: nothing is run. -/
def noOutcome : Value := .agg #[.int .i64 0, .int .i64 0, .int .i64 0, .int .i64 0, .slice none 0 0]
def noCounts : Value := .agg #[.int .i64 0, .int .i64 0, .int .i64 0]

/-- An outcome and counts are stored into their blocks. -/
def shiftW (w : World) (n : Nat) (a0 a1 a2 a3 a4 c0 c1 c2 : Value) : World :=
  (((((((w.setCell ⟨n, 0, none⟩ a0).setCell ⟨n, 1, none⟩ a1).setCell ⟨n, 2, none⟩ a2).setCell ⟨n, 3, none⟩ a3).setCell ⟨n, 4, none⟩ a4).setCell ⟨n + 1, 0, none⟩ c0).setCell ⟨n + 1, 1, none⟩ c1).setCell ⟨n + 1, 2, none⟩ c2
theorem shiftW_at {w : World} {n : Nat} (q0 : w.heap[n]? = some (.cells #[.int .i64 0, .int .i64 0, .int .i64 0, .int .i64 0, .slice none 0 0] 46 (0, 0))) (q1 : w.heap[n + 1]? = some (.cells #[.int .i64 0, .int .i64 0, .int .i64 0] 61 (0, 0))) (a0 a1 a2 a3 a4 c0 c1 c2 : Value) :
    (shiftW w n a0 a1 a2 a3 a4 c0 c1 c2).heap[n]? = some (.cells #[a0, a1, a2, a3, a4] 46 (0, 0)) ∧ (shiftW w n a0 a1 a2 a3 a4 c0 c1 c2).heap[n + 1]? = some (.cells #[c0, c1, c2] 61 (0, 0)) := by
  have g0 := heap_set (o := 4) (heap_set (o := 3) (heap_set (o := 2) (heap_set (o := 1) (heap_set (o := 0) q0 a0) a1) a2) a3) a4
  have k0 : ∀ (X : World) (o : Nat) (v : Value), (X.setCell ⟨n, o, none⟩ v).heap[n + 1]? = X.heap[n + 1]? := fun X o v => Below.heap_setCell _ _ _ _ (by dsimp only; omega)
  have k1 : ∀ (X : World) (o : Nat) (v : Value), (X.setCell ⟨n + 1, o, none⟩ v).heap[n]? = X.heap[n]? := fun X o v => Below.heap_setCell _ _ _ _ (by dsimp only; omega)
  unfold shiftW
  refine ⟨?_, ?_⟩
  · rw [k1, k1, k1]
    exact g0
  · have q1' : (((((w.setCell ⟨n, 0, none⟩ a0).setCell ⟨n, 1, none⟩ a1).setCell ⟨n, 2, none⟩ a2).setCell ⟨n, 3, none⟩ a3).setCell ⟨n, 4, none⟩ a4).heap[n + 1]? = some (.cells #[.int .i64 0, .int .i64 0, .int .i64 0] 61 (0, 0)) := by rw [k0, k0, k0, k0, k0]; exact q1
    exact heap_set (o := 2) (heap_set (o := 1) (heap_set (o := 0) q1' c0) c1) c2
theorem shiftW_below {B : Nat} {u w : World} (h : Below B u w) {n : Nat} (hn : B ≤ n) (a0 a1 a2 a3 a4 c0 c1 c2 : Value) : Below B u (shiftW w n a0 a1 a2 a3 a4 c0 c1 c2) :=
  below_set (below_set (below_set (below_set (below_set (below_set (below_set (below_set h hn _) hn _) hn _) hn _) hn _) (by omega) _) (by omega) _) (by omega) _
theorem shiftW_out {u X w : World} {v : Value} {l : List V} (h : OutL X w v l) {n : Nat} (hu : u.heap.size ≤ X.heap.size) (hn : n + 1 < X.heap.size) (a0 a1 a2 a3 a4 c0 c1 c2 : Value) : OutL u (shiftW w n a0 a1 a2 a3 a4 c0 c1 c2) v l :=
  (OutL.set (OutL.set (OutL.set (OutL.set (OutL.set (OutL.set (OutL.set (OutL.set (o := 0) h hu (by omega) _).2 (o := 1) hu (by omega) _).2 (o := 2) hu (by omega) _).2 (o := 3) hu (by omega) _).2 (o := 4) hu (by omega) _).2 (o := 0) hu hn _).2 (o := 1) hu hn _).2 (o := 2) hu hn _).1

set_option maxRecDepth 100000 in
set_option maxHeartbeats 1000000 in
theorem codeShift (w : World) (cb pb po pc m : Nat) (F : Nat → PF) (K : Nat → Nat → Bool) (H : Nat → Nat → Int) (CA : Nat → Option Addr) (CC : Nat → Nat) (fuel : Int) (ev : Value) (E : List Ev) (hc : w.cell? ⟨cb, 0, none⟩ = some (.slice (some ⟨pb, po, none⟩) m pc)) (hP : ProgAt w pb po m F CA CC) (hcc : ∀ k, k < m → (F k).cn ≤ CC k) (hF : Fine m F K H) (hEv : EvV w w.heap.size ev E) (hok : eventsP m E = 0) :
    Calls Tryz.prog 26 #[.pointer (some ⟨cb, 0, none⟩), ev, .int .i64 fuel] w fun e w' => ∃ v, e = .returned (.tuple #[OutcomeV (endP (atE F E fuel)) (atE F E fuel) v, CountsV (atE F E fuel), .int .i64 0]) ∧ Below w.heap.size w w' ∧ OutL w w' v (atE F E fuel).out := by
  have hm := hF.size
  have hEok : EvsOk m E := by
    unfold eventsP at hok
    by_cases h200 : 200 < E.length
    · rw [if_pos h200] at hok; omega
    · rw [if_neg h200] at hok
      by_cases he : evsP m 0 E = true
      · obtain ⟨k1, k2⟩ := evsP_ok (Int.le_refl 0) he
        exact ⟨k1, k2, by omega⟩
      · rw [if_neg he] at hok; omega
  have hout : (atE F E fuel).out.length ≤ 200000 := by
    have h6 := evs_six hF hEok.rise hEok.ok (fuelP fuel)
    have := (road_szs hF (fuelP fuel)).2.2
    have := fuel_le fuel
    show (evS F (startP F) E (fuelP fuel)).1.out.length ≤ 200000
    rw [h6.out]
    omega
  have hcz := World.block_lt_of_cell? w _ hc
  have hW : Below w.heap.size w ((w.alloc (.cells #[.int .i64 0, .int .i64 0, .int .i64 0, .int .i64 0, .slice none 0 0] 46)).alloc (.cells #[.int .i64 0, .int .i64 0, .int .i64 0] 61)) := ((Below.refl _ _).alloc (Nat.le_refl _) _).alloc (by simp) _
  have hz : ((w.alloc (.cells #[.int .i64 0, .int .i64 0, .int .i64 0, .int .i64 0, .slice none 0 0] 46)).alloc (.cells #[.int .i64 0, .int .i64 0, .int .i64 0] 61)).heap.size = w.heap.size + 2 := by simp
  have r0 : ((w.alloc (.cells #[.int .i64 0, .int .i64 0, .int .i64 0, .int .i64 0, .slice none 0 0] 46)).alloc (.cells #[.int .i64 0, .int .i64 0, .int .i64 0] 61)).heap[w.heap.size]? = some (.cells #[.int .i64 0, .int .i64 0, .int .i64 0, .int .i64 0, .slice none 0 0] 46 (0, 0)) := (Below.heap_alloc _ _ _ (by simp)).trans (Go.Deep.blk_alloc_new _ _)
  have r1 : ((w.alloc (.cells #[.int .i64 0, .int .i64 0, .int .i64 0, .int .i64 0, .slice none 0 0] 46)).alloc (.cells #[.int .i64 0, .int .i64 0, .int .i64 0] 61)).heap[w.heap.size + 1]? = some (.cells #[.int .i64 0, .int .i64 0, .int .i64 0] 61 (0, 0)) := by
    have := Go.Deep.blk_alloc_new (w.alloc (.cells #[.int .i64 0, .int .i64 0, .int .i64 0, .int .i64 0, .slice none 0 0] 46)) (.cells #[.int .i64 0, .int .i64 0, .int .i64 0] 61)
    simpa using this
  have c0 := (hW.cell (p := ⟨cb, 0, none⟩) hcz).trans hc
  generalize hWe : (w.alloc (.cells #[.int .i64 0, .int .i64 0, .int .i64 0, .int .i64 0, .slice none 0 0] 46)).alloc (.cells #[.int .i64 0, .int .i64 0, .int .i64 0] 61) = W at *
  have hEW : EvV W W.heap.size ev E := (hEv.below hW).mono (by omega)
  have hcon := eventsM W ev E hEW (m : Int) (by omega)
  rw [hok] at hcon
  have hPW := hP.below hW (Nat.le_refl _)
  have HSh := hid (fun (X : World) (hX : Below W.heap.size W X) => (shiftM X m _ F K H fuel ev E hEok ((hEW.below hX).mono hX.size) (CapsAt.of_prog (pc := pc) (hPW.below hX (Nat.le_refl _)) hcc) (Pg.of_prog (pc := pc) (hPW.below hX (Nat.le_refl _))) hF))
  obtain ⟨ep, ecc, rfl, _⟩ := hEv
  have HC := hid hcon
  have HX := hid (And.intro hW (And.intro r0 (And.intro r1 hz)))
  have HC0 := hid (fun (X : World) (hX : Below W.heap.size W X) => (hX.cell (p := ⟨cb, 0, none⟩) (Nat.lt_of_lt_of_le (show cb < w.heap.size from hcz) hW.size)).trans c0)
  have HO := hid hout
  clear hcon hW r0 r1 hz hc hok hPW hEW hP hcc hF hEok hm hout
  generalize endP (atE F E fuel) = en at *
  generalize atE F E fuel = sN at *
  generalize E.length = el at *
  subst hWe
  go_enter Tryz.func26, Tryz.ntmps26
  go_wp2_with fail
  refine HC.out.mono ?_
  rintro e w2 ⟨rfl, hB2⟩
  clear c0
  have c2 := HC0.out w2 hB2
  obtain ⟨hW, r0, r1, hz⟩ := HX.out
  have hz2 := hB2.size
  have q0 := (hB2.block w.heap.size (by omega)).trans r0
  have q1 := (hB2.block (w.heap.size + 1) (by omega)).trans r1
  have HB := hid (And.intro (hW.trans (hB2.mono (by omega))) (And.intro q0 (And.intro q1 (show w.heap.size + 2 ≤ w2.heap.size by omega))))
  have HSh2 := hid (HSh.out w2 hB2)
  clear hB2 hW r0 r1 hz hz2 q0 q1 HX HC HC0 HSh
  go_wp2_with fail
  refine HSh2.out.mono ?_
  rintro e w3 ⟨mb, rfl, hB3, A3, MV3, m3⟩
  have HM := hid (And.intro m3 hB3)
  clear m3 hB3 HSh2 c2
  go_wp2_with fail
  refine (outcomeM w3 _ mb A3 sN en HM.out.1.lay HO.out).mono ?_
  rintro e w4 ⟨v4, rfl, hB4, hO4⟩
  obtain ⟨p4, cp4, hv4, _⟩ := Row.any hO4
  subst hv4
  have HM4 := hid (And.intro (HM.out.1.below hB4) (And.intro hB4 hO4))
  clear hB4 hO4 HO
  unfold OutcomeV
  go_wp2_with fail
  refine (countsM w4 _ mb m F MV3 A3 sN en HM4.out.1).mono ?_
  rintro e w5 ⟨rfl, hB5⟩
  obtain ⟨_, hB4, hO4⟩ := HM4.out
  obtain ⟨_, hB3⟩ := HM.out
  obtain ⟨hB2, q0, q1, hz⟩ := HB.out
  have hz3 := hB3.size
  have hz4 := hB4.size
  have hB25 : Below w2.heap.size w2 w5 := (hB3.trans (hB4.mono hz3)).trans (hB5.mono (by omega))
  have s0 := (hB25.block w.heap.size (by omega)).trans q0
  have s1 := (hB25.block (w.heap.size + 1) (by omega)).trans q1
  have hB : Below w.heap.size w w5 := hB2.trans (hB25.mono (by omega))
  have hO5 := hO4.later hB5
  have y0 : w5.cell? ⟨w.heap.size, 0, none⟩ = some (.int .i64 0) := (cell_heap s0).trans rfl
  have y1 : w5.cell? ⟨w.heap.size, 1, none⟩ = some (.int .i64 0) := (cell_heap s0).trans rfl
  have y2 : w5.cell? ⟨w.heap.size, 2, none⟩ = some (.int .i64 0) := (cell_heap s0).trans rfl
  have y3 : w5.cell? ⟨w.heap.size, 3, none⟩ = some (.int .i64 0) := (cell_heap s0).trans rfl
  have y4 : w5.cell? ⟨w.heap.size, 4, none⟩ = some (.slice none 0 0) := (cell_heap s0).trans rfl
  have z0 := frozen_heap (o := 0) s0
  have z1 := frozen_heap (o := 1) s0
  have z2 := frozen_heap (o := 2) s0
  have z3 := frozen_heap (o := 3) s0
  have z4 := frozen_heap (o := 4) s0
  have x0 : w5.cell? ⟨w.heap.size + 1, 0, none⟩ = some (.int .i64 0) := (cell_heap s1).trans rfl
  have x1 : w5.cell? ⟨w.heap.size + 1, 1, none⟩ = some (.int .i64 0) := (cell_heap s1).trans rfl
  have x2 : w5.cell? ⟨w.heap.size + 1, 2, none⟩ = some (.int .i64 0) := (cell_heap s1).trans rfl
  have u0 := frozen_heap (o := 0) s1
  have u1 := frozen_heap (o := 1) s1
  have u2 := frozen_heap (o := 2) s1
  have HE := hid (And.intro (shiftW_at s0 s1 (.int .i64 en) (.int .i64 sN.steps) (.int .i64 sN.gives.k) (.int .i64 sN.gives.n) (.slice p4 sN.out.length cp4) (.int .i64 sN.cH) (.int .i64 sN.cU) (.int .i64 sN.cD)) (And.intro (shiftW_below hB (Nat.le_refl _) (.int .i64 en) (.int .i64 sN.steps) (.int .i64 sN.gives.k) (.int .i64 sN.gives.n) (.slice p4 sN.out.length cp4) (.int .i64 sN.cH) (.int .i64 sN.cU) (.int .i64 sN.cD)) (shiftW_out (u := w) (n := w.heap.size) hO5 (by omega) (by omega) (.int .i64 en) (.int .i64 sN.steps) (.int .i64 sN.gives.k) (.int .i64 sN.gives.n) (.slice p4 sN.out.length cp4) (.int .i64 sN.cH) (.int .i64 sN.cU) (.int .i64 sN.cD))))
  clear hB5 hB4 hO4 hB3 hB2 q0 q1 hz hz3 hz4 hB25 s0 s1 hB hO5 HM HM4 HB
  unfold CountsV
  go_wp2
  obtain ⟨⟨g0, g1⟩, hF, hol⟩ := HE.out
  clear y0 y1 y2 y3 y4 z0 z1 z2 z3 z4 x0 x1 x2 u0 u1 u2 HE
  refine (show bodyPost Tryz.prog Tryz.f26 _ _ _ (shiftW w5 w.heap.size (.int .i64 en) (.int .i64 sN.steps) (.int .i64 sN.gives.k) (.int .i64 sN.gives.n) (.slice p4 sN.out.length cp4) (.int .i64 sN.cH) (.int .i64 sN.cU) (.int .i64 sN.cD)) from ?_)
  generalize shiftW w5 w.heap.size (.int .i64 en) (.int .i64 sN.steps) (.int .i64 sN.gives.k) (.int .i64 sN.gives.n) (.slice p4 sN.out.length cp4) (.int .i64 sN.cH) (.int .i64 sN.cU) (.int .i64 sN.cD) = V at *
  have y0 : V.cell? ⟨w.heap.size, 0, none⟩ = some (.int .i64 en) := (cell_heap g0).trans rfl
  have y1 : V.cell? ⟨w.heap.size, 1, none⟩ = some (.int .i64 sN.steps) := (cell_heap g0).trans rfl
  have y2 : V.cell? ⟨w.heap.size, 2, none⟩ = some (.int .i64 sN.gives.k) := (cell_heap g0).trans rfl
  have y3 : V.cell? ⟨w.heap.size, 3, none⟩ = some (.int .i64 sN.gives.n) := (cell_heap g0).trans rfl
  have y4 : V.cell? ⟨w.heap.size, 4, none⟩ = some (.slice p4 sN.out.length cp4) := (cell_heap g0).trans rfl
  have x0 : V.cell? ⟨w.heap.size + 1, 0, none⟩ = some (.int .i64 sN.cH) := (cell_heap g1).trans rfl
  have x1 : V.cell? ⟨w.heap.size + 1, 1, none⟩ = some (.int .i64 sN.cU) := (cell_heap g1).trans rfl
  have x2 : V.cell? ⟨w.heap.size + 1, 2, none⟩ = some (.int .i64 sN.cD) := (cell_heap g1).trans rfl
  exact bodyPost_ret (v := .tuple #[OutcomeV en sN (.slice p4 sN.out.length cp4), CountsV sN, .int .i64 0]) (by simp [results, Tryz.results26, go_sem, y0, y1, y2, y3, y4, x0, x1, x2, OutcomeV, CountsV]) rfl ⟨_, rfl, hF, hol⟩
end Go.Proofs.YtkafkipjedpohaaGreatDoor

/-
  upshift's Look.
-/
namespace Go.Proofs.YtkafkipjedpohaaGreatDoor
open Go.RowKit

theorem Row.lower {w : World} {B B' : Nat} {tag tag' : Nat → Nat} {c : Nat} {e : TypeId} {sz : Nat} {v : Value} {n : Nat} {f : Nat → Value} (h : Row w B' tag c e sz v n f) (hB : B ≤ B') (ht : ∀ x, B' ≤ x → tag' x = tag x) : Row w B tag' c e sz v n f := by
  rcases h with h | ⟨b, cap, cur, hv, hb, hc, hr⟩
  · exact Or.inl h
  · exact Or.inr ⟨b, cap, cur, hv, by omega, (ht b hb).trans hc, hr⟩

/-- A state that went out of a callee, stored into a block that was there. -/
theorem StOut.stored {w w2 w3 : World} {fr : List Fr} {arr : List (List V)} {e : Ending} (hB : Below w.heap.size w w2) (hr : w2.heap[w.heap.size]? = some (.cells #[.slice none 0 0, .slice none 0 0] 53 (0, 0))) (h : StOut w2 w3 fr arr e) :
    ∃ p1 c1 p2 c2, e = .returned (.agg #[.slice p1 fr.length c1, .slice p2 arr.length c2]) ∧ w3.heap[w.heap.size]? = some (.cells #[.slice none 0 0, .slice none 0 0] 53 (0, 0)) ∧ StOut w ((w3.setCell ⟨w.heap.size, 0, none⟩ (.slice p1 fr.length c1)).setCell ⟨w.heap.size, 1, none⟩ (.slice p2 arr.length c2)) fr arr e := by
  obtain ⟨fv, av, LV, SV, AV, tag, rfl, hb, hf, ha⟩ := h
  obtain ⟨p1, c1, h1, _⟩ := hf.row.any
  obtain ⟨p2, c2, h2, _⟩ := ha.row.any
  subst h1 h2
  have hz := heap_lt hr
  refine ⟨p1, c1, p2, c2, rfl, (hb.block _ hz).trans hr, ?_⟩
  have ht : ∀ x, w2.heap.size ≤ x → (fun x => if x < w2.heap.size then 9 else tag x) x = tag x := fun x hx => if_neg (by omega)
  have h9 : (fun x => if x < w2.heap.size then 9 else tag x) w.heap.size = 9 := if_pos hz
  have hle : w.heap.size ≤ w2.heap.size := hB.size
  have hcs : Ch w.heap.size (fun d => d = 9) (fun x => if x < w2.heap.size then 9 else tag x) (fun x => if x < w2.heap.size then 9 else tag x) w3 ((w3.setCell ⟨w.heap.size, 0, none⟩ (.slice p1 fr.length c1)).setCell ⟨w.heap.size, 1, none⟩ (.slice p2 arr.length c2)) := (Ch.set w3 _ _ _ (Nat.le_refl _) h9).trans (Ch.set _ _ _ _ (Nat.le_refl _) h9)
  have hf2 : FrsOut w3 w.heap.size (fun x => if x < w2.heap.size then 9 else tag x) (.slice p1 fr.length c1) LV SV (frAt fr) fr.length := ⟨hf.row.lower hle ht, fun i hi => (hf.loc i hi).lower hle ht, fun i hi => (hf.stk i hi).lower hle ht⟩
  have ha2 : ArsOut w3 w.heap.size (fun x => if x < w2.heap.size then 9 else tag x) (.slice p2 arr.length c2) AV arr arr.length := ⟨ha.row.lower hle ht, fun i hi => (ha.arr i hi).lower hle ht⟩
  exact ⟨_, _, LV, SV, AV, _, rfl, (hB.trans (hb.mono hle)).trans (hcs.below (by have := hb.size; omega)), hf2.keep hcs (by omega) (fun i _ => ⟨by omega, by omega⟩), ha2.keep hcs (by omega) (fun i _ => by omega)⟩

theorem frAt_mem {fr : List Fr} {i : Nat} (h : i < fr.length) : frAt fr i ∈ fr := by
  unfold frAt
  have hl : i < fr.reverse.length := by simpa using h
  rw [List.getD_eq_getElem?_getD, List.getElem?_eq_getElem hl]
  exact List.mem_reverse.1 (List.getElem_mem hl)
theorem getD_mem {arr : List (List V)} {j : Nat} (h : j < arr.length) : arr.getD j [] ∈ arr := by
  rw [List.getD_eq_getElem?_getD, List.getElem?_eq_getElem h]
  exact List.getElem_mem h

set_option maxRecDepth 100000 in
set_option maxHeartbeats 1000000 in
theorem codeLook (w : World) (cb pb po pc m : Nat) (F : Nat → PF) (K : Nat → Nat → Bool) (H : Nat → Nat → Int) (CA : Nat → Option Addr) (CC : Nat → Nat) (fuel : Int) (hc : w.cell? ⟨cb, 0, none⟩ = some (.slice (some ⟨pb, po, none⟩) m pc)) (hP : ProgAt w pb po m F CA CC) (hcc : ∀ k, k < m → (F k).cn ≤ CC k) (hF : Fine m F K H) :
    Calls Tryz.prog 22 #[.pointer (some ⟨cb, 0, none⟩), .int .i64 fuel] w fun e w' => StOut w w' (atP F fuel).fr (atP F fuel).arr e := by
  have hcz := World.block_lt_of_cell? w _ hc
  have hW : Below w.heap.size w (w.alloc (.cells #[.slice none 0 0, .slice none 0 0] 53)) := (Below.refl _ _).alloc (Nat.le_refl _) _
  have hP2 := hP.below hW (Nat.le_refl _)
  have hrun := runsM _ m _ F K H fuel (CapsAt.of_prog (pc := pc) hP2 hcc) (Pg.of_prog (pc := pc) hP2) hF
  have c0 := (hW.cell (p := ⟨cb, 0, none⟩) hcz).trans hc
  have r0 : (w.alloc (.cells #[.slice none 0 0, .slice none 0 0] 53)).heap[w.heap.size]? = some (.cells #[.slice none 0 0, .slice none 0 0] 53 (0, 0)) := Go.Deep.blk_alloc_new _ _
  have hz : (w.alloc (.cells #[.slice none 0 0, .slice none 0 0] 53)).heap.size = w.heap.size + 1 := by simp
  obtain ⟨hsz, har, _⟩ := road_szs hF (fuelP fuel)
  have hfl := fuel_le fuel
  have h1 : (atP F fuel).fr.length ≤ 1000 := by have := hsz.fr; show (nthP F (startP F) (fuelP fuel)).fr.length ≤ 1000; omega
  have h2 : (atP F fuel).arr.length ≤ 200000 := by show (nthP F (startP F) (fuelP fuel)).arr.length ≤ 200000; omega
  have h3 : ∀ i, i < (atP F fuel).fr.length → (frAt (atP F fuel).fr i).loc.length ≤ 200000 ∧ (frAt (atP F fuel).fr i).stk.length ≤ 200000 := fun i hi => by have := hsz.ls _ (frAt_mem hi); show (frAt (nthP F (startP F) (fuelP fuel)).fr i).loc.length ≤ 200000 ∧ (frAt (nthP F (startP F) (fuelP fuel)).fr i).stk.length ≤ 200000; omega
  have h4 : ∀ j, j < (atP F fuel).arr.length → ((atP F fuel).arr.getD j []).length ≤ 200000 := fun j hj => by have := hsz.al _ (getD_mem hj); show ((nthP F (startP F) (fuelP fuel)).arr.getD j []).length ≤ 200000; omega
  generalize endP (atP F fuel) = en at *
  generalize atP F fuel = sN at *
  have HR := hid hrun
  have HX := hid (And.intro hW (And.intro r0 hz))
  have HZ := hid (And.intro h1 (And.intro h2 (And.intro h3 h4)))
  clear hrun hW hP hP2 hc r0 hz hF hcc hsz har hfl h1 h2 h3 h4
  go_enter Tryz.func22, Tryz.ntmps22
  go_wp2_with fail
  refine HR.out.mono ?_
  rintro e w2 ⟨mb, rfl, hB2, A2, MV2, m2⟩
  have HO := hid (stateM w2 _ mb A2 sN en m2.lay HZ.out.1 HZ.out.2.1 HZ.out.2.2.1 HZ.out.2.2.2)
  have HB2 := hid hB2
  clear hB2 m2 HR
  go_wp2_with fail
  refine HO.out.mono ?_
  intro e w3 hst
  obtain ⟨hW, r0, hz⟩ := HX.out
  have hz2 := HB2.out.size
  have r2 := (HB2.out.block w.heap.size (by omega)).trans r0
  obtain ⟨p1, c1, p2, c2, rfl, r3, hfin⟩ := StOut.stored (hW.trans (HB2.out.mono (by omega))) r2 hst
  have y0 : w3.cell? ⟨w.heap.size, 0, none⟩ = some (.slice none 0 0) := (cell_heap r3).trans rfl
  have y1 : w3.cell? ⟨w.heap.size, 1, none⟩ = some (.slice none 0 0) := (cell_heap r3).trans rfl
  have z0 := frozen_heap (o := 0) r3
  have z1 := frozen_heap (o := 1) r3
  have g0 := heap_set (o := 1) (heap_set (o := 0) r3 (.slice p1 sN.fr.length c1)) (.slice p2 sN.arr.length c2)
  have HQ := hid (And.intro g0 hfin)
  clear hst r0 r2 r3 hW hz hz2 HX HB2 HO g0 hfin HZ
  go_wp2
  obtain ⟨g0, hfin⟩ := HQ.out
  generalize (w3.setCell ⟨w.heap.size, 0, none⟩ (.slice p1 sN.fr.length c1)).setCell ⟨w.heap.size, 1, none⟩ (.slice p2 sN.arr.length c2) = V at *
  have v0 : V.cell? ⟨w.heap.size, 0, none⟩ = some (.slice p1 sN.fr.length c1) := (cell_heap g0).trans rfl
  have v1 : V.cell? ⟨w.heap.size, 1, none⟩ = some (.slice p2 sN.arr.length c2) := (cell_heap g0).trans rfl
  exact bodyPost_ret (v := .agg #[.slice p1 sN.fr.length c1, .slice p2 sN.arr.length c2]) (by simp [results, Tryz.results22, go_sem, v0, v1]) rfl hfin
end Go.Proofs.YtkafkipjedpohaaGreatDoor
