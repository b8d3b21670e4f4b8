import Derived.Test.YtkafkipjedpohaaGreatDoorK7
import Derived.Test.YtkafkipjedpohaaGreatDoorM27
import Derived.Test.YtkafkipjedpohaaGreatDoorK11
import Derived.Test.YtkafkipjedpohaaGreatDoorPureD

/-
  The project's machine: Counts; upshift's Shift.
-/
namespace Go.Proofs.YtkafkipjedpohaaGreatDoor
open Go.RowKit

theorem EvV.mono {w : World} {B B2 : Nat} {v : Value} {E : List Ev} (h : EvV w B v E) (hb : B ≤ B2) : EvV w B2 v E := by
  obtain ⟨p, c, h1, h2, h3⟩ := h
  refine ⟨p, c, h1, h2, fun hE => ?_⟩
  obtain ⟨eb, eo, e1, e2, e3⟩ := h3 hE
  exact ⟨eb, eo, e1, by omega, e3⟩

/-- Counts that go out. -/
def CountsV (s : Mc) : Value := .agg #[.int .i64 s.cH, .int .i64 s.cU, .int .i64 s.cD]

set_option maxHeartbeats 1000000 in
theorem countsM (w : World) (B mb m : Nat) (F : Nat → PF) (MV : Nat → Value) (A : AdM) (s : Mc) (en : Int) (hM : MSt w B mb m F MV A s en) :
    Calls Tryz.prog 46 #[.pointer (some ⟨mb, 0, none⟩)] w fun e w' => e = .returned (CountsV s) ∧ Below w.heap.size w w' := by
  have x8 : w.cell? ⟨mb, 8, none⟩ = some (.int .i64 s.cH) := by rw [cell_heap hM.lay.run, ← hM.cnt.1]; rfl
  have x9 : w.cell? ⟨mb, 9, none⟩ = some (.int .i64 s.cU) := by rw [cell_heap hM.lay.run, ← hM.cnt.2.1]; rfl
  have x10 : w.cell? ⟨mb, 10, none⟩ = some (.int .i64 s.cD) := by rw [cell_heap hM.lay.run, ← hM.cnt.2.2]; rfl
  have hmz := heap_lt hM.lay.run
  have hne : ¬ mb = w.heap.size := by omega
  have HQ := hid (show Below w.heap.size w (w.alloc (.cells #[.int .i64 s.cH, .int .i64 s.cU, .int .i64 s.cD] 61)) from (Below.refl _ _).alloc (Nat.le_refl _) _)
  clear hM
  unfold CountsV
  go_enter Tryz.func46, Tryz.ntmps46
  go_wp2
  exact bodyPost_ret (v := .agg #[.int .i64 s.cH, .int .i64 s.cU, .int .i64 s.cD]) (by simp [results, Tryz.results46, go_sem]) rfl ⟨rfl, HQ.out⟩

/-- The events are refused: nothing is run. -/
def noOutcome : Value := .agg #[.int .i64 0, .int .i64 0, .int .i64 0, .int .i64 0, .slice none 0 0]
def noCounts : Value := .agg #[.int .i64 0, .int .i64 0, .int .i64 0]

/-- An outcome and counts are stored into their blocks. -/
def shiftW (w : World) (n : Nat) (a0 a1 a2 a3 a4 c0 c1 c2 : Value) : World :=
  (((((((w.setCell ⟨n, 0, none⟩ a0).setCell ⟨n, 1, none⟩ a1).setCell ⟨n, 2, none⟩ a2).setCell ⟨n, 3, none⟩ a3).setCell ⟨n, 4, none⟩ a4).setCell ⟨n + 1, 0, none⟩ c0).setCell ⟨n + 1, 1, none⟩ c1).setCell ⟨n + 1, 2, none⟩ c2
theorem shiftW_at {w : World} {n : Nat} (q0 : w.heap[n]? = some (.cells #[.int .i64 0, .int .i64 0, .int .i64 0, .int .i64 0, .slice none 0 0] 46 (0, 0))) (q1 : w.heap[n + 1]? = some (.cells #[.int .i64 0, .int .i64 0, .int .i64 0] 61 (0, 0))) (a0 a1 a2 a3 a4 c0 c1 c2 : Value) :
    (shiftW w n a0 a1 a2 a3 a4 c0 c1 c2).heap[n]? = some (.cells #[a0, a1, a2, a3, a4] 46 (0, 0)) ∧ (shiftW w n a0 a1 a2 a3 a4 c0 c1 c2).heap[n + 1]? = some (.cells #[c0, c1, c2] 61 (0, 0)) := by
  have g0 := heap_set (o := 4) (heap_set (o := 3) (heap_set (o := 2) (heap_set (o := 1) (heap_set (o := 0) q0 a0) a1) a2) a3) a4
  have k0 : ∀ (X : World) (o : Nat) (v : Value), (X.setCell ⟨n, o, none⟩ v).heap[n + 1]? = X.heap[n + 1]? := fun X o v => Below.heap_setCell _ _ _ _ (by dsimp only; omega)
  have k1 : ∀ (X : World) (o : Nat) (v : Value), (X.setCell ⟨n + 1, o, none⟩ v).heap[n]? = X.heap[n]? := fun X o v => Below.heap_setCell _ _ _ _ (by dsimp only; omega)
  unfold shiftW
  refine ⟨?_, ?_⟩
  · rw [k1, k1, k1]
    exact g0
  · have q1' : (((((w.setCell ⟨n, 0, none⟩ a0).setCell ⟨n, 1, none⟩ a1).setCell ⟨n, 2, none⟩ a2).setCell ⟨n, 3, none⟩ a3).setCell ⟨n, 4, none⟩ a4).heap[n + 1]? = some (.cells #[.int .i64 0, .int .i64 0, .int .i64 0] 61 (0, 0)) := by rw [k0, k0, k0, k0, k0]; exact q1
    exact heap_set (o := 2) (heap_set (o := 1) (heap_set (o := 0) q1' c0) c1) c2
theorem shiftW_below {B : Nat} {u w : World} (h : Below B u w) {n : Nat} (hn : B ≤ n) (a0 a1 a2 a3 a4 c0 c1 c2 : Value) : Below B u (shiftW w n a0 a1 a2 a3 a4 c0 c1 c2) :=
  below_set (below_set (below_set (below_set (below_set (below_set (below_set (below_set h hn _) hn _) hn _) hn _) hn _) (by omega) _) (by omega) _) (by omega) _
theorem shiftW_out {u X w : World} {v : Value} {l : List V} (h : OutL X w v l) {n : Nat} (hu : u.heap.size ≤ X.heap.size) (hn : n + 1 < X.heap.size) (a0 a1 a2 a3 a4 c0 c1 c2 : Value) : OutL u (shiftW w n a0 a1 a2 a3 a4 c0 c1 c2) v l :=
  (OutL.set (OutL.set (OutL.set (OutL.set (OutL.set (OutL.set (OutL.set (OutL.set (o := 0) h hu (by omega) _).2 (o := 1) hu (by omega) _).2 (o := 2) hu (by omega) _).2 (o := 3) hu (by omega) _).2 (o := 4) hu (by omega) _).2 (o := 0) hu hn _).2 (o := 1) hu hn _).2 (o := 2) hu hn _).1

set_option maxRecDepth 100000 in
set_option maxHeartbeats 1000000 in
theorem codeShift (w : World) (cb pb po pc m : Nat) (F : Nat → PF) (K : Nat → Nat → Bool) (H : Nat → Nat → Int) (CA : Nat → Option Addr) (CC : Nat → Nat) (fuel : Int) (ev : Value) (E : List Ev) (hc : w.cell? ⟨cb, 0, none⟩ = some (.slice (some ⟨pb, po, none⟩) m pc)) (hP : ProgAt w pb po m F CA CC) (hcc : ∀ k, k < m → (F k).cn ≤ CC k) (hF : Fine m F K H) (hEv : EvV w w.heap.size ev E) (hok : eventsP m E = 0) :
    Calls Tryz.prog 26 #[.pointer (some ⟨cb, 0, none⟩), ev, .int .i64 fuel] w fun e w' => ∃ v, e = .returned (.tuple #[OutcomeV (endP (atE F E fuel)) (atE F E fuel) v, CountsV (atE F E fuel), .int .i64 0]) ∧ Below w.heap.size w w' ∧ OutL w w' v (atE F E fuel).out := by
  have hm := hF.size
  have hEok : EvsOk m E := by
    unfold eventsP at hok
    by_cases h200 : 200 < E.length
    · rw [if_pos h200] at hok; omega
    · rw [if_neg h200] at hok
      by_cases he : evsP m 0 E = true
      · obtain ⟨k1, k2⟩ := evsP_ok (Int.le_refl 0) he
        exact ⟨k1, k2, by omega⟩
      · rw [if_neg he] at hok; omega
  have hout : (atE F E fuel).out.length ≤ 200000 := by
    have h6 := evs_six hF hEok.rise hEok.ok (fuelP fuel)
    have := (road_szs hF (fuelP fuel)).2.2
    have := fuel_le fuel
    show (evS F (startP F) E (fuelP fuel)).1.out.length ≤ 200000
    rw [h6.out]
    omega
  have hcz := World.block_lt_of_cell? w _ hc
  have hW : Below w.heap.size w ((w.alloc (.cells #[.int .i64 0, .int .i64 0, .int .i64 0, .int .i64 0, .slice none 0 0] 46)).alloc (.cells #[.int .i64 0, .int .i64 0, .int .i64 0] 61)) := ((Below.refl _ _).alloc (Nat.le_refl _) _).alloc (by simp) _
  have hz : ((w.alloc (.cells #[.int .i64 0, .int .i64 0, .int .i64 0, .int .i64 0, .slice none 0 0] 46)).alloc (.cells #[.int .i64 0, .int .i64 0, .int .i64 0] 61)).heap.size = w.heap.size + 2 := by simp
  have r0 : ((w.alloc (.cells #[.int .i64 0, .int .i64 0, .int .i64 0, .int .i64 0, .slice none 0 0] 46)).alloc (.cells #[.int .i64 0, .int .i64 0, .int .i64 0] 61)).heap[w.heap.size]? = some (.cells #[.int .i64 0, .int .i64 0, .int .i64 0, .int .i64 0, .slice none 0 0] 46 (0, 0)) := (Below.heap_alloc _ _ _ (by simp)).trans (Go.Deep.blk_alloc_new _ _)
  have r1 : ((w.alloc (.cells #[.int .i64 0, .int .i64 0, .int .i64 0, .int .i64 0, .slice none 0 0] 46)).alloc (.cells #[.int .i64 0, .int .i64 0, .int .i64 0] 61)).heap[w.heap.size + 1]? = some (.cells #[.int .i64 0, .int .i64 0, .int .i64 0] 61 (0, 0)) := by
    have := Go.Deep.blk_alloc_new (w.alloc (.cells #[.int .i64 0, .int .i64 0, .int .i64 0, .int .i64 0, .slice none 0 0] 46)) (.cells #[.int .i64 0, .int .i64 0, .int .i64 0] 61)
    simpa using this
  have c0 := (hW.cell (p := ⟨cb, 0, none⟩) hcz).trans hc
  generalize hWe : (w.alloc (.cells #[.int .i64 0, .int .i64 0, .int .i64 0, .int .i64 0, .slice none 0 0] 46)).alloc (.cells #[.int .i64 0, .int .i64 0, .int .i64 0] 61) = W at *
  have hEW : EvV W W.heap.size ev E := (hEv.below hW).mono (by omega)
  have hcon := eventsM W ev E hEW (m : Int) (by omega)
  rw [hok] at hcon
  have hPW := hP.below hW (Nat.le_refl _)
  have HSh := hid (fun (X : World) (hX : Below W.heap.size W X) => (shiftM X m _ F K H fuel ev E hEok ((hEW.below hX).mono hX.size) (CapsAt.of_prog (pc := pc) (hPW.below hX (Nat.le_refl _)) hcc) (Pg.of_prog (pc := pc) (hPW.below hX (Nat.le_refl _))) hF))
  obtain ⟨ep, ecc, rfl, _⟩ := hEv
  have HC := hid hcon
  have HX := hid (And.intro hW (And.intro r0 (And.intro r1 hz)))
  have HC0 := hid (fun (X : World) (hX : Below W.heap.size W X) => (hX.cell (p := ⟨cb, 0, none⟩) (Nat.lt_of_lt_of_le (show cb < w.heap.size from hcz) hW.size)).trans c0)
  have HO := hid hout
  clear hcon hW r0 r1 hz hc hok hPW hEW hP hcc hF hEok hm hout
  generalize endP (atE F E fuel) = en at *
  generalize atE F E fuel = sN at *
  generalize E.length = el at *
  subst hWe
  go_enter Tryz.func26, Tryz.ntmps26
  go_wp2_with fail
  refine HC.out.mono ?_
  rintro e w2 ⟨rfl, hB2⟩
  clear c0
  have c2 := HC0.out w2 hB2
  obtain ⟨hW, r0, r1, hz⟩ := HX.out
  have hz2 := hB2.size
  have q0 := (hB2.block w.heap.size (by omega)).trans r0
  have q1 := (hB2.block (w.heap.size + 1) (by omega)).trans r1
  have HB := hid (And.intro (hW.trans (hB2.mono (by omega))) (And.intro q0 (And.intro q1 (show w.heap.size + 2 ≤ w2.heap.size by omega))))
  have HSh2 := hid (HSh.out w2 hB2)
  clear hB2 hW r0 r1 hz hz2 q0 q1 HX HC HC0 HSh
  go_wp2_with fail
  refine HSh2.out.mono ?_
  rintro e w3 ⟨mb, rfl, hB3, A3, MV3, m3⟩
  have HM := hid (And.intro m3 hB3)
  clear m3 hB3 HSh2 c2
  go_wp2_with fail
  refine (outcomeM w3 _ mb A3 sN en HM.out.1.lay HO.out).mono ?_
  rintro e w4 ⟨v4, rfl, hB4, hO4⟩
  obtain ⟨p4, cp4, hv4, _⟩ := Row.any hO4
  subst hv4
  have HM4 := hid (And.intro (HM.out.1.below hB4) (And.intro hB4 hO4))
  clear hB4 hO4 HO
  unfold OutcomeV
  go_wp2_with fail
  refine (countsM w4 _ mb m F MV3 A3 sN en HM4.out.1).mono ?_
  rintro e w5 ⟨rfl, hB5⟩
  obtain ⟨_, hB4, hO4⟩ := HM4.out
  obtain ⟨_, hB3⟩ := HM.out
  obtain ⟨hB2, q0, q1, hz⟩ := HB.out
  have hz3 := hB3.size
  have hz4 := hB4.size
  have hB25 : Below w2.heap.size w2 w5 := (hB3.trans (hB4.mono hz3)).trans (hB5.mono (by omega))
  have s0 := (hB25.block w.heap.size (by omega)).trans q0
  have s1 := (hB25.block (w.heap.size + 1) (by omega)).trans q1
  have hB : Below w.heap.size w w5 := hB2.trans (hB25.mono (by omega))
  have hO5 := hO4.later hB5
  have y0 : w5.cell? ⟨w.heap.size, 0, none⟩ = some (.int .i64 0) := (cell_heap s0).trans rfl
  have y1 : w5.cell? ⟨w.heap.size, 1, none⟩ = some (.int .i64 0) := (cell_heap s0).trans rfl
  have y2 : w5.cell? ⟨w.heap.size, 2, none⟩ = some (.int .i64 0) := (cell_heap s0).trans rfl
  have y3 : w5.cell? ⟨w.heap.size, 3, none⟩ = some (.int .i64 0) := (cell_heap s0).trans rfl
  have y4 : w5.cell? ⟨w.heap.size, 4, none⟩ = some (.slice none 0 0) := (cell_heap s0).trans rfl
  have z0 := frozen_heap (o := 0) s0
  have z1 := frozen_heap (o := 1) s0
  have z2 := frozen_heap (o := 2) s0
  have z3 := frozen_heap (o := 3) s0
  have z4 := frozen_heap (o := 4) s0
  have x0 : w5.cell? ⟨w.heap.size + 1, 0, none⟩ = some (.int .i64 0) := (cell_heap s1).trans rfl
  have x1 : w5.cell? ⟨w.heap.size + 1, 1, none⟩ = some (.int .i64 0) := (cell_heap s1).trans rfl
  have x2 : w5.cell? ⟨w.heap.size + 1, 2, none⟩ = some (.int .i64 0) := (cell_heap s1).trans rfl
  have u0 := frozen_heap (o := 0) s1
  have u1 := frozen_heap (o := 1) s1
  have u2 := frozen_heap (o := 2) s1
  have HE := hid (And.intro (shiftW_at s0 s1 (.int .i64 en) (.int .i64 sN.steps) (.int .i64 sN.gives.k) (.int .i64 sN.gives.n) (.slice p4 sN.out.length cp4) (.int .i64 sN.cH) (.int .i64 sN.cU) (.int .i64 sN.cD)) (And.intro (shiftW_below hB (Nat.le_refl _) (.int .i64 en) (.int .i64 sN.steps) (.int .i64 sN.gives.k) (.int .i64 sN.gives.n) (.slice p4 sN.out.length cp4) (.int .i64 sN.cH) (.int .i64 sN.cU) (.int .i64 sN.cD)) (shiftW_out (u := w) (n := w.heap.size) hO5 (by omega) (by omega) (.int .i64 en) (.int .i64 sN.steps) (.int .i64 sN.gives.k) (.int .i64 sN.gives.n) (.slice p4 sN.out.length cp4) (.int .i64 sN.cH) (.int .i64 sN.cU) (.int .i64 sN.cD))))
  clear hB5 hB4 hO4 hB3 hB2 q0 q1 hz hz3 hz4 hB25 s0 s1 hB hO5 HM HM4 HB
  unfold CountsV
  go_wp2
  obtain ⟨⟨g0, g1⟩, hF, hol⟩ := HE.out
  clear y0 y1 y2 y3 y4 z0 z1 z2 z3 z4 x0 x1 x2 u0 u1 u2 HE
  refine (show bodyPost Tryz.prog Tryz.f26 _ _ _ (shiftW w5 w.heap.size (.int .i64 en) (.int .i64 sN.steps) (.int .i64 sN.gives.k) (.int .i64 sN.gives.n) (.slice p4 sN.out.length cp4) (.int .i64 sN.cH) (.int .i64 sN.cU) (.int .i64 sN.cD)) from ?_)
  generalize shiftW w5 w.heap.size (.int .i64 en) (.int .i64 sN.steps) (.int .i64 sN.gives.k) (.int .i64 sN.gives.n) (.slice p4 sN.out.length cp4) (.int .i64 sN.cH) (.int .i64 sN.cU) (.int .i64 sN.cD) = V at *
  have y0 : V.cell? ⟨w.heap.size, 0, none⟩ = some (.int .i64 en) := (cell_heap g0).trans rfl
  have y1 : V.cell? ⟨w.heap.size, 1, none⟩ = some (.int .i64 sN.steps) := (cell_heap g0).trans rfl
  have y2 : V.cell? ⟨w.heap.size, 2, none⟩ = some (.int .i64 sN.gives.k) := (cell_heap g0).trans rfl
  have y3 : V.cell? ⟨w.heap.size, 3, none⟩ = some (.int .i64 sN.gives.n) := (cell_heap g0).trans rfl
  have y4 : V.cell? ⟨w.heap.size, 4, none⟩ = some (.slice p4 sN.out.length cp4) := (cell_heap g0).trans rfl
  have x0 : V.cell? ⟨w.heap.size + 1, 0, none⟩ = some (.int .i64 sN.cH) := (cell_heap g1).trans rfl
  have x1 : V.cell? ⟨w.heap.size + 1, 1, none⟩ = some (.int .i64 sN.cU) := (cell_heap g1).trans rfl
  have x2 : V.cell? ⟨w.heap.size + 1, 2, none⟩ = some (.int .i64 sN.cD) := (cell_heap g1).trans rfl
  exact bodyPost_ret (v := .tuple #[OutcomeV en sN (.slice p4 sN.out.length cp4), CountsV sN, .int .i64 0]) (by simp [results, Tryz.results26, go_sem, y0, y1, y2, y3, y4, x0, x1, x2, OutcomeV, CountsV]) rfl ⟨_, rfl, hF, hol⟩
end Go.Proofs.YtkafkipjedpohaaGreatDoor

/-
  upshift's Look.
-/
namespace Go.Proofs.YtkafkipjedpohaaGreatDoor
open Go.RowKit

end Go.Proofs.YtkafkipjedpohaaGreatDoor

/-
  upshift's Stop.
-/
namespace Go.Proofs.YtkafkipjedpohaaGreatDoor
open Go.RowKit

theorem eventsP_ok {m : Nat} {E : List Ev} (hok : eventsP m E = 0) : EvsOk m E := by
  unfold eventsP at hok
  by_cases h200 : 200 < E.length
  · rw [if_pos h200] at hok; omega
  · rw [if_neg h200] at hok
    by_cases he : evsP m 0 E = true
    · obtain ⟨k1, k2⟩ := evsP_ok (Int.le_refl 0) he
      exact ⟨k1, k2, by omega⟩
    · rw [if_neg he] at hok; omega

end Go.Proofs.YtkafkipjedpohaaGreatDoor

/-
  The counts of a run with events, as plain mathematics. No Go here.
-/
namespace Go.Proofs.YtkafkipjedpohaaGreatDoor

variable {m : Nat} {F : Nat → PF} {K : Nat → Nat → Bool} {H : Nat → Nat → Int}

theorem evs_bd (hF : Fine m F K H) {E : List Ev} (hr : Rising 0 E) (hok : ∀ e, e ∈ E → EvOk m e) : ∀ n, Bd (evS F (startP F) E n).1
  | 0 => (met_cm (F := F) E (startP F) (start_inv hF).1.highs).bd start_bd
  | n + 1 => by
    have ih := evs_bd hF hr hok n
    have hAt := run_at hF hr hok n
    unfold evS
    generalize evS F (startP F) E n = x at *
    split
    · rename_i hz
      obtain ⟨hI, _⟩ := hAt.go hz
      obtain ⟨f, rest, hfr, _⟩ := hI.top
      split
      · rename_i hz2
        exact (met_cm (F := F) x.2 (stepP F x.1) (step_inv hF hI hz2).highs).bd (Bd.step ih hz hfr)
      · exact Bd.step ih hz hfr
    · exact ih

/-- How many events are of kind k. -/
def cntK (k : Int) (E : List Ev) : Nat := (E.filter fun e => decide (e.k = k)).length
theorem cntK_cons (k : Int) (e : Ev) (r : List Ev) : cntK k (e :: r) = (if e.k = k then 1 else 0) + cntK k r := by
  unfold cntK
  rw [List.filter_cons]
  by_cases h : e.k = k
  · simp [h]; omega
  · simp [h]

theorem come_cU (k n : Int) (s : Mc) : (comesP F k n s).cU ≤ s.cU + if k = 3 then 1 else 0 := by
  unfold comesP
  split
  · exact Nat.le_add_right _ _
  · split
    · split
      · exact Nat.le_succ _
      · split
        · exact Nat.le_refl _
        · exact Nat.le_succ _
    · exact Nat.le_add_right _ _
theorem met_cU : ∀ (E : List Ev) (s : Mc), (metP F E s).1.cU + cntK 3 (metP F E s).2 ≤ s.cU + cntK 3 E
  | [], s => Nat.le_refl _
  | e :: r, s => by
    unfold metP
    split
    · have h1 := met_cU r (comesP F e.k e.n s)
      have h2 := come_cU (F := F) e.k e.n s
      rw [cntK_cons]
      omega
    · exact Nat.le_refl _
theorem evs_cU (hF : Fine m F K H) {E : List Ev} (hr : Rising 0 E) (hok : ∀ e, e ∈ E → EvOk m e) : ∀ n, (evS F (startP F) E n).1.cU + cntK 3 (evS F (startP F) E n).2 ≤ cntK 3 E
  | 0 => by
    have := met_cU (F := F) E (startP F)
    have h0 : (startP F).cU = 0 := rfl
    show (metP F E (startP F)).1.cU + cntK 3 (metP F E (startP F)).2 ≤ _
    omega
  | n + 1 => by
    have ih := evs_cU hF hr hok n
    have hAt := run_at hF hr hok n
    unfold evS
    generalize evS F (startP F) E n = x at *
    split
    · rename_i hz
      obtain ⟨hI, _⟩ := hAt.go hz
      obtain ⟨f, rest, hfr, _⟩ := hI.top
      have hu := (step_cUD (F := F) hfr).1
      split
      · have := met_cU (F := F) x.2 (stepP F x.1)
        omega
      · show (stepP F x.1).cU + cntK 3 x.2 ≤ _
        omega
    · exact ih

/-- Nothing is made, nothing high. -/
structure AllLow (s : Mc) : Prop where
  made : ∀ k, s.made k = false
  high : ∀ b, b ∈ s.high → b = false
  cH : s.cH = 0
  cU : s.cU = 0
  cD : s.cD = 0
theorem AllLow.top {s : Mc} (h : AllLow s) : s.high.headD false = false := by
  cases hc : s.high with
  | nil => rfl
  | cons b r => exact h.high b (by rw [hc]; exact List.mem_cons_self)
theorem downs_low (all : Bool) (n : Int) : ∀ (fr : List Fr) (hs : List Bool), (∀ b, b ∈ hs → b = false) → downs all n fr hs = (hs, 0)
  | [], hs, _ => by cases hs <;> rfl
  | _ :: _, [], _ => rfl
  | f :: fr, h :: hs, hl => by
    have h0 : h = false := hl h List.mem_cons_self
    have ih := downs_low all n fr hs (fun b hb => hl b (List.mem_cons_of_mem _ hb))
    unfold downs
    rw [ih, h0]
    simp
theorem AllLow.come {s : Mc} (h : AllLow s) {k : Int} (n : Int) (hk : k ≠ 1) : AllLow (comesP F k n s) := by
  unfold comesP
  rw [if_neg hk]
  split
  · split
    · exact h
    · rw [if_neg (fun hh => by rw [h.made] at hh; exact absurd hh.2.1 (by simp))]
      exact h
  · rw [downs_low _ _ _ _ h.high]
    refine ⟨fun j => ?_, h.high, h.cH, h.cU, h.cD⟩
    show (if k = 2 then upd s.made n.toNat false else s.made) j = false
    split
    · unfold upd; split
      · rfl
      · exact h.made j
    · exact h.made j
theorem AllLow.met : ∀ (E : List Ev) {s : Mc}, AllLow s → (∀ e, e ∈ E → e.k ≠ 1) → AllLow (metP F E s).1 ∧ ∀ e, e ∈ (metP F E s).2 → e ∈ E
  | [], s, h, _ => ⟨h, fun e he => he⟩
  | e :: r, s, h, hk => by
    unfold metP
    split
    · obtain ⟨h1, h2⟩ := AllLow.met r (h.come (F := F) e.n (hk e List.mem_cons_self)) (fun x hx => hk x (List.mem_cons_of_mem _ hx))
      exact ⟨h1, fun x hx => List.mem_cons_of_mem _ (h2 x hx)⟩
    · exact ⟨h, fun x hx => hx⟩
theorem AllLow.call {s : Mc} (h : AllLow s) (A : Nat) (f : Fr) (rest : List Fr) : AllLow (callP F A f rest s) := by
  unfold callP
  split
  · exact h
  · split
    · exact ⟨h.made, h.high, h.cH, h.cU, h.cD⟩
    · split
      · exact ⟨h.made, h.high, h.cH, h.cU, h.cD⟩
      · refine ⟨h.made, fun b hb => ?_, h.cH, h.cU, h.cD⟩
        rcases List.mem_cons.1 hb with rfl | hb
        · exact h.made _
        · exact h.high b hb
theorem AllLow.ret {s : Mc} (h : AllLow s) (f : Fr) (rest : List Fr) : AllLow (returnP f rest s) := by
  unfold returnP
  split
  · exact h
  · split
    · exact ⟨h.made, fun b hb => h.high b (List.mem_of_mem_drop hb), h.cH, h.cU, h.cD⟩
    · exact ⟨h.made, fun b hb => h.high b (List.mem_of_mem_drop hb), h.cH, h.cU, h.cD⟩
theorem AllLow.step {s : Mc} (h : AllLow s) : AllLow (stepP F s) := by
  cases hc : s.fr with
  | nil =>
    have e1 : stepP F s = s := by unfold stepP; rw [hc]
    rw [e1]
    exact h
  | cons f rest =>
    rw [stepP_at hc]
    unfold stepQ
    dsimp only
    have hcH : s.cH + (if s.high.headD false = true then 1 else 0) = 0 := by rw [h.top, h.cH]; rfl
    rw [hcH]
    have h' : AllLow { s with steps := s.steps + 1, cH := 0 } := ⟨h.made, h.high, rfl, h.cU, h.cD⟩
    split
    · exact ⟨h.made, h.high, rfl, h.cU, h.cD⟩
    · split
      · split
        · exact ⟨h.made, h.high, rfl, h.cU, h.cD⟩
        · exact ⟨h.made, h.high, rfl, h.cU, h.cD⟩
      · split
        · exact h'.call _ _ _
        · split
          · exact h'.ret _ _
          · exact ⟨h.made, h.high, rfl, h.cU, h.cD⟩
theorem evs_low {E : List Ev} (hk : ∀ e, e ∈ E → e.k ≠ 1) : ∀ n, AllLow (evS F (startP F) E n).1 ∧ ∀ e, e ∈ (evS F (startP F) E n).2 → e ∈ E
  | 0 => AllLow.met E (F := F) ⟨fun _ => rfl, fun b hb => by simpa [startP] using hb, rfl, rfl, rfl⟩ hk
  | n + 1 => by
    obtain ⟨h1, h2⟩ := evs_low hk n
    unfold evS
    generalize evS F (startP F) E n = x at *
    split
    · split
      · obtain ⟨h3, h4⟩ := AllLow.met (F := F) x.2 (h1.step (F := F)) (fun e he => hk e (h2 e he))
        exact ⟨h3, fun e he => h2 e (h4 e he)⟩
      · exact ⟨h1.step, h2⟩
    · exact ⟨h1, h2⟩
theorem cntK_none {k : Int} {E : List Ev} (h : cntK k E = 0) : ∀ e, e ∈ E → e.k ≠ k := fun e he hk => by
  unfold cntK at h
  have := List.length_eq_zero_iff.1 h
  have hm : e ∈ E.filter fun e => decide (e.k = k) := List.mem_filter.2 ⟨he, by simpa using hk⟩
  rw [this] at hm
  cases hm
end Go.Proofs.YtkafkipjedpohaaGreatDoor
