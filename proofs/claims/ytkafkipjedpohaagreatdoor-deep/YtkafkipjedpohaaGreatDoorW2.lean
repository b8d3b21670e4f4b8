import Derived.Test.YtkafkipjedpohaaGreatDoorK9
import Derived.Test.YtkafkipjedpohaaGreatDoorM27
import Derived.Test.YtkafkipjedpohaaGreatDoorK11
import Derived.Test.YtkafkipjedpohaaGreatDoorM32
import Derived.Test.YtkafkipjedpohaaGreatDoorPureD

/-
  The project's machine: Counts; upshift's Shift.
-/
namespace Go.Proofs.YtkafkipjedpohaaGreatDoor
open Go.RowKit

theorem EvV.mono {w : World} {B B2 : Nat} {v : Value} {E : List Ev} (h : EvV w B v E) (hb : B ≤ B2) : EvV w B2 v E := by
  obtain ⟨p, c, h1, h2, h3⟩ := h
  refine ⟨p, c, h1, h2, fun hE => ?_⟩
  obtain ⟨eb, eo, e1, e2, e3⟩ := h3 hE
  exact ⟨eb, eo, e1, by omega, e3⟩

/-- Counts that go out. -/
def CountsV (s : Mc) : Value := .agg #[.int .i64 s.cH, .int .i64 s.cU, .int .i64 s.cD]

set_option maxHeartbeats 1000000 in
theorem countsM (w : World) (B mb m : Nat) (F : Nat → PF) (MV : Nat → Value) (A : AdM) (s : Mc) (en : Int) (hM : MSt w B mb m F MV A s en) :
    Calls Tryz.prog 46 #[.pointer (some ⟨mb, 0, none⟩)] w fun e w' => e = .returned (CountsV s) ∧ Below w.heap.size w w' := by
  have x8 : w.cell? ⟨mb, 8, none⟩ = some (.int .i64 s.cH) := by rw [cell_heap hM.lay.run, ← hM.cnt.1]; rfl
  have x9 : w.cell? ⟨mb, 9, none⟩ = some (.int .i64 s.cU) := by rw [cell_heap hM.lay.run, ← hM.cnt.2.1]; rfl
  have x10 : w.cell? ⟨mb, 10, none⟩ = some (.int .i64 s.cD) := by rw [cell_heap hM.lay.run, ← hM.cnt.2.2]; rfl
  have hmz := heap_lt hM.lay.run
  have hne : ¬ mb = w.heap.size := by omega
  have HQ := hid (show Below w.heap.size w (w.alloc (.cells #[.int .i64 s.cH, .int .i64 s.cU, .int .i64 s.cD] 61)) from (Below.refl _ _).alloc (Nat.le_refl _) _)
  clear hM
  unfold CountsV
  go_enter Tryz.func46, Tryz.ntmps46
  go_wp2
  exact bodyPost_ret (v := .agg #[.int .i64 s.cH, .int .i64 s.cU, .int .i64 s.cD]) (by simp [results, Tryz.results46, go_sem]) rfl ⟨rfl, HQ.out⟩

/-- The events are refused: nothing is run. -/
def noOutcome : Value := .agg #[.int .i64 0, .int .i64 0, .int .i64 0, .int .i64 0, .slice none 0 0]
def noCounts : Value := .agg #[.int .i64 0, .int .i64 0, .int .i64 0]

/-- An outcome and counts are stored into their blocks. -/
def shiftW (w : World) (n : Nat) (a0 a1 a2 a3 a4 c0 c1 c2 : Value) : World :=
  (((((((w.setCell ⟨n, 0, none⟩ a0).setCell ⟨n, 1, none⟩ a1).setCell ⟨n, 2, none⟩ a2).setCell ⟨n, 3, none⟩ a3).setCell ⟨n, 4, none⟩ a4).setCell ⟨n + 1, 0, none⟩ c0).setCell ⟨n + 1, 1, none⟩ c1).setCell ⟨n + 1, 2, none⟩ c2
theorem shiftW_at {w : World} {n : Nat} (q0 : w.heap[n]? = some (.cells #[.int .i64 0, .int .i64 0, .int .i64 0, .int .i64 0, .slice none 0 0] 46 (0, 0))) (q1 : w.heap[n + 1]? = some (.cells #[.int .i64 0, .int .i64 0, .int .i64 0] 61 (0, 0))) (a0 a1 a2 a3 a4 c0 c1 c2 : Value) :
    (shiftW w n a0 a1 a2 a3 a4 c0 c1 c2).heap[n]? = some (.cells #[a0, a1, a2, a3, a4] 46 (0, 0)) ∧ (shiftW w n a0 a1 a2 a3 a4 c0 c1 c2).heap[n + 1]? = some (.cells #[c0, c1, c2] 61 (0, 0)) := by
  have g0 := heap_set (o := 4) (heap_set (o := 3) (heap_set (o := 2) (heap_set (o := 1) (heap_set (o := 0) q0 a0) a1) a2) a3) a4
  have k0 : ∀ (X : World) (o : Nat) (v : Value), (X.setCell ⟨n, o, none⟩ v).heap[n + 1]? = X.heap[n + 1]? := fun X o v => Below.heap_setCell _ _ _ _ (by dsimp only; omega)
  have k1 : ∀ (X : World) (o : Nat) (v : Value), (X.setCell ⟨n + 1, o, none⟩ v).heap[n]? = X.heap[n]? := fun X o v => Below.heap_setCell _ _ _ _ (by dsimp only; omega)
  unfold shiftW
  refine ⟨?_, ?_⟩
  · rw [k1, k1, k1]
    exact g0
  · have q1' : (((((w.setCell ⟨n, 0, none⟩ a0).setCell ⟨n, 1, none⟩ a1).setCell ⟨n, 2, none⟩ a2).setCell ⟨n, 3, none⟩ a3).setCell ⟨n, 4, none⟩ a4).heap[n + 1]? = some (.cells #[.int .i64 0, .int .i64 0, .int .i64 0] 61 (0, 0)) := by rw [k0, k0, k0, k0, k0]; exact q1
    exact heap_set (o := 2) (heap_set (o := 1) (heap_set (o := 0) q1' c0) c1) c2
theorem shiftW_below {B : Nat} {u w : World} (h : Below B u w) {n : Nat} (hn : B ≤ n) (a0 a1 a2 a3 a4 c0 c1 c2 : Value) : Below B u (shiftW w n a0 a1 a2 a3 a4 c0 c1 c2) :=
  below_set (below_set (below_set (below_set (below_set (below_set (below_set (below_set h hn _) hn _) hn _) hn _) hn _) (by omega) _) (by omega) _) (by omega) _
theorem shiftW_out {u X w : World} {v : Value} {l : List V} (h : OutL X w v l) {n : Nat} (hu : u.heap.size ≤ X.heap.size) (hn : n + 1 < X.heap.size) (a0 a1 a2 a3 a4 c0 c1 c2 : Value) : OutL u (shiftW w n a0 a1 a2 a3 a4 c0 c1 c2) v l :=
  (OutL.set (OutL.set (OutL.set (OutL.set (OutL.set (OutL.set (OutL.set (OutL.set (o := 0) h hu (by omega) _).2 (o := 1) hu (by omega) _).2 (o := 2) hu (by omega) _).2 (o := 3) hu (by omega) _).2 (o := 4) hu (by omega) _).2 (o := 0) hu hn _).2 (o := 1) hu hn _).2 (o := 2) hu hn _).1

set_option maxRecDepth 100000 in
set_option maxHeartbeats 1000000 in
theorem codeShift (w : World) (cb pb po pc m : Nat) (F : Nat → PF) (K : Nat → Nat → Bool) (H : Nat → Nat → Int) (CA : Nat → Option Addr) (CC : Nat → Nat) (fuel : Int) (ev : Value) (E : List Ev) (hc : w.cell? ⟨cb, 0, none⟩ = some (.slice (some ⟨pb, po, none⟩) m pc)) (hP : ProgAt w pb po m F CA CC) (hcc : ∀ k, k < m → (F k).cn ≤ CC k) (hF : Fine m F K H) (hEv : EvV w w.heap.size ev E) (hok : eventsP m E = 0) :
    Calls Tryz.prog 26 #[.pointer (some ⟨cb, 0, none⟩), ev, .int .i64 fuel] w fun e w' => ∃ v, e = .returned (.tuple #[OutcomeV (endP (atE F E fuel)) (atE F E fuel) v, CountsV (atE F E fuel), .int .i64 0]) ∧ Below w.heap.size w w' ∧ OutL w w' v (atE F E fuel).out := by
  have hm := hF.size
  have hEok : EvsOk m E := by
    unfold eventsP at hok
    by_cases h200 : 200 < E.length
    · rw [if_pos h200] at hok; omega
    · rw [if_neg h200] at hok
      by_cases he : evsP m 0 E = true
      · obtain ⟨k1, k2⟩ := evsP_ok (Int.le_refl 0) he
        exact ⟨k1, k2, by omega⟩
      · rw [if_neg he] at hok; omega
  have hout : (atE F E fuel).out.length ≤ 200000 := by
    have h6 := evs_six hF hEok.rise hEok.ok (fuelP fuel)
    have := (road_szs hF (fuelP fuel)).2.2
    have := fuel_le fuel
    show (evS F (startP F) E (fuelP fuel)).1.out.length ≤ 200000
    rw [h6.out]
    omega
  have hcz := World.block_lt_of_cell? w _ hc
  have hW : Below w.heap.size w ((w.alloc (.cells #[.int .i64 0, .int .i64 0, .int .i64 0, .int .i64 0, .slice none 0 0] 46)).alloc (.cells #[.int .i64 0, .int .i64 0, .int .i64 0] 61)) := ((Below.refl _ _).alloc (Nat.le_refl _) _).alloc (by simp) _
  have hz : ((w.alloc (.cells #[.int .i64 0, .int .i64 0, .int .i64 0, .int .i64 0, .slice none 0 0] 46)).alloc (.cells #[.int .i64 0, .int .i64 0, .int .i64 0] 61)).heap.size = w.heap.size + 2 := by simp
  have r0 : ((w.alloc (.cells #[.int .i64 0, .int .i64 0, .int .i64 0, .int .i64 0, .slice none 0 0] 46)).alloc (.cells #[.int .i64 0, .int .i64 0, .int .i64 0] 61)).heap[w.heap.size]? = some (.cells #[.int .i64 0, .int .i64 0, .int .i64 0, .int .i64 0, .slice none 0 0] 46 (0, 0)) := (Below.heap_alloc _ _ _ (by simp)).trans (Go.Deep.blk_alloc_new _ _)
  have r1 : ((w.alloc (.cells #[.int .i64 0, .int .i64 0, .int .i64 0, .int .i64 0, .slice none 0 0] 46)).alloc (.cells #[.int .i64 0, .int .i64 0, .int .i64 0] 61)).heap[w.heap.size + 1]? = some (.cells #[.int .i64 0, .int .i64 0, .int .i64 0] 61 (0, 0)) := by
    have := Go.Deep.blk_alloc_new (w.alloc (.cells #[.int .i64 0, .int .i64 0, .int .i64 0, .int .i64 0, .slice none 0 0] 46)) (.cells #[.int .i64 0, .int .i64 0, .int .i64 0] 61)
    simpa using this
  have c0 := (hW.cell (p := ⟨cb, 0, none⟩) hcz).trans hc
  generalize hWe : (w.alloc (.cells #[.int .i64 0, .int .i64 0, .int .i64 0, .int .i64 0, .slice none 0 0] 46)).alloc (.cells #[.int .i64 0, .int .i64 0, .int .i64 0] 61) = W at *
  have hEW : EvV W W.heap.size ev E := (hEv.below hW).mono (by omega)
  have hcon := eventsM W ev E hEW (m : Int) (by omega)
  rw [hok] at hcon
  have hPW := hP.below hW (Nat.le_refl _)
  have HSh := hid (fun (X : World) (hX : Below W.heap.size W X) => (shiftM X m _ F K H fuel ev E hEok ((hEW.below hX).mono hX.size) (CapsAt.of_prog (pc := pc) (hPW.below hX (Nat.le_refl _)) hcc) (Pg.of_prog (pc := pc) (hPW.below hX (Nat.le_refl _))) hF))
  obtain ⟨ep, ecc, rfl, _⟩ := hEv
  have HC := hid hcon
  have HX := hid (And.intro hW (And.intro r0 (And.intro r1 hz)))
  have HC0 := hid (fun (X : World) (hX : Below W.heap.size W X) => (hX.cell (p := ⟨cb, 0, none⟩) (Nat.lt_of_lt_of_le (show cb < w.heap.size from hcz) hW.size)).trans c0)
  have HO := hid hout
  clear hcon hW r0 r1 hz hc hok hPW hEW hP hcc hF hEok hm hout
  generalize endP (atE F E fuel) = en at *
  generalize atE F E fuel = sN at *
  generalize E.length = el at *
  subst hWe
  go_enter Tryz.func26, Tryz.ntmps26
  go_wp2_with fail
  refine HC.out.mono ?_
  rintro e w2 ⟨rfl, hB2⟩
  clear c0
  have c2 := HC0.out w2 hB2
  obtain ⟨hW, r0, r1, hz⟩ := HX.out
  have hz2 := hB2.size
  have q0 := (hB2.block w.heap.size (by omega)).trans r0
  have q1 := (hB2.block (w.heap.size + 1) (by omega)).trans r1
  have HB := hid (And.intro (hW.trans (hB2.mono (by omega))) (And.intro q0 (And.intro q1 (show w.heap.size + 2 ≤ w2.heap.size by omega))))
  have HSh2 := hid (HSh.out w2 hB2)
  clear hB2 hW r0 r1 hz hz2 q0 q1 HX HC HC0 HSh
  go_wp2_with fail
  refine HSh2.out.mono ?_
  rintro e w3 ⟨mb, rfl, hB3, A3, MV3, m3⟩
  have HM := hid (And.intro m3 hB3)
  clear m3 hB3 HSh2 c2
  go_wp2_with fail
  refine (outcomeM w3 _ mb A3 sN en HM.out.1.lay HO.out).mono ?_
  rintro e w4 ⟨v4, rfl, hB4, hO4⟩
  obtain ⟨p4, cp4, hv4, _⟩ := Row.any hO4
  subst hv4
  have HM4 := hid (And.intro (HM.out.1.below hB4) (And.intro hB4 hO4))
  clear hB4 hO4 HO
  unfold OutcomeV
  go_wp2_with fail
  refine (countsM w4 _ mb m F MV3 A3 sN en HM4.out.1).mono ?_
  rintro e w5 ⟨rfl, hB5⟩
  obtain ⟨_, hB4, hO4⟩ := HM4.out
  obtain ⟨_, hB3⟩ := HM.out
  obtain ⟨hB2, q0, q1, hz⟩ := HB.out
  have hz3 := hB3.size
  have hz4 := hB4.size
  have hB25 : Below w2.heap.size w2 w5 := (hB3.trans (hB4.mono hz3)).trans (hB5.mono (by omega))
  have s0 := (hB25.block w.heap.size (by omega)).trans q0
  have s1 := (hB25.block (w.heap.size + 1) (by omega)).trans q1
  have hB : Below w.heap.size w w5 := hB2.trans (hB25.mono (by omega))
  have hO5 := hO4.later hB5
  have y0 : w5.cell? ⟨w.heap.size, 0, none⟩ = some (.int .i64 0) := (cell_heap s0).trans rfl
  have y1 : w5.cell? ⟨w.heap.size, 1, none⟩ = some (.int .i64 0) := (cell_heap s0).trans rfl
  have y2 : w5.cell? ⟨w.heap.size, 2, none⟩ = some (.int .i64 0) := (cell_heap s0).trans rfl
  have y3 : w5.cell? ⟨w.heap.size, 3, none⟩ = some (.int .i64 0) := (cell_heap s0).trans rfl
  have y4 : w5.cell? ⟨w.heap.size, 4, none⟩ = some (.slice none 0 0) := (cell_heap s0).trans rfl
  have z0 := frozen_heap (o := 0) s0
  have z1 := frozen_heap (o := 1) s0
  have z2 := frozen_heap (o := 2) s0
  have z3 := frozen_heap (o := 3) s0
  have z4 := frozen_heap (o := 4) s0
  have x0 : w5.cell? ⟨w.heap.size + 1, 0, none⟩ = some (.int .i64 0) := (cell_heap s1).trans rfl
  have x1 : w5.cell? ⟨w.heap.size + 1, 1, none⟩ = some (.int .i64 0) := (cell_heap s1).trans rfl
  have x2 : w5.cell? ⟨w.heap.size + 1, 2, none⟩ = some (.int .i64 0) := (cell_heap s1).trans rfl
  have u0 := frozen_heap (o := 0) s1
  have u1 := frozen_heap (o := 1) s1
  have u2 := frozen_heap (o := 2) s1
  have HE := hid (And.intro (shiftW_at s0 s1 (.int .i64 en) (.int .i64 sN.steps) (.int .i64 sN.gives.k) (.int .i64 sN.gives.n) (.slice p4 sN.out.length cp4) (.int .i64 sN.cH) (.int .i64 sN.cU) (.int .i64 sN.cD)) (And.intro (shiftW_below hB (Nat.le_refl _) (.int .i64 en) (.int .i64 sN.steps) (.int .i64 sN.gives.k) (.int .i64 sN.gives.n) (.slice p4 sN.out.length cp4) (.int .i64 sN.cH) (.int .i64 sN.cU) (.int .i64 sN.cD)) (shiftW_out (u := w) (n := w.heap.size) hO5 (by omega) (by omega) (.int .i64 en) (.int .i64 sN.steps) (.int .i64 sN.gives.k) (.int .i64 sN.gives.n) (.slice p4 sN.out.length cp4) (.int .i64 sN.cH) (.int .i64 sN.cU) (.int .i64 sN.cD))))
  clear hB5 hB4 hO4 hB3 hB2 q0 q1 hz hz3 hz4 hB25 s0 s1 hB hO5 HM HM4 HB
  unfold CountsV
  go_wp2
  obtain ⟨⟨g0, g1⟩, hF, hol⟩ := HE.out
  clear y0 y1 y2 y3 y4 z0 z1 z2 z3 z4 x0 x1 x2 u0 u1 u2 HE
  refine (show bodyPost Tryz.prog Tryz.f26 _ _ _ (shiftW w5 w.heap.size (.int .i64 en) (.int .i64 sN.steps) (.int .i64 sN.gives.k) (.int .i64 sN.gives.n) (.slice p4 sN.out.length cp4) (.int .i64 sN.cH) (.int .i64 sN.cU) (.int .i64 sN.cD)) from ?_)
  generalize shiftW w5 w.heap.size (.int .i64 en) (.int .i64 sN.steps) (.int .i64 sN.gives.k) (.int .i64 sN.gives.n) (.slice p4 sN.out.length cp4) (.int .i64 sN.cH) (.int .i64 sN.cU) (.int .i64 sN.cD) = V at *
  have y0 : V.cell? ⟨w.heap.size, 0, none⟩ = some (.int .i64 en) := (cell_heap g0).trans rfl
  have y1 : V.cell? ⟨w.heap.size, 1, none⟩ = some (.int .i64 sN.steps) := (cell_heap g0).trans rfl
  have y2 : V.cell? ⟨w.heap.size, 2, none⟩ = some (.int .i64 sN.gives.k) := (cell_heap g0).trans rfl
  have y3 : V.cell? ⟨w.heap.size, 3, none⟩ = some (.int .i64 sN.gives.n) := (cell_heap g0).trans rfl
  have y4 : V.cell? ⟨w.heap.size, 4, none⟩ = some (.slice p4 sN.out.length cp4) := (cell_heap g0).trans rfl
  have x0 : V.cell? ⟨w.heap.size + 1, 0, none⟩ = some (.int .i64 sN.cH) := (cell_heap g1).trans rfl
  have x1 : V.cell? ⟨w.heap.size + 1, 1, none⟩ = some (.int .i64 sN.cU) := (cell_heap g1).trans rfl
  have x2 : V.cell? ⟨w.heap.size + 1, 2, none⟩ = some (.int .i64 sN.cD) := (cell_heap g1).trans rfl
  exact bodyPost_ret (v := .tuple #[OutcomeV en sN (.slice p4 sN.out.length cp4), CountsV sN, .int .i64 0]) (by simp [results, Tryz.results26, go_sem, y0, y1, y2, y3, y4, x0, x1, x2, OutcomeV, CountsV]) rfl ⟨_, rfl, hF, hol⟩
end Go.Proofs.YtkafkipjedpohaaGreatDoor

/-
  upshift's Look.
-/
namespace Go.Proofs.YtkafkipjedpohaaGreatDoor
open Go.RowKit

theorem Row.lower {w : World} {B B' : Nat} {tag tag' : Nat → Nat} {c : Nat} {e : TypeId} {sz : Nat} {v : Value} {n : Nat} {f : Nat → Value} (h : Row w B' tag c e sz v n f) (hB : B ≤ B') (ht : ∀ x, B' ≤ x → tag' x = tag x) : Row w B tag' c e sz v n f := by
  rcases h with h | ⟨b, cap, cur, hv, hb, hc, hr⟩
  · exact Or.inl h
  · exact Or.inr ⟨b, cap, cur, hv, by omega, (ht b hb).trans hc, hr⟩

/-- A state that went out of a callee, stored into a block that was there. -/
theorem StOut.stored {w w2 w3 : World} {fr : List Fr} {arr : List (List V)} {e : Ending} (hB : Below w.heap.size w w2) (hr : w2.heap[w.heap.size]? = some (.cells #[.slice none 0 0, .slice none 0 0] 53 (0, 0))) (h : StOut w2 w3 fr arr e) :
    ∃ p1 c1 p2 c2, e = .returned (.agg #[.slice p1 fr.length c1, .slice p2 arr.length c2]) ∧ w3.heap[w.heap.size]? = some (.cells #[.slice none 0 0, .slice none 0 0] 53 (0, 0)) ∧ StOut w ((w3.setCell ⟨w.heap.size, 0, none⟩ (.slice p1 fr.length c1)).setCell ⟨w.heap.size, 1, none⟩ (.slice p2 arr.length c2)) fr arr e := by
  obtain ⟨fv, av, LV, SV, AV, tag, rfl, hb, hf, ha⟩ := h
  obtain ⟨p1, c1, h1, _⟩ := hf.row.any
  obtain ⟨p2, c2, h2, _⟩ := ha.row.any
  subst h1 h2
  have hz := heap_lt hr
  refine ⟨p1, c1, p2, c2, rfl, (hb.block _ hz).trans hr, ?_⟩
  have ht : ∀ x, w2.heap.size ≤ x → (fun x => if x < w2.heap.size then 9 else tag x) x = tag x := fun x hx => if_neg (by omega)
  have h9 : (fun x => if x < w2.heap.size then 9 else tag x) w.heap.size = 9 := if_pos hz
  have hle : w.heap.size ≤ w2.heap.size := hB.size
  have hcs : Ch w.heap.size (fun d => d = 9) (fun x => if x < w2.heap.size then 9 else tag x) (fun x => if x < w2.heap.size then 9 else tag x) w3 ((w3.setCell ⟨w.heap.size, 0, none⟩ (.slice p1 fr.length c1)).setCell ⟨w.heap.size, 1, none⟩ (.slice p2 arr.length c2)) := (Ch.set w3 _ _ _ (Nat.le_refl _) h9).trans (Ch.set _ _ _ _ (Nat.le_refl _) h9)
  have hf2 : FrsOut w3 w.heap.size (fun x => if x < w2.heap.size then 9 else tag x) (.slice p1 fr.length c1) LV SV (frAt fr) fr.length := ⟨hf.row.lower hle ht, fun i hi => (hf.loc i hi).lower hle ht, fun i hi => (hf.stk i hi).lower hle ht⟩
  have ha2 : ArsOut w3 w.heap.size (fun x => if x < w2.heap.size then 9 else tag x) (.slice p2 arr.length c2) AV arr arr.length := ⟨ha.row.lower hle ht, fun i hi => (ha.arr i hi).lower hle ht⟩
  exact ⟨_, _, LV, SV, AV, _, rfl, (hB.trans (hb.mono hle)).trans (hcs.below (by have := hb.size; omega)), hf2.keep hcs (by omega) (fun i _ => ⟨by omega, by omega⟩), ha2.keep hcs (by omega) (fun i _ => by omega)⟩

theorem frAt_mem {fr : List Fr} {i : Nat} (h : i < fr.length) : frAt fr i ∈ fr := by
  unfold frAt
  have hl : i < fr.reverse.length := by simpa using h
  rw [List.getD_eq_getElem?_getD, List.getElem?_eq_getElem hl]
  exact List.mem_reverse.1 (List.getElem_mem hl)
theorem getD_mem {arr : List (List V)} {j : Nat} (h : j < arr.length) : arr.getD j [] ∈ arr := by
  rw [List.getD_eq_getElem?_getD, List.getElem?_eq_getElem h]
  exact List.getElem_mem h

end Go.Proofs.YtkafkipjedpohaaGreatDoor

/-
  upshift's Stop.
-/
namespace Go.Proofs.YtkafkipjedpohaaGreatDoor
open Go.RowKit

theorem eventsP_ok {m : Nat} {E : List Ev} (hok : eventsP m E = 0) : EvsOk m E := by
  unfold eventsP at hok
  by_cases h200 : 200 < E.length
  · rw [if_pos h200] at hok; omega
  · rw [if_neg h200] at hok
    by_cases he : evsP m 0 E = true
    · obtain ⟨k1, k2⟩ := evsP_ok (Int.le_refl 0) he
      exact ⟨k1, k2, by omega⟩
    · rw [if_neg he] at hok; omega

set_option maxRecDepth 100000 in
set_option maxHeartbeats 1000000 in
theorem codeStop (w : World) (cb pb po pc m : Nat) (F : Nat → PF) (K : Nat → Nat → Bool) (H : Nat → Nat → Int) (CA : Nat → Option Addr) (CC : Nat → Nat) (fuel : Int) (ev : Value) (E : List Ev) (hc : w.cell? ⟨cb, 0, none⟩ = some (.slice (some ⟨pb, po, none⟩) m pc)) (hP : ProgAt w pb po m F CA CC) (hcc : ∀ k, k < m → (F k).cn ≤ CC k) (hF : Fine m F K H) (hEv : EvV w w.heap.size ev E) (hok : eventsP m E = 0) :
    Calls Tryz.prog 28 #[.pointer (some ⟨cb, 0, none⟩), ev, .int .i64 fuel] w fun e w' => ∃ v, e = .returned (.tuple #[v, .int .i64 0]) ∧ StOut w w' (atP F fuel).fr (atP F fuel).arr (.returned v) := by
  have hm := hF.size
  have hEok := eventsP_ok hok
  have h6 := evs_six hF hEok.rise hEok.ok (fuelP fuel)
  obtain ⟨hsz, har, _⟩ := road_szs hF (fuelP fuel)
  have hfl := fuel_le fuel
  have h1 : (atP F fuel).fr.length ≤ 1000 := by have := hsz.fr; show (nthP F (startP F) (fuelP fuel)).fr.length ≤ 1000; omega
  have h2 : (atP F fuel).arr.length ≤ 200000 := by show (nthP F (startP F) (fuelP fuel)).arr.length ≤ 200000; omega
  have h3 : ∀ i, i < (atP F fuel).fr.length → (frAt (atP F fuel).fr i).loc.length ≤ 200000 ∧ (frAt (atP F fuel).fr i).stk.length ≤ 200000 := fun i hi => by have := hsz.ls _ (frAt_mem hi); show (frAt (nthP F (startP F) (fuelP fuel)).fr i).loc.length ≤ 200000 ∧ (frAt (nthP F (startP F) (fuelP fuel)).fr i).stk.length ≤ 200000; omega
  have h4 : ∀ j, j < (atP F fuel).arr.length → ((atP F fuel).arr.getD j []).length ≤ 200000 := fun j hj => by have := hsz.al _ (getD_mem hj); show ((nthP F (startP F) (fuelP fuel)).arr.getD j []).length ≤ 200000; omega
  have e1 : (atE F E fuel).fr = (atP F fuel).fr := h6.fr
  have e2 : (atE F E fuel).arr = (atP F fuel).arr := h6.arr
  rw [← e1] at h1 h3
  rw [← e2] at h2 h4
  rw [← e1, ← e2]
  have hcz := World.block_lt_of_cell? w _ hc
  have hW : Below w.heap.size w (w.alloc (.cells #[.slice none 0 0, .slice none 0 0] 53)) := (Below.refl _ _).alloc (Nat.le_refl _) _
  have hz : (w.alloc (.cells #[.slice none 0 0, .slice none 0 0] 53)).heap.size = w.heap.size + 1 := by simp
  have r0 : (w.alloc (.cells #[.slice none 0 0, .slice none 0 0] 53)).heap[w.heap.size]? = some (.cells #[.slice none 0 0, .slice none 0 0] 53 (0, 0)) := Go.Deep.blk_alloc_new _ _
  have c0 := (hW.cell (p := ⟨cb, 0, none⟩) hcz).trans hc
  generalize hWe : w.alloc (.cells #[.slice none 0 0, .slice none 0 0] 53) = W at *
  have hEW : EvV W W.heap.size ev E := (hEv.below hW).mono (by omega)
  have hcon := eventsM W ev E hEW (m : Int) (by omega)
  rw [hok] at hcon
  have hPW := hP.below hW (Nat.le_refl _)
  have HSh := hid (fun (X : World) (hX : Below W.heap.size W X) => (shiftM X m _ F K H fuel ev E hEok ((hEW.below hX).mono hX.size) (CapsAt.of_prog (pc := pc) (hPW.below hX (Nat.le_refl _)) hcc) (Pg.of_prog (pc := pc) (hPW.below hX (Nat.le_refl _))) hF))
  obtain ⟨ep, ecc, rfl, _⟩ := hEv
  have HC := hid hcon
  have HX := hid (And.intro hW (And.intro r0 hz))
  have HC0 := hid (fun (X : World) (hX : Below W.heap.size W X) => (hX.cell (p := ⟨cb, 0, none⟩) (Nat.lt_of_lt_of_le (show cb < w.heap.size from hcz) hW.size)).trans c0)
  have HZ := hid (And.intro h1 (And.intro h2 (And.intro h3 h4)))
  clear hcon hW r0 hz hc hok hPW hEW hP hcc hF hEok hm h1 h2 h3 h4 h6 hsz har hfl e1 e2
  generalize endP (atE F E fuel) = en at *
  generalize atE F E fuel = sN at *
  generalize E.length = el at *
  subst hWe
  go_enter Tryz.func28, Tryz.ntmps28
  go_wp2_with fail
  refine HC.out.mono ?_
  rintro e w2 ⟨rfl, hB2⟩
  clear c0
  have c2 := HC0.out w2 hB2
  obtain ⟨hW, r0, hz⟩ := HX.out
  have hz2 := hB2.size
  have q0 := (hB2.block w.heap.size (by omega)).trans r0
  have HB := hid (And.intro (hW.trans (hB2.mono (by omega))) (And.intro q0 (show w.heap.size + 1 ≤ w2.heap.size by omega)))
  have HSh2 := hid (HSh.out w2 hB2)
  clear hB2 hW r0 hz hz2 q0 HX HC HC0 HSh
  go_wp2_with fail
  refine HSh2.out.mono ?_
  rintro e w3 ⟨mb, rfl, hB3, A3, MV3, m3⟩
  have HO := hid (stateM w3 _ mb A3 sN en m3.lay HZ.out.1 HZ.out.2.1 HZ.out.2.2.1 HZ.out.2.2.2)
  have HM := hid hB3
  clear m3 hB3 HSh2 c2 HZ
  go_wp2_with fail
  refine HO.out.mono ?_
  intro e w4 hst
  obtain ⟨hB2, q0, hz⟩ := HB.out
  have hB23 : Below w.heap.size w w3 := hB2.trans (HM.out.mono (by omega))
  have q3 := (HM.out.block w.heap.size (by omega)).trans q0
  obtain ⟨p1, c1, p2, c2, rfl, r3, hfin⟩ := StOut.stored hB23 q3 hst
  have y0 : w4.cell? ⟨w.heap.size, 0, none⟩ = some (.slice none 0 0) := (cell_heap r3).trans rfl
  have y1 : w4.cell? ⟨w.heap.size, 1, none⟩ = some (.slice none 0 0) := (cell_heap r3).trans rfl
  have z0 := frozen_heap (o := 0) r3
  have z1 := frozen_heap (o := 1) r3
  have g0 := heap_set (o := 1) (heap_set (o := 0) r3 (.slice p1 sN.fr.length c1)) (.slice p2 sN.arr.length c2)
  have HQ := hid (And.intro g0 hfin)
  clear hst q0 q3 r3 hB2 hz hB23 HB HO g0 hfin HM
  go_wp2
  obtain ⟨g0, hfin⟩ := HQ.out
  generalize (w4.setCell ⟨w.heap.size, 0, none⟩ (.slice p1 sN.fr.length c1)).setCell ⟨w.heap.size, 1, none⟩ (.slice p2 sN.arr.length c2) = V at *
  have v0 : V.cell? ⟨w.heap.size, 0, none⟩ = some (.slice p1 sN.fr.length c1) := (cell_heap g0).trans rfl
  have v1 : V.cell? ⟨w.heap.size, 1, none⟩ = some (.slice p2 sN.arr.length c2) := (cell_heap g0).trans rfl
  exact bodyPost_ret (v := .tuple #[.agg #[.slice p1 sN.fr.length c1, .slice p2 sN.arr.length c2], .int .i64 0]) (by simp [results, Tryz.results28, go_sem, v0, v1]) rfl ⟨_, rfl, hfin⟩
end Go.Proofs.YtkafkipjedpohaaGreatDoor
