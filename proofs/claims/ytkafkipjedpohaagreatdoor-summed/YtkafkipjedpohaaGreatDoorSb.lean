import Derived.Test.YtkafkipjedpohaaGreatDoorPureS
import Derived.Deep.CutRange

/-
  Package upshiftkeep: Summed.
-/
namespace Go.Proofs.YtkafkipjedpohaaGreatDoor
open Go.RowKit

theorem neqVals (a b : Int) (X : World) : (binOp .neq 43 (.agg #[.int .i64 a, .int .i64 b]) (.agg #[.int .i64 a, .int .i64 b])).run Tryz.prog X = .ok (.bool false) X := by
  have e1 : (a == a) = true := by simp
  have e2 : (b == b) = true := by simp
  go_simp
theorem neqCnts (a b c : Int) (X : World) : (binOp .neq 61 (.agg #[.int .i64 a, .int .i64 b, .int .i64 c]) (.agg #[.int .i64 a, .int .i64 b, .int .i64 c])).run Tryz.prog X = .ok (.bool false) X := by
  have e1 : (a == a) = true := by simp
  have e2 : (b == b) = true := by simp
  have e3 : (c == c) = true := by simp
  go_simp
theorem eqCntsK (a b c : Int) (X : World) : (binOp .eql 61 (.agg #[.int .i64 a, .int .i64 b, .int .i64 c]) (.agg #[.int .i64 a, .int .i64 b, .int .i64 c])).run Tryz.prog X = .ok (.bool true) X := by
  have e1 : (a == a) = true := by simp
  have e2 : (b == b) = true := by simp
  have e3 : (c == c) = true := by simp
  go_simp

theorem fuel_big : fuelP 100000 = 100000 := by decide
theorem sum_atn (k : Nat) (hk : k ≤ 499) {K : Nat → Nat → Bool} {H : Nat → Nat → Int} (hF : Fine 2 (sumF k) K H) (n : Int) (hn : 11 * k + 12 ≤ fuelP n) : atP (sumF k) n = sumE (vnum (sumA k k)) (11 * k + 12) 0 (fun _ => false) 0 0 := by
  rw [← atE_nil]
  exact sum_plain k hk hF (fuelP n) hn
theorem sum_atP (k : Nat) (hk : k ≤ 499) {K : Nat → Nat → Bool} {H : Nat → Nat → Int} (hF : Fine 2 (sumF k) K H) : atP (sumF k) 100000 = sumE (vnum (sumA k k)) (11 * k + 12) 0 (fun _ => false) 0 0 :=
  sum_atn k hk hF 100000 (by rw [fuel_big]; omega)
theorem sum_at1n (k : Nat) (hk : k ≤ 499) {K : Nat → Nat → Bool} {H : Nat → Nat → Int} (hF : Fine 2 (sumF k) K H) (n : Int) (hn : 11 * k + 12 ≤ fuelP n) : atE (sumF k) [⟨0, 1, 1⟩] n = sumE (vnum (sumA k k)) (11 * k + 12) (11 * k + 6) (upd (fun _ => false) 1 true) 0 0 := sum_made k hk hF (by omega) (fuelP n) hn
theorem sum_at1 (k : Nat) (hk : k ≤ 499) {K : Nat → Nat → Bool} {H : Nat → Nat → Int} (hF : Fine 2 (sumF k) K H) : atE (sumF k) [⟨0, 1, 1⟩] 100000 = sumE (vnum (sumA k k)) (11 * k + 12) (11 * k + 6) (upd (fun _ => false) 1 true) 0 0 := sum_at1n k hk hF 100000 (by rw [fuel_big]; omega)
theorem sum_at2n (k : Nat) (hk : k ≤ 499) {K : Nat → Nat → Bool} {H : Nat → Nat → Int} (hF : Fine 2 (sumF k) K H) (j : Nat) (hj : j ≤ k) (n : Int) (hn : 11 * k + 12 ≤ fuelP n) : atE (sumF k) [⟨4, 1, 1⟩, ⟨5 + 11 * (j : Int), 3, 0⟩, ⟨5 + 11 * (j : Int) + 1, 4, 0⟩] n = sumE (vnum (sumA k k)) (11 * k + 12) 1 (upd (fun _ => false) 1 true) 1 1 := sum_up k hk hF (by omega) j hj (fuelP n) hn
theorem sum_at2 (k : Nat) (hk : k ≤ 499) {K : Nat → Nat → Bool} {H : Nat → Nat → Int} (hF : Fine 2 (sumF k) K H) (j : Nat) (hj : j ≤ k) : atE (sumF k) [⟨4, 1, 1⟩, ⟨5 + 11 * (j : Int), 3, 0⟩, ⟨5 + 11 * (j : Int) + 1, 4, 0⟩] 100000 = sumE (vnum (sumA k k)) (11 * k + 12) 1 (upd (fun _ => false) 1 true) 1 1 := sum_at2n k hk hF j hj 100000 (by rw [fuel_big]; omega)
theorem sum_heads (k : Int) : headsN 2 (sumF k) 1 = [2] := by kernel_rfl
/-- Shift of sum's code, whatever the events. -/
theorem sum_shift {X : World} {b : Nat} {k : Nat} (hk : k ≤ 499) {K : Nat → Nat → Bool} {H : Nat → Nat → Int} (h : CdK X b 2 (sumF k)) (hF : Fine 2 (sumF k) K H) {ev : Value} {E : List Ev} (hev : EvV X X.heap.size ev E) (hok : eventsP 2 E = 0) :
    Calls Tryz.prog 26 #[.pointer (some ⟨b, 0, none⟩), ev, .int .i64 100000] X fun e w' => ∃ p c, e = .returned (.tuple #[.agg #[.int .i64 1, .int .i64 (11 * (k : Int) + 12), .int .i64 1, .int .i64 (sumA k k), .slice p 1 c], .agg #[.int .i64 (atE (sumF k) E 100000).cH, .int .i64 (atE (sumF k) E 100000).cU, .int .i64 (atE (sumF k) E 100000).cD], .int .i64 0]) ∧ Below X.heap.size X w' ∧ ArgsIn w' (.slice p 1 c) [vnum (sumA k k)] := by
  refine (h.shift hF 100000 hev hok).mono ?_
  rintro e w' ⟨p, c, rfl, h1, h2⟩
  rw [sum_atP k hk hF] at h2 ⊢
  refine ⟨p, c, ?_, h1, h2⟩
  have e : ((11 * k + 12 : Nat) : Int) = 11 * (k : Int) + 12 := by omega
  unfold OutcomeV CountsV sumE endP
  rw [← e]
  rfl
theorem sum_e1 : eventsP 2 [⟨0, 1, 1⟩] = 0 := by decide
theorem sum_e2 (j : Nat) : eventsP 2 [⟨4, 1, 1⟩, ⟨5 + 11 * (j : Int), 3, 0⟩, ⟨5 + 11 * (j : Int) + 1, 4, 0⟩] = 0 := by
  have h1 : decide (5 + 11 * (j : Int) < 4) = false := by simp; omega
  have h2 : decide (5 + 11 * (j : Int) + 1 < 5 + 11 * (j : Int)) = false := by simp; omega
  unfold eventsP
  rw [if_neg (by simp)]
  simp only [evsP, mayP, h1, h2]
  simp

set_option maxRecDepth 100000 in
set_option maxHeartbeats 4000000 in
theorem summed_any (n : Int) (ev : Value) (E0 : List Ev) (w : World) (hev : EvV w w.heap.size ev E0) (hraw : RawOk E0) (hel : E0.length ≤ 140737488355328) (hni : I64 n) (ht : TabAt w) (hw0 : 0 < w.heap.size) :
    Calls Tryz.prog 7 #[.int .i64 n, ev] w fun e w' => e = .returned (.bool true) ∧ Below w.heap.size w w' := by
  have bk := pickP_bd n (n := 500) (by omega)
  have HK := hid (fun wx => keepPick_any n 500 wx hni (by omega))
  obtain ⟨k, hk⟩ : ∃ k : Nat, pickP n 500 = k := ⟨(pickP n 500).toNat, by omega⟩
  rw [hk] at HK bk
  have hk5 : k ≤ 499 := by omega
  have HS := hid (keepSum k w)
  obtain ⟨K, H, hF⟩ := prog_fine (sum_prog k)
  have HEv := hid (fun (X : World) (hX : Below w.heap.size w X) => keepEvents E0 ev 2 (by omega) X ((hev.below hX).mono hX.size) hraw hel)
  obtain ⟨ep, ecc, rfl, _⟩ := hev
  have HT := hid (And.intro ht (And.intro hF (And.intro hni hk)))
  clear ht hF hraw hel hni hk
  generalize E0.length = el at *
  go_enter Tryz.func7, Tryz.ntmps7
  go_wp2_with fail
  refine (HK.out _).mono ?_
  rintro e w' ⟨rfl, hw'⟩
  rw [hw']
  clear hw' w' HK
  go_wp2_with fail
  refine HS.out.mono ?_
  rintro e w1 ⟨pb, rfl, hB1, CA, CC, hP1⟩
  have HC := hid (keepCode w1 pb 0 2 2 (sumF k) CA CC hP1 (HT.out.1.below hB1 hw0) (sum_prog k))
  have HB1 := hid hB1
  clear hP1 hB1 HS
  go_wp2_with fail
  refine HC.out.mono ?_
  rintro e w2 ⟨v2, wx, rfl, hBx, hB2x, hcode⟩
  obtain ⟨b, rfl, hcd⟩ := CdK.of hcode
  have hBw2 : Below w.heap.size w w2 := (HB1.out.trans (hBx.mono HB1.out.size)).trans (hB2x.mono (by have := HB1.out.size; have := hBx.size; omega))
  have HCD := hid (And.intro hcd hBw2)
  clear hcode hcd hBw2 hBx hB2x HC HB1
  obtain ⟨P, hP⟩ : ∃ P : Int, (k : Int) * ((k : Int) + 1) = P := ⟨_, rfl⟩
  have hSP : 2 * sumA k k = P := by rw [sumA_all, hP]
  have hA := sumA_le k (by omega) (by omega) k (by omega)
  have e1 : wrap64 ((k : Int) + 1) = (k : Int) + 1 := by unfold wrap64; omega
  have e2 : wrap64 P = P := by unfold wrap64; omega
  have e3 : P.tdiv 2 = sumA k k := by rw [← hSP]; exact Int.mul_tdiv_cancel_left _ (by omega)
  have e4 : wrap64 (sumA k k) = sumA k k := by unfold wrap64; omega
  generalize hS : sumA k k = S at *
  have HSS := hid hS
  clear hS
  clear hSP hA
  go_wp2_with fail
  obtain ⟨W2, hW2⟩ : ∃ W2, W2 = w2.alloc (.cells #[.int .i64 1, .int .i64 S] 43) := ⟨_, rfl⟩
  rw [e4, e2, ← hW2]
  have hB2 : Below w2.heap.size w2 W2 := by rw [hW2]; exact (Below.refl _ _).alloc (Nat.le_refl _) _
  have bw : W2.heap[w2.heap.size]? = some (.cells #[.int .i64 1, .int .i64 S] 43 (0, 0)) := by rw [hW2]; exact Go.Deep.blk_alloc_new _ _
  have HW2 := hid (And.intro hB2 bw)
  clear hW2 hB2 bw
  refine (HEv.out W2 (HCD.out.2.trans (HW2.out.1.mono HCD.out.2.size))).mono ?_
  rintro e w3 ⟨v3, rfl, hB3, hE3⟩
  have hok3 : eventsP 2 (keepEvs 2 E0) = 0 := keepEvs_ok 2 (by omega) E0
  have hB23 : Below w2.heap.size w2 w3 := HW2.out.1.trans (hB3.mono HW2.out.1.size)
  have bw3 := (hB3.block _ (heap_lt HW2.out.2)).trans HW2.out.2
  have hs1 := sum_shift hk5 (HCD.out.1.below hB23) HT.out.2.1 hE3 hok3
  rw [HSS.out] at hs1
  have HS1 := hid hs1
  clear hs1
  have H3 := hid (And.intro hB23 bw3)
  generalize (atE (sumF k) (keepEvs 2 E0) 100000).cH = x0 at *
  generalize (atE (sumF k) (keepEvs 2 E0) 100000).cU = x1 at *
  generalize (atE (sumF k) (keepEvs 2 E0) 100000).cD = x2 at *
  obtain ⟨ep3, ec3, rfl, _⟩ := hE3
  clear hok3 hB23 bw3 hB3 HW2 HEv
  generalize (keepEvs 2 E0).length = n3 at *
  generalize hst : 11 * (k : Int) + 12 = st at *
  have HST := hid hst
  clear hst
  go_wp2_with fail
  refine HS1.out.mono ?_
  rintro e w4 ⟨p4, c4, rfl, hB4, ha4⟩
  clear HS1
  obtain ⟨ob, rfl, o40, _⟩ := ha4.at_ (i := 0) (by show 0 < 1; omega)
  have zob := World.block_lt_of_cell? w4 _ o40
  clear o40
  go_wp2_with fail
  obtain ⟨V4, hV4⟩ : ∃ V4, V4 = ((w4.alloc (.cells #[.int .i64 1, .int .i64 st, .int .i64 1, .int .i64 S, .slice (some ⟨ob, 0, none⟩) 1 c4] 46)).alloc (.cells #[.int .i64 x0, .int .i64 x1, .int .i64 x2] 61)).alloc (.cells #[.int .i64 0, .int .i64 1, .int .i64 1] 65) := ⟨_, rfl⟩
  rw [← hV4]
  have hVa : V4 = allocs w4 [.cells #[.int .i64 1, .int .i64 st, .int .i64 1, .int .i64 S, .slice (some ⟨ob, 0, none⟩) 1 c4] 46, .cells #[.int .i64 x0, .int .i64 x1, .int .i64 x2] 61, .cells #[.int .i64 0, .int .i64 1, .int .i64 1] 65] := hV4
  have hB4v : Below w4.heap.size w4 V4 := by rw [hVa]; exact allocs_below _ _
  have q0 : V4.heap[w4.heap.size]? = some (.cells #[.int .i64 1, .int .i64 st, .int .i64 1, .int .i64 S, .slice (some ⟨ob, 0, none⟩) 1 c4] 46 (0, 0)) := by rw [hVa]; exact allocs_at _ w4 0 _ rfl
  have q2 : V4.heap[w4.heap.size + 1 + 1]? = some (.cells #[.int .i64 0, .int .i64 1, .int .i64 1] 65 (0, 0)) := by rw [hVa]; exact allocs_at _ w4 2 _ rfl
  have hE4 : EvV V4 V4.heap.size (.slice (some ⟨w4.heap.size + 1 + 1, 0, none⟩) 1 1) [⟨0, 1, 1⟩] := ⟨_, _, rfl, Nat.le_refl _, fun _ => ⟨_, _, rfl, heap_lt q2, fun i hi => by
    obtain rfl : i = 0 := by have : i < 1 := hi; omega
    exact ⟨(cell_heap q2).trans rfl, (cell_heap q2).trans rfl, (cell_heap q2).trans rfl⟩⟩⟩
  have hB24 : Below w2.heap.size w2 V4 := (H3.out.1.trans (hB4.mono H3.out.1.size)).trans (hB4v.mono (by have := H3.out.1.size; have := hB4.size; omega))
  have bw4 := (hB4v.block _ (by have := heap_lt H3.out.2; have := hB4.size; omega)).trans ((hB4.block _ (heap_lt H3.out.2)).trans H3.out.2)
  have hs2 := sum_shift hk5 (HCD.out.1.below hB24) HT.out.2.1 hE4 sum_e1
  rw [HSS.out, HST.out, sum_at1 k hk5 HT.out.2.1] at hs2
  have HS2 := hid hs2
  have H4 := hid (And.intro hB24 (And.intro bw4 (And.intro q0 (ha4.below hB4v))))
  clear hs2 hB24 bw4 q0 q2 hE4 ha4 hB4v hVa hV4 hB4 H3
  go_wp2_with fail
  refine HS2.out.mono ?_
  rintro e w5 ⟨p5, c5, rfl, hB5, ha5⟩
  clear HS2
  unfold sumE
  go_wp2_with fail
  obtain ⟨V5, hV5⟩ : ∃ V5, V5 = (w5.alloc (.cells #[.int .i64 1, .int .i64 st, .int .i64 1, .int .i64 S, .slice p5 1 c5] 46)).alloc (.cells #[.int .i64 (11 * (k : Int) + 6), .int .i64 0, .int .i64 0] 61) := ⟨_, rfl⟩
  rw [← hV5]
  have hVa : V5 = allocs w5 [.cells #[.int .i64 1, .int .i64 st, .int .i64 1, .int .i64 S, .slice p5 1 c5] 46, .cells #[.int .i64 (11 * (k : Int) + 6), .int .i64 0, .int .i64 0] 61] := hV5
  have hB5v : Below w5.heap.size w5 V5 := by rw [hVa]; exact allocs_below _ _
  have q0 : V5.heap[w5.heap.size]? = some (.cells #[.int .i64 1, .int .i64 st, .int .i64 1, .int .i64 S, .slice p5 1 c5] 46 (0, 0)) := by rw [hVa]; exact allocs_at _ w5 0 _ rfl
  have q1 : V5.heap[w5.heap.size + 1]? = some (.cells #[.int .i64 (11 * (k : Int) + 6), .int .i64 0, .int .i64 0] 61 (0, 0)) := by rw [hVa]; exact allocs_at _ w5 1 _ rfl
  have hB45 : Below V4.heap.size V4 V5 := hB5.trans (hB5v.mono hB5.size)
  obtain ⟨hB24, bw4, a4, ha4⟩ := H4.out
  have hlt45 : w4.heap.size < w5.heap.size := by have := heap_lt a4; have := hB5.size; omega
  have hB25 := hB24.trans (hB45.mono hB24.size)
  obtain ⟨g, cap, CA5, CC5, h1, h2, h3, _⟩ := HCD.out.1.below hB25
  have hhd := codeHeaders V5 b g 0 cap 2 (sumF k) K H CA5 CC5 1 h1 h3 HT.out.2.1
  rw [sum_heads] at hhd
  have HHD := hid hhd
  have H5 := hid (And.intro hB25 (And.intro ((hB45.block _ (heap_lt bw4)).trans bw4) (And.intro ((hB45.block _ (heap_lt a4)).trans a4) (And.intro (ha4.below hB45) (And.intro q0 (And.intro q1 (ha5.below hB5v)))))))
  have hw25 : w2.heap.size ≤ V5.heap.size := hB25.size
  have hz5v : V5.heap.size = w5.heap.size + 2 := by rw [hVa]; exact allocs_size _ _
  have hz24 : w2.heap.size ≤ w5.heap.size := by have := hB24.size; have := hB5.size; omega
  clear hVa hB5v q0 q1 hB45 hB24 bw4 a4 ha4 hB25 h1 h2 h3 hhd ha5 hB5 hV5 H4 hw25 hz5v
  refine HHD.out.mono ?_
  rintro e w6 ⟨v6, rfl, hI, hB6⟩
  obtain ⟨hb6, hc6, rfl, _, hz6, _, _⟩ := Row.form hI (Nat.le_refl 1)
  have hx : w6.cell? ⟨hb6, 0, none⟩ = some (.int .i64 2) := Row.cell hI (i := 0) (by show 0 < 1 * 1; omega)
  obtain ⟨hB25, bw5, a5, ha5, b5, n5, hb5⟩ := H5.out
  have bw6 := (hB6.block _ (heap_lt bw5)).trans bw5
  have a6 := (hB6.block _ (heap_lt a5)).trans a5
  have b6 := (hB6.block _ (heap_lt b5)).trans b5
  have n6 := (hB6.block _ (heap_lt n5)).trans n5
  have ha6 := ha5.below hB6
  have hb6' := hb5.below hB6
  obtain ⟨ob2, eob, o0, o1⟩ := ha6.at_ (i := 0) (by show 0 < 1; omega)
  injection eob with eob
  injection eob with eob _ _
  subst eob
  have H6 := hid (And.intro (hB25.trans (hB6.mono hB25.size)) (And.intro bw6 (And.intro a6 (And.intro b6 (And.intro n6 (And.intro ha6 hb6'))))))
  have y0 : w6.cell? ⟨w2.heap.size, 0, none⟩ = some (.int .i64 1) := (cell_heap bw6).trans rfl
  have y1 : w6.cell? ⟨w2.heap.size, 1, none⟩ = some (.int .i64 S) := (cell_heap bw6).trans rfl
  have u4 : w6.cell? ⟨w4.heap.size, 4, none⟩ = some (.slice (some ⟨ob, 0, none⟩) 1 c4) := (cell_heap a6).trans rfl
  have o0' : w6.cell? ⟨ob, 0, none⟩ = some (.int .i64 1) := o0
  have o1' : w6.cell? ⟨ob, 1, none⟩ = some (.int .i64 S) := o1
  have z1 := heap_lt bw6
  have z2 := heap_lt a6
  have z3 := World.block_lt_of_cell? w6 _ o0'
  have HZ := hid (fun (X : World) (hb : Below w6.heap.size w6 X) => (show X.cell? ⟨w2.heap.size, 0, none⟩ = some (.int .i64 1) ∧ X.cell? ⟨w2.heap.size, 1, none⟩ = some (.int .i64 S) ∧ X.cell? ⟨w4.heap.size, 4, none⟩ = some (.slice (some ⟨ob, 0, none⟩) 1 c4) ∧ X.cell? ⟨ob, 0, none⟩ = some (.int .i64 1) ∧ X.cell? ⟨ob, 1, none⟩ = some (.int .i64 S) ∧ X.cell? ⟨hb6, 0, none⟩ = some (.int .i64 2) from ⟨(hb.cell (p := ⟨w2.heap.size, 0, none⟩) z1).trans y0, (hb.cell (p := ⟨w2.heap.size, 1, none⟩) z1).trans y1, (hb.cell (p := ⟨w4.heap.size, 4, none⟩) z2).trans u4, (hb.cell (p := ⟨ob, 0, none⟩) z3).trans o0', (hb.cell (p := ⟨ob, 1, none⟩) z3).trans o1', (hb.cell (p := ⟨hb6, 0, none⟩) hz6).trans hx⟩))
  have e5 : wrap64 (11 * (k : Int)) = 11 * (k : Int) := by unfold wrap64; omega
  have e6 : wrap64 (11 * (k : Int) + 12) = st := by rw [← HST.out]; unfold wrap64; omega
  have hnv := neqVals 1 S
  clear HHD hI hB6 hB25 bw5 a5 ha5 b5 n5 hb5 bw6 a6 b6 n6 ha6 hb6' o0 o1 y0 y1 u4 o0' o1' hx H5
  go_wp2_with fail
  refine region_lex (Below w6.heap.size w6) [(false, 0), (false, 1), (false, 2), (false, 3), (false, 4), (false, 5), (false, 6), (false, 7), (false, 8), (false, 9), (false, 10), (false, 11), (false, 12), (false, 13), (false, 14), (false, 15), (false, 16), (false, 17), (false, 18), (false, 19), (false, 20), (false, 21), (false, 22), (false, 23), (false, 24), (false, 25), (false, 26), (false, 27), (false, 28), (false, 29), (false, 30)] (by kernel_rfl) (by kernel_rfl) (fun c0 a0 d0 v0 z0 h0 => panic_body (P := Tryz.prog) Tryz.f7 (fun e w' => e = .returned (.bool true) ∧ Below w.heap.size w w') c0 a0 d0 v0 z0 h0) (Below.refl _ _).drew ?_
  simp only [lexL, List.getElem?_cons_zero, List.getElem?_cons_succ]
  iterate 31 (refine lexW_free (by rfl) (by intro w' hS'; obtain ⟨q0, q1, q2, q3, q4, q5⟩ := HZ.out w' hS'; clear hS'; go_simp; exact rfl) ?_; simp only [Act.put, List.setIfInBounds_toArray, List.set_cons_zero, List.set_cons_succ])
  refine lexW_done ?_
  obtain ⟨hB26, bw6, a6, b6, n6, ha6, hb6'⟩ := H6.out
  have s0 : w6.cell? ⟨w4.heap.size, 0, none⟩ = some (.int .i64 1) := (cell_heap a6).trans rfl
  have s1 : w6.cell? ⟨w4.heap.size, 1, none⟩ = some (.int .i64 st) := (cell_heap a6).trans rfl
  have s2 : w6.cell? ⟨w4.heap.size, 2, none⟩ = some (.int .i64 1) := (cell_heap a6).trans rfl
  have s3 : w6.cell? ⟨w4.heap.size, 3, none⟩ = some (.int .i64 S) := (cell_heap a6).trans rfl
  have s4 : w6.cell? ⟨w4.heap.size, 4, none⟩ = some (.slice (some ⟨ob, 0, none⟩) 1 c4) := (cell_heap a6).trans rfl
  have t0 : w6.cell? ⟨w5.heap.size, 0, none⟩ = some (.int .i64 1) := (cell_heap b6).trans rfl
  have t1 : w6.cell? ⟨w5.heap.size, 1, none⟩ = some (.int .i64 st) := (cell_heap b6).trans rfl
  have t2 : w6.cell? ⟨w5.heap.size, 2, none⟩ = some (.int .i64 1) := (cell_heap b6).trans rfl
  have t3 : w6.cell? ⟨w5.heap.size, 3, none⟩ = some (.int .i64 S) := (cell_heap b6).trans rfl
  have t4 : w6.cell? ⟨w5.heap.size, 4, none⟩ = some (.slice p5 1 c5) := (cell_heap b6).trans rfl
  have HAL := hid (alikeT w6.drew 1 st (vnum S) (.slice (some ⟨ob, 0, none⟩) 1 c4) (.slice p5 1 c5) [vnum S] (ha6.below (Below.refl _ _).drew) (hb6'.below (Below.refl _ _).drew) (by show 1 ≤ 200000; omega))
  clear hB26 bw6 a6 b6 n6 ha6 hb6' HZ
  go_wp2_with fail
  refine HAL.out.mono ?_
  rintro e w7 ⟨rfl, hB7⟩
  clear s0 s1 s2 s3 s4 t0 t1 t2 t3 t4 HAL
  obtain ⟨hB26, bw6, a6, b6, n6, ha6, hb6'⟩ := H6.out
  have hB67 : Below w6.heap.size w6 w7 := (show Below w6.heap.size w6 w6.drew from (Below.refl _ _).drew).trans hB7
  have bw7 := (hB67.block _ (heap_lt bw6)).trans bw6
  have a7 := (hB67.block _ (heap_lt a6)).trans a6
  have n7 := (hB67.block _ (heap_lt n6)).trans n6
  have H7 := hid (And.intro (hB26.trans (hB67.mono hB26.size)) (And.intro bw7 (And.intro a7 (And.intro n7 (ha6.below hB67)))))
  have y0 : w7.cell? ⟨w2.heap.size, 0, none⟩ = some (.int .i64 1) := (cell_heap bw7).trans rfl
  have y1 : w7.cell? ⟨w2.heap.size, 1, none⟩ = some (.int .i64 S) := (cell_heap bw7).trans rfl
  have s0 : w7.cell? ⟨w4.heap.size, 0, none⟩ = some (.int .i64 1) := (cell_heap a7).trans rfl
  have s1 : w7.cell? ⟨w4.heap.size, 1, none⟩ = some (.int .i64 st) := (cell_heap a7).trans rfl
  have s2 : w7.cell? ⟨w4.heap.size, 2, none⟩ = some (.int .i64 1) := (cell_heap a7).trans rfl
  have s3 : w7.cell? ⟨w4.heap.size, 3, none⟩ = some (.int .i64 S) := (cell_heap a7).trans rfl
  have t0 : w7.cell? ⟨w5.heap.size + 1, 0, none⟩ = some (.int .i64 (11 * (k : Int) + 6)) := (cell_heap n7).trans rfl
  have t1 : w7.cell? ⟨w5.heap.size + 1, 1, none⟩ = some (.int .i64 0) := (cell_heap n7).trans rfl
  have t2 : w7.cell? ⟨w5.heap.size + 1, 2, none⟩ = some (.int .i64 0) := (cell_heap n7).trans rfl
  have e8 : wrap64 (st - 6) = 11 * (k : Int) + 6 := by rw [← HST.out]; unfold wrap64; omega
  have hnc := neqCnts (11 * (k : Int) + 6) 0 0
  have hst2 : (st != 11 * (k : Int) + 12) = false := by rw [← HST.out]; simp
  have e8' : wrap64 (11 * (k : Int) + 12 - 6) = 11 * (k : Int) + 6 := by unfold wrap64; omega
  have e8'' : 11 * (k : Int) + 12 - 6 = 11 * (k : Int) + 6 := by omega
  obtain ⟨n3', hn3⟩ : ∃ z : Int, n.tdiv 3 = z := ⟨_, rfl⟩
  have hI3 : I64 n3' := by
    have h1 := HT.out.2.2.1
    unfold I64 at h1 ⊢
    rw [← hn3]
    have : n.tdiv 3 = if 0 ≤ n then n / 3 else -((-n) / 3) := by
      by_cases h0 : 0 ≤ n
      · rw [if_pos h0, Int.tdiv_eq_ediv_of_nonneg h0]
      · rw [if_neg h0, ← Int.tdiv_eq_ediv_of_nonneg (by omega : 0 ≤ -n), Int.neg_tdiv, Int.neg_neg]
    rw [this]
    split <;> omega
  have e9 : wrap64 n3' = n3' := by unfold I64 at hI3; unfold wrap64; omega
  have bj := pickP_bd n3' (n := (k : Int) + 1) (by omega)
  have HPK := hid (fun wx => keepPick_any n3' ((k : Int) + 1) wx hI3 (by omega))
  obtain ⟨j, hj⟩ : ∃ j : Nat, pickP n3' ((k : Int) + 1) = j := ⟨(pickP n3' ((k : Int) + 1)).toNat, by omega⟩
  rw [hj] at HPK bj
  have HJ := hid (show j ≤ k by omega)
  clear hB26 bw6 a6 b6 n6 ha6 hb6' hB67 bw7 a7 n7 hB7 H6 hj hI3
  go_wp2_with fail
  refine (HPK.out _).mono ?_
  rintro e w' ⟨rfl, hw'⟩
  rw [hw']
  clear hw' w' HPK y0 y1 s0 s1 s2 s3 t0 t1 t2
  go_wp2_with fail
  obtain ⟨V7, hV7⟩ : ∃ V7, V7 = w7.alloc (.cells #[.int .i64 4, .int .i64 1, .int .i64 1, .int .i64 (5 + 11 * (j : Int)), .int .i64 3, .int .i64 0, .int .i64 (5 + 11 * (j : Int) + 1), .int .i64 4, .int .i64 0] 65) := ⟨_, rfl⟩
  rw [← hV7]
  have hB7v : Below w7.heap.size w7 V7 := by rw [hV7]; exact (Below.refl _ _).alloc (Nat.le_refl _) _
  have q2 : V7.heap[w7.heap.size]? = some (.cells #[.int .i64 4, .int .i64 1, .int .i64 1, .int .i64 (5 + 11 * (j : Int)), .int .i64 3, .int .i64 0, .int .i64 (5 + 11 * (j : Int) + 1), .int .i64 4, .int .i64 0] 65 (0, 0)) := by rw [hV7]; exact Go.Deep.blk_alloc_new _ _
  have hE7 : EvV V7 V7.heap.size (.slice (some ⟨w7.heap.size, 0, none⟩) 3 3) [⟨4, 1, 1⟩, ⟨5 + 11 * (j : Int), 3, 0⟩, ⟨5 + 11 * (j : Int) + 1, 4, 0⟩] := ⟨_, _, rfl, Nat.le_refl _, fun _ => ⟨_, _, rfl, heap_lt q2, fun i hi => by
    have h3 : i = 0 ∨ i = 1 ∨ i = 2 := by have : i < 3 := hi; omega
    rcases h3 with rfl | rfl | rfl <;> exact ⟨(cell_heap q2).trans rfl, (cell_heap q2).trans rfl, (cell_heap q2).trans rfl⟩⟩⟩
  obtain ⟨hB27, bw7, a7, n7, ha7⟩ := H7.out
  have hB27v := hB27.trans (hB7v.mono hB27.size)
  have hs3 := sum_shift hk5 (HCD.out.1.below hB27v) HT.out.2.1 hE7 (sum_e2 j)
  rw [HSS.out, HST.out, sum_at2 k hk5 HT.out.2.1 j HJ.out] at hs3
  have HS3 := hid hs3
  have H8 := hid (And.intro hB27v (And.intro ((hB7v.block _ (heap_lt a7)).trans a7) (And.intro ((hB7v.block _ (heap_lt n7)).trans n7) (ha7.below hB7v))))
  clear hs3 hB27 bw7 a7 n7 ha7 hB27v hE7 q2 hB7v hV7 H7
  go_wp2_with fail
  refine HS3.out.mono ?_
  rintro e w8 ⟨p8, c8, rfl, hB8, ha8⟩
  clear HS3
  obtain ⟨hB27v, a7, n7, ha7⟩ := H8.out
  have n8 := (hB8.block _ (heap_lt n7)).trans n7
  have a8 := (hB8.block _ (heap_lt a7)).trans a7
  have t0 : w8.cell? ⟨w5.heap.size + 1, 0, none⟩ = some (.int .i64 (11 * (k : Int) + 6)) := (cell_heap n8).trans rfl
  have t1 : w8.cell? ⟨w5.heap.size + 1, 1, none⟩ = some (.int .i64 0) := (cell_heap n8).trans rfl
  have t2 : w8.cell? ⟨w5.heap.size + 1, 2, none⟩ = some (.int .i64 0) := (cell_heap n8).trans rfl
  have f0 : w8.frozen? ⟨w5.heap.size + 1, 0, none⟩ = false := frozen_heap n8
  have f1 : w8.frozen? ⟨w5.heap.size + 1, 1, none⟩ = false := frozen_heap n8
  have f2 : w8.frozen? ⟨w5.heap.size + 1, 2, none⟩ = false := frozen_heap n8
  have zn := heap_lt n8
  have za := heap_lt a8
  have s0 : w8.cell? ⟨w4.heap.size, 0, none⟩ = some (.int .i64 1) := (cell_heap a8).trans rfl
  have s1 : w8.cell? ⟨w4.heap.size, 1, none⟩ = some (.int .i64 st) := (cell_heap a8).trans rfl
  have s2 : w8.cell? ⟨w4.heap.size, 2, none⟩ = some (.int .i64 1) := (cell_heap a8).trans rfl
  have s3 : w8.cell? ⟨w4.heap.size, 3, none⟩ = some (.int .i64 S) := (cell_heap a8).trans rfl
  have s4 : w8.cell? ⟨w4.heap.size, 4, none⟩ = some (.slice (some ⟨ob, 0, none⟩) 1 c4) := (cell_heap a8).trans rfl
  have H9 := hid (And.intro hB8 (And.intro ha8 (And.intro n8 a8)))
  clear hB27v a7 n7 ha7 n8 a8 hB8 ha8
  unfold sumE
  go_upto_region 18 with fail
  obtain ⟨X9, hX9⟩ : ∃ X9, X9 = (((w8.setCell ⟨w5.heap.size + 1, 0, none⟩ (.int .i64 1)).setCell ⟨w5.heap.size + 1, 1, none⟩ (.int .i64 1)).setCell ⟨w5.heap.size + 1, 2, none⟩ (.int .i64 1)).alloc (.cells #[.int .i64 1, .int .i64 st, .int .i64 1, .int .i64 S, .slice p8 1 c8] 46) := ⟨_, rfl⟩
  rw [← hX9]
  obtain ⟨hB8, ha8, n8, a8⟩ := H9.out
  obtain ⟨ob8, rfl, o80, _⟩ := ha8.at_ (i := 0) (by show 0 < 1; omega)
  have hne8 : ob8 ≠ w5.heap.size + 1 := fun e => by
    rw [e] at o80
    have := o80.symm.trans t0
    injection this with this
    injection this with _ this
    have h1 : (1 : Int) = 11 * (k : Int) + 6 := this
    omega
  have hneo : ob ≠ w5.heap.size + 1 := by omega
  have hne4 : w4.heap.size ≠ w5.heap.size + 1 := by omega
  obtain ⟨Y, hY⟩ : ∃ Y, Y = ((w8.setCell ⟨w5.heap.size + 1, 0, none⟩ (.int .i64 1)).setCell ⟨w5.heap.size + 1, 1, none⟩ (.int .i64 1)).setCell ⟨w5.heap.size + 1, 2, none⟩ (.int .i64 1) := ⟨_, rfl⟩
  rw [← hY] at hX9
  have hYz : Y.heap.size = w8.heap.size := by rw [hY]; simp [World.setCell]
  have hYb : ∀ c, c ≠ w5.heap.size + 1 → Y.heap[c]? = w8.heap[c]? := fun c hc => by rw [hY, Below.heap_setCell _ _ _ _ hc, Below.heap_setCell _ _ _ _ hc, Below.heap_setCell _ _ _ _ hc]
  have hYX : Below Y.heap.size Y X9 := by rw [hX9]; exact (Below.refl _ _).alloc (Nat.le_refl _) _
  have n9 : X9.heap[w5.heap.size + 1]? = some (.cells #[.int .i64 1, .int .i64 1, .int .i64 1] 61 (0, 0)) := by
    rw [hYX.block _ (by omega), hY, block_set (block_set (block_set n8 _) _) _]
    rfl
  have a9 := (hYX.block _ (by omega)).trans ((hYb _ hne4).trans a8)
  have d9 : X9.heap[w8.heap.size]? = some (.cells #[.int .i64 1, .int .i64 st, .int .i64 1, .int .i64 S, .slice (some ⟨ob8, 0, none⟩) 1 c8] 46 (0, 0)) := by rw [hX9, ← hYz]; exact Go.Deep.blk_alloc_new _ _
  have haY : ∀ {q c : Nat}, q ≠ w5.heap.size + 1 → ArgsIn w8 (.slice (some ⟨q, 0, none⟩) 1 c) [vnum S] → ArgsIn X9 (.slice (some ⟨q, 0, none⟩) 1 c) [vnum S] := fun {q c} hq h => by
    obtain ⟨b', e', c0', c1'⟩ := h.at_ (i := 0) (by show 0 < 1; omega)
    injection e' with e'
    injection e' with e' _ _
    subst e'
    have hlt : q < w8.heap.size := World.block_lt_of_cell? w8 _ c0'
    refine Or.inr ⟨q, c, rfl, by have := hYX.size; omega, fun i hi => ?_⟩
    have hc : X9.cell? ⟨q, i, none⟩ = w8.cell? ⟨q, i, none⟩ := World.cell?_of_block (a := ⟨q, i, none⟩) ((hYX.block q (by omega)).trans (hYb q hq))
    rw [hc]
    have h2 : i = 0 ∨ i = 1 := by have : i < 1 * 2 := hi; omega
    rcases h2 with rfl | rfl
    · exact c0'
    · exact c1'
  have hA9 := haY hneo ((H8.out.2.2.2).below hB8)
  have hD9 := haY hne8 ha8
  have hBw9 : Below w.heap.size w X9 := by
    have h1 := H8.out.1
    have h2 := HCD.out.2.trans (h1.mono HCD.out.2.size)
    have h3 := h2.trans (hB8.mono h2.size)
    have hwz := HCD.out.2.size
    rw [hX9, hY]
    exact (((h3.setCell (by show w.heap.size ≤ w5.heap.size + 1; omega) _).setCell (by show w.heap.size ≤ w5.heap.size + 1; omega) _).setCell (by show w.heap.size ≤ w5.heap.size + 1; omega) _).alloc (by have := h3.size; simp [World.setCell]; omega) _
  have HAL := hid (alikeT X9 1 st (vnum S) (.slice (some ⟨ob, 0, none⟩) 1 c4) (.slice (some ⟨ob8, 0, none⟩) 1 c8) [vnum S] hA9 hD9 (by show 1 ≤ 200000; omega))
  clear s0 s1 s2 s3 s4 t0 t1 t2 f0 f1 f2
  have s0 : X9.cell? ⟨w4.heap.size, 0, none⟩ = some (.int .i64 1) := (cell_heap a9).trans rfl
  have s1 : X9.cell? ⟨w4.heap.size, 1, none⟩ = some (.int .i64 st) := (cell_heap a9).trans rfl
  have s2 : X9.cell? ⟨w4.heap.size, 2, none⟩ = some (.int .i64 1) := (cell_heap a9).trans rfl
  have s3 : X9.cell? ⟨w4.heap.size, 3, none⟩ = some (.int .i64 S) := (cell_heap a9).trans rfl
  have s4 : X9.cell? ⟨w4.heap.size, 4, none⟩ = some (.slice (some ⟨ob, 0, none⟩) 1 c4) := (cell_heap a9).trans rfl
  have r0 : X9.cell? ⟨w8.heap.size, 0, none⟩ = some (.int .i64 1) := (cell_heap d9).trans rfl
  have r1 : X9.cell? ⟨w8.heap.size, 1, none⟩ = some (.int .i64 st) := (cell_heap d9).trans rfl
  have r2 : X9.cell? ⟨w8.heap.size, 2, none⟩ = some (.int .i64 1) := (cell_heap d9).trans rfl
  have r3 : X9.cell? ⟨w8.heap.size, 3, none⟩ = some (.int .i64 S) := (cell_heap d9).trans rfl
  have r4 : X9.cell? ⟨w8.heap.size, 4, none⟩ = some (.slice (some ⟨ob8, 0, none⟩) 1 c8) := (cell_heap d9).trans rfl
  have HN := hid (And.intro n9 hBw9)
  clear hX9 hB8 ha8 n8 a8 o80 hne8 hY hYz hYb hYX n9 a9 d9 hA9 hD9 hBw9 H9 H8
  go_wp2_with fail
  refine HAL.out.mono ?_
  rintro e w10 ⟨rfl, hB10⟩
  have n10 := (hB10.block _ (heap_lt HN.out.1)).trans HN.out.1
  have t0 : w10.cell? ⟨w5.heap.size + 1, 0, none⟩ = some (.int .i64 1) := (cell_heap n10).trans rfl
  have t1 : w10.cell? ⟨w5.heap.size + 1, 1, none⟩ = some (.int .i64 1) := (cell_heap n10).trans rfl
  have t2 : w10.cell? ⟨w5.heap.size + 1, 2, none⟩ = some (.int .i64 1) := (cell_heap n10).trans rfl
  have hec := eqCntsK 1 1 1
  have HQ := hid (HN.out.2.trans (hB10.mono HN.out.2.size))
  clear n10 hB10 s0 s1 s2 s3 s4 r0 r1 r2 r3 r4 HAL
  go_wp2
  go_ret
  exact ⟨rfl, HQ.out⟩
end Go.Proofs.YtkafkipjedpohaaGreatDoor
