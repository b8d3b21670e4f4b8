import Derived.Test.YtkafkipjedpohaaGreatDoorK6
import Derived.Test.YtkafkipjedpohaaGreatDoorK9
import Derived.Test.YtkafkipjedpohaaGreatDoorW1
import Derived.Test.YtkafkipjedpohaaGreatDoorW3

/-
  Package upshiftkeep: Gears.
-/
namespace Go.Proofs.YtkafkipjedpohaaGreatDoor
open Go.RowKit

/-- What Gears looks at, of the run in the low gear (A) and the one with events (B). -/
structure GearsF (sA sB : Mc) (E : List Ev) : Prop where
  six : Six sA sB
  high : sB.cH ≤ sA.steps
  ups : sB.cU ≤ cntK 3 E
  none : cntK 1 E = 0 → sB.cH = 0 ∧ sB.cU = 0 ∧ sB.cD = 0
  len : sA.out.length ≤ 200000
  szs : Szs sA ∧ sA.arr.length ≤ 100000

theorem gears_facts {m : Nat} {F : Nat → PF} {K : Nat → Nat → Bool} {H : Nat → Nat → Int} (hF : Fine m F K H) {E : List Ev} (hE : EvsOk m E) (n : Int) : GearsF (atP F n) (atE F E n) E := by
  have h6 := evs_six hF hE.rise hE.ok (fuelP n)
  have hb := evs_bd hF hE.rise hE.ok (fuelP n)
  have hu := evs_cU hF hE.rise hE.ok (fuelP n)
  obtain ⟨z1, z2, z3⟩ := road_szs hF (fuelP n)
  have hfl := fuel_le n
  refine ⟨h6, ?_, ?_, fun h => ?_, ?_, z1, ?_⟩
  · have h1 : (evS F (startP F) E (fuelP n)).1.cH ≤ (evS F (startP F) E (fuelP n)).1.steps := hb.cH
    rw [h6.steps] at h1
    exact h1
  · show (evS F (startP F) E (fuelP n)).1.cU ≤ _
    omega
  · have hl := (evs_low (F := F) (cntK_none h) (fuelP n)).1
    exact ⟨hl.cH, hl.cU, hl.cD⟩
  · show (nthP F (startP F) (fuelP n)).out.length ≤ _
    omega
  · show (nthP F (startP F) (fuelP n)).arr.length ≤ _
    omega
theorem Six.end_ {s t : Mc} (h : Six s t) : endP t = endP s := by unfold endP; rw [h.fin]

theorem cntK_take (k : Int) (E : List Ev) (i : Nat) (hi : i < E.length) : cntK k (E.take (i + 1)) = cntK k (E.take i) + if (E.getD i ⟨0, 0, 0⟩).k = k then 1 else 0 := by
  have e1 : E.take (i + 1) = E.take i ++ [E.getD i ⟨0, 0, 0⟩] := by
    rw [List.take_succ_eq_append_getElem hi, List.getD_eq_getElem?_getD, List.getElem?_eq_getElem hi]
    rfl
  rw [e1]
  unfold cntK
  rw [List.filter_append, List.length_append]
  congr 1
  by_cases h : (E.getD i ⟨0, 0, 0⟩).k = k
  · rw [if_pos h, List.filter_cons_of_pos (by simpa using h)]; rfl
  · rw [if_neg h, List.filter_cons_of_neg (by simpa using h)]; rfl
theorem cntK_le (k : Int) (E : List Ev) : cntK k E ≤ E.length := List.length_filter_le _ _

set_option maxRecDepth 100000 in
set_option maxHeartbeats 4000000 in
theorem gears_any (ls : List Ln) (a : Option Addr) (cap : Nat) (ev : Value) (E0 : List Ev) (fuel : Int) (w : World) (hin : LinesIn w a ls) (hlen : ls.length ≤ 140737488355328) (hev : EvV w w.heap.size ev E0) (hraw : RawOk E0) (hel : E0.length ≤ 140737488355328) (hfi : I64 fuel) (ht : TabAt w) (hw0 : 0 < w.heap.size) :
    Calls Tryz.prog 8 #[.slice a ls.length cap, ev, .int .i64 fuel] w fun e w' => e = .returned (.bool true) ∧ Below w.heap.size w w' := by
  have HPr := hid (prog_any ls a cap w hin hlen)
  have HT := hid ht
  have HEv := hid (fun (X : World) (hX : Below w.heap.size w X) => keepEvents E0 ev 3 (by omega) X ((hev.below hX).mono hX.size) hraw hel)
  obtain ⟨ep, ecc, rfl, _⟩ := hev
  clear hin hlen ht hraw hel
  generalize ls.length = lsn at *
  generalize E0.length = el at *
  go_enter Tryz.func8, Tryz.ntmps8
  go_wp2_with fail
  refine HPr.out.mono ?_
  rintro e w1 ⟨v, rfl, hM⟩
  have hB1 := hM.1
  obtain ⟨pb, pc, CB, CC, rfl, hpb, h9, hcb⟩ := hM.cells9
  have hT1 := HT.out.below hB1 hw0
  have hP1 : ProgAt w1 pb 0 3 (FL ls) (fun k => some ⟨CB k, 0, none⟩) CC := nine_prog h9 fun k hk => ⟨rfl, rfl, rfl, (hcb k hk).1, list_code (hcb k hk).2.2.2.1⟩
  have HC := hid (keepCode w1 pb 0 pc 3 (FL ls) _ CC hP1 hT1 (by rw [prog_ok]))
  have HB1 := hid hB1
  clear hM hB1 h9 hcb hT1 hP1 HPr HT
  go_wp2_with fail
  refine HC.out.mono ?_
  rintro e w2 ⟨v2, wx, rfl, hBx, hB2x, b5, g5, cap5, rfl, hb51, hb52, hc5, hg1, hg2, hne, CA2, CC2, hcp⟩
  have hP2 : ProgAt w2 g5 0 3 (FL ls) CA2 CC2 := ⟨hg2, fun k hk => (hcp k hk).1⟩
  have hcc : ∀ k, k < 3 → (FL ls k).cn ≤ CC2 k := fun k hk => by obtain ⟨_, cb, co, _, _, h⟩ := hcp k hk; exact (h hk).2
  have hBw2 : Below w.heap.size w w2 := (HB1.out.trans (hBx.mono HB1.out.size)).trans (hB2x.mono (by have := HB1.out.size; have := hBx.size; omega))
  obtain ⟨K, H, hF⟩ := prog_fine (m := 3) (F := FL ls) (by rw [prog_ok])
  have hok : eventsP 3 (keepEvs 3 E0) = 0 := keepEvs_ok 3 (by omega) E0
  have hEok : EvsOk 3 (keepEvs 3 E0) := eventsP_ok hok
  have hkl : (keepEvs 3 E0).length ≤ 200 := by unfold keepEvs; rw [keepTo_len]; omega
  have bn := pickP_bd fuel (n := 3000) (by omega)
  have hG := gears_facts hF hEok (pickP fuel 3000)
  have HEv2 := hid (HEv.out w2 hBw2)
  have HR := hid (fun (X : World) (hX : Below w2.heap.size w2 X) => codeRun X b5 g5 0 cap5 3 (FL ls) K H CA2 CC2 (pickP fuel 3000) ((hX.cell (p := ⟨b5, 0, none⟩) hb52).trans hc5) (hP2.below hX (Nat.le_refl _)) hcc hF hG.len)
  have HS := hid (fun (X : World) (hX : Below w2.heap.size w2 X) (ev : Value) (hev : EvV X X.heap.size ev (keepEvs 3 E0)) => codeShift X b5 g5 0 cap5 3 (FL ls) K H CA2 CC2 (pickP fuel 3000) ev (keepEvs 3 E0) ((hX.cell (p := ⟨b5, 0, none⟩) hb52).trans hc5) (hP2.below hX (Nat.le_refl _)) hcc hF hev hok)
  have HK := hid (fun (X : World) (hX : Below w2.heap.size w2 X) => codeLook X b5 g5 0 cap5 3 (FL ls) K H CA2 CC2 (pickP fuel 3000) ((hX.cell (p := ⟨b5, 0, none⟩) hb52).trans hc5) (hP2.below hX (Nat.le_refl _)) hcc hF)
  have HSt := hid (fun (X : World) (hX : Below w2.heap.size w2 X) (ev : Value) (hev : EvV X X.heap.size ev (keepEvs 3 E0)) => codeStop X b5 g5 0 cap5 3 (FL ls) K H CA2 CC2 (pickP fuel 3000) ev (keepEvs 3 E0) ((hX.cell (p := ⟨b5, 0, none⟩) hb52).trans hc5) (hP2.below hX (Nat.le_refl _)) hcc hF hev hok)
  have KK := hid (fun wx => keepPick_any fuel 3000 wx hfi (by omega))
  have HB := hid hBw2
  clear hP2 hBw2 hc5 hF hcp hne hg1 hb51 hb52 hBx hB2x HC HB1 hfi hg2 hok hEok HEv hcc
  generalize pickP fuel 3000 = n at *
  generalize atP (FL ls) n = sA at *
  have HG := hid hG
  have e0 := hG.six.end_
  have e1 := hG.six.steps
  have e2 := hG.six.gives
  have e3 := hG.six.out
  have HOE : Hid (∀ v, OutcomeV (endP (atE (FL ls) (keepEvs 3 E0) n)) (atE (FL ls) (keepEvs 3 E0) n) v = OutcomeV (endP sA) sA v) := fun v => by unfold OutcomeV; rw [e0, e1, e2]
  have HE3 := hid e3
  clear hG e0 e1 e2 e3
  generalize atE (FL ls) (keepEvs 3 E0) n = sB at *
  generalize keepEvs 3 E0 = E at *
  go_wp2_with fail
  refine HEv2.out.mono ?_
  rintro e w3 ⟨v3, rfl, hB3, hE3⟩
  obtain ⟨ep3, ec3, hv3, _⟩ := id hE3
  subst hv3
  have H3 := hid (And.intro hB3 hE3)
  clear hB3 hE3 HEv2
  generalize hEl : E.length = en at *
  have HEL := hid hEl
  clear hEl
  go_wp2_with fail
  refine (KK.out _).mono ?_
  rintro e w' ⟨rfl, hw'⟩
  rw [hw']
  clear hw' w' KK
  go_wp2_with fail
  refine (HR.out w3 H3.out.1).mono ?_
  rintro e w4 ⟨vA, rfl, hB4, hOA⟩
  obtain ⟨pA, cA, eA, hcA⟩ := Row.any hOA
  subst eA
  have hA4 : Below w4.heap.size w4 (w4.alloc (.cells #[.int .i64 (endP sA), .int .i64 sA.steps, .int .i64 sA.gives.k, .int .i64 sA.gives.n, .slice pA sA.out.length cA] 46)) := (Below.refl _ _).alloc (Nat.le_refl _) _
  have rA4 : (w4.alloc (.cells #[.int .i64 (endP sA), .int .i64 sA.steps, .int .i64 sA.gives.k, .int .i64 sA.gives.n, .slice pA sA.out.length cA] 46)).heap[w4.heap.size]? = some (.cells #[.int .i64 (endP sA), .int .i64 sA.steps, .int .i64 sA.gives.k, .int .i64 sA.gives.n, .slice pA sA.out.length cA] 46 (0, 0)) := Go.Deep.blk_alloc_new _ _
  have aA4 := (Row.args hOA).below hA4
  have hB34 := hB4.trans (hA4.mono hB4.size)
  have H4 := hid (And.intro hB34 (And.intro rA4 aA4))
  clear hB4 hOA hA4 rA4 aA4 hB34 HR
  unfold OutcomeV
  generalize hlA : sA.out.length = lA at *
  have HLA := hid hlA
  clear hlA
  go_wp2_with fail
  generalize w4.alloc (.cells #[.int .i64 (endP sA), .int .i64 sA.steps, .int .i64 sA.gives.k, .int .i64 sA.gives.n, .slice pA lA cA] 46) = W4 at *
  refine (HS.out W4 (H3.out.1.trans (H4.out.1.mono H3.out.1.size)) _ ((H3.out.2.below H4.out.1).mono H4.out.1.size)).mono ?_
  rintro e w5 ⟨vB, rfl, hB5, hOB⟩
  rw [HOE.out, HE3.out] at *
  obtain ⟨pB, cB, eB, hcB⟩ := Row.any hOB
  subst eB
  clear HS HOE
  have hA5 : Below w5.heap.size w5 ((w5.alloc (.cells #[.int .i64 (endP sA), .int .i64 sA.steps, .int .i64 sA.gives.k, .int .i64 sA.gives.n, .slice pB sA.out.length cB] 46)).alloc (.cells #[.int .i64 sB.cH, .int .i64 sB.cU, .int .i64 sB.cD] 61)) := ((Below.refl _ _).alloc (Nat.le_refl _) _).alloc (by simp) _
  have rB5 : ((w5.alloc (.cells #[.int .i64 (endP sA), .int .i64 sA.steps, .int .i64 sA.gives.k, .int .i64 sA.gives.n, .slice pB sA.out.length cB] 46)).alloc (.cells #[.int .i64 sB.cH, .int .i64 sB.cU, .int .i64 sB.cD] 61)).heap[w5.heap.size]? = some (.cells #[.int .i64 (endP sA), .int .i64 sA.steps, .int .i64 sA.gives.k, .int .i64 sA.gives.n, .slice pB sA.out.length cB] 46 (0, 0)) := (Below.heap_alloc _ _ _ (by simp)).trans (Go.Deep.blk_alloc_new _ _)
  have rC5 : ((w5.alloc (.cells #[.int .i64 (endP sA), .int .i64 sA.steps, .int .i64 sA.gives.k, .int .i64 sA.gives.n, .slice pB sA.out.length cB] 46)).alloc (.cells #[.int .i64 sB.cH, .int .i64 sB.cU, .int .i64 sB.cD] 61)).heap[w5.heap.size + 1]? = some (.cells #[.int .i64 sB.cH, .int .i64 sB.cU, .int .i64 sB.cD] 61 (0, 0)) := by
    have := Go.Deep.blk_alloc_new (w5.alloc (.cells #[.int .i64 (endP sA), .int .i64 sA.steps, .int .i64 sA.gives.k, .int .i64 sA.gives.n, .slice pB sA.out.length cB] 46)) (.cells #[.int .i64 sB.cH, .int .i64 sB.cU, .int .i64 sB.cD] 61)
    simpa using this
  have aB5 := (Row.args hOB).below hA5
  have hB45 := hB5.trans (hA5.mono hB5.size)
  have zA := heap_lt H4.out.2.1
  have rA5 := (hB45.block _ zA).trans H4.out.2.1
  have aA5 := H4.out.2.2.below hB45
  have hB25 := (H3.out.1.trans (H4.out.1.mono H3.out.1.size)).trans (hB45.mono (by have := H3.out.1.size; have := H4.out.1.size; omega))
  have hE5 := (((H3.out.2.below H4.out.1).mono H4.out.1.size).below hB45).mono hB45.size
  have hz45 := hB5.size
  have H5 := hid (And.intro hB25 (And.intro hE5 (And.intro rA5 (And.intro rB5 (And.intro rC5 (And.intro aA5 aB5))))))
  clear hB5 hOB hA5 rB5 rC5 aB5 hB45 rA5 aA5 hB25 hE5 H3 H4 HE3
  unfold OutcomeV CountsV
  rw [HLA.out] at *
  go_wp2_with fail
  generalize (w5.alloc (.cells #[.int .i64 (endP sA), .int .i64 sA.steps, .int .i64 sA.gives.k, .int .i64 sA.gives.n, .slice pB lA cB] 46)).alloc (.cells #[.int .i64 sB.cH, .int .i64 sB.cU, .int .i64 sB.cD] 61) = W5 at *
  refine (HK.out W5 H5.out.1).mono ?_
  intro e w6 hst6
  obtain ⟨fv, av, LV, SV, AV, tag, rfl, hb6, hf6, ha6⟩ := hst6
  obtain ⟨fp, fc, rfl, _⟩ := hf6.row.any
  obtain ⟨ap, ac, rfl, _⟩ := ha6.row.any
  have hA6 : Below w6.heap.size w6 (w6.alloc (.cells #[.slice fp sA.fr.length fc, .slice ap sA.arr.length ac] 53)) := (Below.refl _ _).alloc (Nat.le_refl _) _
  have r6 : (w6.alloc (.cells #[.slice fp sA.fr.length fc, .slice ap sA.arr.length ac] 53)).heap[w6.heap.size]? = some (.cells #[.slice fp sA.fr.length fc, .slice ap sA.arr.length ac] 53 (0, 0)) := Go.Deep.blk_alloc_new _ _
  have hb56 : Below W5.heap.size W5 (w6.alloc (.cells #[.slice fp sA.fr.length fc, .slice ap sA.arr.length ac] 53)) := hb6.trans (hA6.mono hb6.size)
  have H6 := hid (And.intro (H5.out.1.trans (hb56.mono H5.out.1.size)) (And.intro r6 (And.intro (hf6.keep (Ch.of_below (p := fun _ => False) hA6) (fun h => h) (fun _ _ => ⟨fun h => h, fun h => h⟩)) (And.intro (ha6.keep (Ch.of_below (p := fun _ => False) hA6) (fun h => h) (fun _ _ h => h)) (And.intro hb56 ((H5.out.2.1.below hb56).mono hb56.size))))))
  have hz6 : W5.heap.size ≤ w6.heap.size := hb6.size
  clear hb6 hf6 ha6 hA6 r6 hb56 HK
  generalize hnf : sA.fr.length = nf at *
  have HNF := hid hnf
  clear hnf
  generalize hna : sA.arr.length = na at *
  have HNA := hid hna
  clear hna
  go_wp2_with fail
  generalize w6.alloc (.cells #[.slice fp nf fc, .slice ap na ac] 53) = W6 at *
  refine (HSt.out W6 H6.out.1 _ H6.out.2.2.2.2.2).mono ?_
  rintro e w7 ⟨v7, rfl, hst7⟩
  obtain ⟨fv2, av2, LV2, SV2, AV2, tag2, hv7, hb7, hf7, ha7⟩ := hst7
  injection hv7 with hv7
  subst hv7
  obtain ⟨fp2, fc2, rfl, _⟩ := hf7.row.any
  obtain ⟨ap2, ac2, rfl, _⟩ := ha7.row.any
  rw [HNF.out] at hf7
  rw [HNA.out] at ha7
  rw [HNF.out, HNA.out]
  clear HSt
  have hA7 : Below w7.heap.size w7 (w7.alloc (.cells #[.slice fp2 nf fc2, .slice ap2 na ac2] 53)) := (Below.refl _ _).alloc (Nat.le_refl _) _
  have r7 : (w7.alloc (.cells #[.slice fp2 nf fc2, .slice ap2 na ac2] 53)).heap[w7.heap.size]? = some (.cells #[.slice fp2 nf fc2, .slice ap2 na ac2] 53 (0, 0)) := Go.Deep.blk_alloc_new _ _
  obtain ⟨hX6, r6, hf6, ha6, hb56, hE6⟩ := H6.out
  have hb67 := hb7.trans (hA7.mono hb7.size)
  have z6 := heap_lt r6
  have hb57 := hb56.trans (hb67.mono hb56.size)
  obtain ⟨hX5, hE5, rA5, rB5, rC5, aA5, aB5⟩ := H5.out
  have rA7 := (hb57.block _ (heap_lt rA5)).trans rA5
  have rB7 := (hb57.block _ (heap_lt rB5)).trans rB5
  have rC7 := (hb57.block _ (heap_lt rC5)).trans rC5
  have r67 := (hb67.block _ z6).trans r6
  have H7 := hid (And.intro (hX6.trans (hb67.mono hX6.size)) (And.intro (And.intro rA7 (And.intro rB7 (And.intro rC7 (And.intro r67 r7)))) (And.intro (And.intro (aA5.below hb57) (aB5.below hb57)) (And.intro (And.intro (hf6.keep (Ch.of_below (p := fun _ => False) hb67) (fun h => h) (fun _ _ => ⟨fun h => h, fun h => h⟩)) (And.intro (hf7.keep (Ch.of_below (p := fun _ => False) hA7) (fun h => h) (fun _ _ => ⟨fun h => h, fun h => h⟩)) (And.intro (ha6.keep (Ch.of_below (p := fun _ => False) hb67) (fun h => h) (fun _ _ h => h)) (ha7.keep (Ch.of_below (p := fun _ => False) hA7) (fun h => h) (fun _ _ h => h))))) ((hE6.below hb67).mono hb67.size)))))
  have hz7 : W5.heap.size ≤ w7.heap.size := Nat.le_trans hb56.size hb7.size
  have b57 := hb56.trans (hb7.mono hb56.size)
  have c4 : w4.heap.size < w7.heap.size := Nat.lt_of_lt_of_le (heap_lt rA5) hz7
  have c5 : w5.heap.size < w7.heap.size := Nat.lt_of_lt_of_le (heap_lt rB5) hz7
  have c5' : w5.heap.size + 1 < w7.heap.size := Nat.lt_of_lt_of_le (heap_lt rC5) hz7
  have hlt67 : w6.heap.size < w7.heap.size := Nat.lt_of_lt_of_le z6 hb7.size
  have n4 : ¬ w4.heap.size = w7.heap.size := Nat.ne_of_lt c4
  have n5 : ¬ w5.heap.size = w7.heap.size := Nat.ne_of_lt c5
  have n6 : ¬ w6.heap.size = w7.heap.size := Nat.ne_of_lt hlt67
  have sA7 := (b57.block _ (heap_lt rA5)).trans rA5
  have sB7 := (b57.block _ (heap_lt rB5)).trans rB5
  have xA0 : w7.cell? ⟨w4.heap.size, 0, none⟩ = some (.int .i64 (endP sA)) := (cell_heap sA7).trans rfl
  have xA1 : w7.cell? ⟨w4.heap.size, 1, none⟩ = some (.int .i64 sA.steps) := (cell_heap sA7).trans rfl
  have xA2 : w7.cell? ⟨w4.heap.size, 2, none⟩ = some (.int .i64 sA.gives.k) := (cell_heap sA7).trans rfl
  have xA3 : w7.cell? ⟨w4.heap.size, 3, none⟩ = some (.int .i64 sA.gives.n) := (cell_heap sA7).trans rfl
  have xA4 : w7.cell? ⟨w4.heap.size, 4, none⟩ = some (.slice pA lA cA) := (cell_heap sA7).trans rfl
  have xB0 : w7.cell? ⟨w5.heap.size, 0, none⟩ = some (.int .i64 (endP sA)) := (cell_heap sB7).trans rfl
  have xB1 : w7.cell? ⟨w5.heap.size, 1, none⟩ = some (.int .i64 sA.steps) := (cell_heap sB7).trans rfl
  have xB2 : w7.cell? ⟨w5.heap.size, 2, none⟩ = some (.int .i64 sA.gives.k) := (cell_heap sB7).trans rfl
  have xB3 : w7.cell? ⟨w5.heap.size, 3, none⟩ = some (.int .i64 sA.gives.n) := (cell_heap sB7).trans rfl
  have xB4 : w7.cell? ⟨w5.heap.size, 4, none⟩ = some (.slice pB lA cB) := (cell_heap sB7).trans rfl
  clear hz6 hz7 b57 sA7 sB7 hz45
  clear hA7 r7 hX6 r6 hf6 ha6 hb56 hE6 hb67 z6 hb57 hX5 hE5 rA5 rB5 rC5 aA5 aB5 rA7 rB7 rC7 r67 hb7 hf7 ha7 H5 H6
  go_wp2_with fail
  generalize w7.alloc (.cells #[.slice fp2 nf fc2, .slice ap2 na ac2] 53) = W7 at *
  refine (alikeT W7 (endP sA) (sA.steps : Int) sA.gives (.slice pA lA cA) (.slice pB lA cB) sA.out H7.out.2.2.1.1 H7.out.2.2.1.2 HG.out.len).mono ?_
  rintro e w8 ⟨rfl, hb8⟩
  obtain ⟨hX7, ⟨rA7, rB7, rC7, r67, r77⟩, _, ⟨hf6, hf7, ha6, ha7⟩, hE7⟩ := H7.out
  clear xA0 xA1 xA2 xA3 xA4 xB0 xB1 xB2 xB3 xB4 n4 n5 n6 c4 c5 c5' hlt67
  have s6 := (hb8.block _ (heap_lt r67)).trans r67
  have s7 := (hb8.block _ (heap_lt r77)).trans r77
  have y0 : w8.cell? ⟨w6.heap.size, 0, none⟩ = some (.slice fp nf fc) := (cell_heap s6).trans rfl
  have y1 : w8.cell? ⟨w6.heap.size, 1, none⟩ = some (.slice ap na ac) := (cell_heap s6).trans rfl
  have y2 : w8.cell? ⟨w7.heap.size, 0, none⟩ = some (.slice fp2 nf fc2) := (cell_heap s7).trans rfl
  have y3 : w8.cell? ⟨w7.heap.size, 1, none⟩ = some (.slice ap2 na ac2) := (cell_heap s7).trans rfl
  have hst := standsT w8 _ _ _ _ _ _ _ _ _ _ _ _ _ _ (frAt sA.fr) nf sA.arr (hf6.keep (Ch.of_below (p := fun _ => False) hb8) (fun h => h) (fun _ _ => ⟨fun h => h, fun h => h⟩)) (hf7.keep (Ch.of_below (p := fun _ => False) hb8) (fun h => h) (fun _ _ => ⟨fun h => h, fun h => h⟩)) (by rw [HNA.out]; exact ha6.keep (Ch.of_below (p := fun _ => False) hb8) (fun h => h) (fun _ _ h => h)) (by rw [HNA.out]; exact ha7.keep (Ch.of_below (p := fun _ => False) hb8) (fun h => h) (fun _ _ h => h)) (by have := HG.out.szs.1.fr; rw [HNF.out] at this; omega) (by have := HG.out.szs.2; omega) (fun i hi => by have := HG.out.szs.1.ls _ (frAt_mem (by rw [HNF.out]; exact hi)); omega) (fun j hj => by have := HG.out.szs.1.al _ (getD_mem hj); omega)
  have HST := hid hst
  have H8 := hid (And.intro (hX7.trans (hb8.mono hX7.size)) (And.intro ((hb8.block _ (heap_lt rA7)).trans rA7) (And.intro ((hb8.block _ (heap_lt rC7)).trans rC7) ((hE7.below hb8).mono hb8.size))))
  clear hst hX7 rA7 rB7 rC7 r67 r77 hf6 hf7 ha6 ha7 hE7 hb8 s6 s7 H7
  go_wp2_with fail
  refine HST.out.mono ?_
  rintro e w9 ⟨rfl, hb9⟩
  obtain ⟨hX8, rA8, rC8, hE8⟩ := H8.out
  clear y0 y1 y2 y3
  have sA9 := (hb9.block _ (heap_lt rA8)).trans rA8
  have sC9 := (hb9.block _ (heap_lt rC8)).trans rC8
  have x1 : w9.cell? ⟨w4.heap.size, 1, none⟩ = some (.int .i64 sA.steps) := (cell_heap sA9).trans rfl
  have z0 : w9.cell? ⟨w5.heap.size + 1, 0, none⟩ = some (.int .i64 sB.cH) := (cell_heap sC9).trans rfl
  have z1 : w9.cell? ⟨w5.heap.size + 1, 1, none⟩ = some (.int .i64 sB.cU) := (cell_heap sC9).trans rfl
  have z2 : w9.cell? ⟨w5.heap.size + 1, 2, none⟩ = some (.int .i64 sB.cD) := (cell_heap sC9).trans rfl
  have d0 : decide ((sB.cH : Int) < 0) = false := by simp
  have d1 : decide ((sA.steps : Int) < (sB.cH : Int)) = false := by have := HG.out.high; simp; omega
  have H9 := hid (And.intro (HB.out.trans ((hX8.trans (hb9.mono hX8.size)).mono HB.out.size)) ((hE8.below hb9).mono hb9.size))
  clear hX8 rA8 rC8 hE8 sA9 sC9 hb9 H8 HST
  have HZ := hid (fun (X : World) (hX : Below w9.heap.size w9 X) => (show X.cell? ⟨w5.heap.size + 1, 0, none⟩ = some (.int .i64 sB.cH) ∧ X.cell? ⟨w5.heap.size + 1, 1, none⟩ = some (.int .i64 sB.cU) ∧ X.cell? ⟨w5.heap.size + 1, 2, none⟩ = some (.int .i64 sB.cD) from ⟨(hX.cell (p := ⟨w5.heap.size + 1, 0, none⟩) (World.block_lt_of_cell? w9 _ z0)).trans z0, (hX.cell (p := ⟨w5.heap.size + 1, 1, none⟩) (World.block_lt_of_cell? w9 _ z1)).trans z1, (hX.cell (p := ⟨w5.heap.size + 1, 2, none⟩) (World.block_lt_of_cell? w9 _ z2)).trans z2⟩))
  go_wp2
  all_goals try (exfalso; have := HG.out.high; omega)
  clear z0 z1 z2 x1 d0 d1
  go_loopw [21, 22, 23] (fun u v i wr => ∃ k : Nat, k ≤ en ∧ i = .int .i64 k ∧ u = .int .i64 (cntK 3 (E.take k)) ∧ v = .int .i64 (cntK 1 (E.take k)) ∧ Below w9.heap.size w9 wr) (fun _ _ i _ => en - (intOf i).toNat)
  case atStart => exact ⟨0, Nat.zero_le _, rfl, by simp [cntK], by simp [cntK], Below.refl _ _⟩
  case round =>
    obtain ⟨k, hk, rfl, rfl, rfl, hBr⟩ := hrel
    have HBr := hid hBr
    by_cases hlt : k < en
    · have d0 : decide ((k : Int) < (en : Int)) = true := by simp; omega
      obtain ⟨p3, c3, hv3, hcc3, hee⟩ := (H9.out.2.below hBr)
      have hne : E ≠ [] := fun h => by have := HEL.out; rw [h] at this; simp at this; omega
      obtain ⟨eb, eo, hp3, heb, hcs⟩ := hee hne
      injection hv3 with hv3 _ _
      rw [hp3] at hv3
      subst hv3
      obtain ⟨_, k1, _⟩ := hcs k (by rw [HEL.out]; exact hlt)
      have h3 := cntK_take 3 E k (by rw [HEL.out]; exact hlt)
      have h1 := cntK_take 1 E k (by rw [HEL.out]; exact hlt)
      have l3 := cntK_le 3 (E.take k)
      have l1 := cntK_le 1 (E.take k)
      have hlk : (E.take k).length ≤ 200 := by rw [List.length_take]; have := HEL.out; omega
      have i0 : (0 : Int) ≤ (k : Int) := by omega
      have i1 : (k : Int) < (en : Int) := by omega
      generalize E.getD k ⟨0, 0, 0⟩ = ev at *
      have w1 : wrap64 ((cntK 3 (E.take k) : Int) + 1) = (cntK 3 (E.take k) : Int) + 1 := by unfold wrap64; omega
      have w2 : wrap64 ((cntK 1 (E.take k) : Int) + 1) = (cntK 1 (E.take k) : Int) + 1 := by unfold wrap64; omega
      have HC := hid (And.intro h3 h1)
      have HW := hid (And.intro w1 w2)
      clear hBr hee hcs h3 h1 hcc3 hne hp3 l3 l1 hlk
      by_cases b3 : ev.k = 3
      · have q1 : (ev.k == 3) = true := by simpa using b3
        have q2 : (ev.k == 1) = false := by simp; omega
        have HC2 : Hid (cntK 3 (E.take (k + 1)) = cntK 3 (E.take k) + 1 ∧ cntK 1 (E.take (k + 1)) = cntK 1 (E.take k)) := ⟨by rw [HC.out.1, if_pos b3], by rw [HC.out.2, if_neg (by omega)]; rfl⟩
        clear HC b3
        go_wp2
        go_roundw
        case rel => exact ⟨k + 1, by omega, by go_num, by rw [HC2.out.1, HW.out.1]; rfl, by rw [HC2.out.2], HBr.out⟩
        case measure => simp [intOf]; omega
      · have q1 : (ev.k == 3) = false := by simpa using b3
        by_cases b1 : ev.k = 1
        · have q2 : (ev.k == 1) = true := by simpa using b1
          have HC2 : Hid (cntK 3 (E.take (k + 1)) = cntK 3 (E.take k) ∧ cntK 1 (E.take (k + 1)) = cntK 1 (E.take k) + 1) := ⟨by rw [HC.out.1, if_neg b3]; rfl, by rw [HC.out.2, if_pos b1]⟩
          clear HC b3 b1
          go_wp2
          go_roundw
          case rel => exact ⟨k + 1, by omega, by go_num, by rw [HC2.out.1], by rw [HC2.out.2, HW.out.2]; rfl, HBr.out⟩
          case measure => simp [intOf]; omega
        · have q2 : (ev.k == 1) = false := by simpa using b1
          have HC2 : Hid (cntK 3 (E.take (k + 1)) = cntK 3 (E.take k) ∧ cntK 1 (E.take (k + 1)) = cntK 1 (E.take k)) := ⟨by rw [HC.out.1, if_neg b3]; rfl, by rw [HC.out.2, if_neg b1]; rfl⟩
          clear HC b3 b1
          go_wp2
          go_roundw
          case rel => exact ⟨k + 1, by omega, by go_num, by rw [HC2.out.1], by rw [HC2.out.2], HBr.out⟩
          case measure => simp [intOf]; omega
    · have d0 : decide ((k : Int) < (en : Int)) = false := by simp; omega
      obtain rfl : k = en := by omega
      obtain ⟨z0, z1, z2⟩ := HZ.out wr hBr
      have hall : E.take k = E := List.take_of_length_le (by rw [HEL.out]; exact Nat.le_refl _)
      rw [hall]
      have hup := HG.out.ups
      have hno := HG.out.none
      have HQ := hid (H9.out.1.trans (hBr.mono H9.out.1.size))
      clear hBr hall
      generalize cntK 3 E = u3 at *
      generalize cntK 1 E = u1 at *
      have d1 : decide ((sB.cU : Int) ≤ (u3 : Int)) = true := by simp; omega
      by_cases hm : 0 < u1
      · have d2 : decide ((0 : Int) < (u1 : Int)) = true := by simp; omega
        go_wp2
        go_ret
        exact ⟨rfl, HQ.out⟩
      · have d2 : decide ((0 : Int) < (u1 : Int)) = false := by simp; omega
        obtain ⟨f1, f2, f3⟩ := hno (by omega)
        rw [f1] at z0
        rw [f2] at z1 d1
        rw [f3] at z2
        go_wp2
        go_ret
        exact ⟨rfl, HQ.out⟩
end Go.Proofs.YtkafkipjedpohaaGreatDoor
