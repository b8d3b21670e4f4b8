import Derived.Test.YtkafkipjedpohaaGreatDoorK12

/-
  Package upshiftkeep: Apart.
-/
namespace Go.Proofs.YtkafkipjedpohaaGreatDoor
open Go.RowKit

theorem LinesIn.below {w w' : World} {a : Option Addr} {ls : List Ln} (h : LinesIn w a ls) (k : Below w.heap.size w w') : LinesIn w' a ls := fun hne => by
  obtain ⟨lb, lo, e, hlb, hl⟩ := h hne
  exact ⟨lb, lo, e, Nat.lt_of_lt_of_le hlb k.size, hl.below k hlb⟩

/-- A code of a program, in block b. -/
def CdK (X : World) (b m : Nat) (F : Nat → PF) : Prop :=
  ∃ g cap CA CC, X.cell? ⟨b, 0, none⟩ = some (.slice (some ⟨g, 0, none⟩) m cap) ∧ b < X.heap.size ∧ ProgAt X g 0 m F CA CC ∧ ∀ k, k < m → (F k).cn ≤ CC k
theorem CdK.below {X Y : World} {b m : Nat} {F : Nat → PF} (h : CdK X b m F) (k : Below X.heap.size X Y) : CdK Y b m F := by
  obtain ⟨g, cap, CA, CC, h1, h2, h3, h4⟩ := h
  exact ⟨g, cap, CA, CC, (k.cell (p := ⟨b, 0, none⟩) h2).trans h1, Nat.lt_of_lt_of_le h2 k.size, h3.below k (Nat.le_refl _), h4⟩
theorem CdK.of {w X : World} {v : Value} {m : Nat} {F : Nat → PF} (h : CodeIs w X v m F) : ∃ b, v = .pointer (some ⟨b, 0, none⟩) ∧ CdK X b m F := by
  obtain ⟨b, g, cap, rfl, hb1, hb2, hc, hg1, hg2, hne, CA, CC, hcp⟩ := h
  refine ⟨b, rfl, g, cap, CA, CC, hc, hb2, ⟨hg2, fun k hk => (hcp k hk).1⟩, fun k hk => ?_⟩
  obtain ⟨_, cb, co, _, _, h⟩ := hcp k hk
  exact (h hk).2
theorem CdK.shift {X : World} {b m : Nat} {F : Nat → PF} {K : Nat → Nat → Bool} {H : Nat → Nat → Int} (h : CdK X b m F) (hF : Fine m F K H) (fuel : Int) {ev : Value} {E : List Ev} (hev : EvV X X.heap.size ev E) (hok : eventsP m E = 0) :
    Calls Tryz.prog 26 #[.pointer (some ⟨b, 0, none⟩), ev, .int .i64 fuel] X fun e w' => ∃ p c, e = .returned (.tuple #[OutcomeV (endP (atP F fuel)) (atP F fuel) (.slice p (atP F fuel).out.length c), CountsV (atE F E fuel), .int .i64 0]) ∧ Below X.heap.size X w' ∧ ArgsIn w' (.slice p (atP F fuel).out.length c) (atP F fuel).out := by
  obtain ⟨g, cap, CA, CC, h1, h2, h3, h4⟩ := h
  have hG := gears_facts hF (eventsP_ok hok) fuel
  refine (codeShift X b g 0 cap m F K H CA CC fuel ev E h1 h3 h4 hF hev hok).mono ?_
  rintro e w' ⟨v, rfl, hB, hO⟩
  have e0 := hG.six.end_
  have e1 := hG.six.steps
  have e2 := hG.six.gives
  rw [hG.six.out] at hO
  obtain ⟨p, c, rfl, _⟩ := Row.any hO
  refine ⟨p, c, ?_, hB, Row.args hO⟩
  unfold OutcomeV
  rw [e0, e1, e2]
theorem CdK.run {X : World} {b m : Nat} {F : Nat → PF} {K : Nat → Nat → Bool} {H : Nat → Nat → Int} (h : CdK X b m F) (hF : Fine m F K H) (fuel : Int) :
    Calls Tryz.prog 19 #[.pointer (some ⟨b, 0, none⟩), .int .i64 fuel] X fun e w' => ∃ p c, e = .returned (OutcomeV (endP (atP F fuel)) (atP F fuel) (.slice p (atP F fuel).out.length c)) ∧ Below X.heap.size X w' ∧ ArgsIn w' (.slice p (atP F fuel).out.length c) (atP F fuel).out := by
  obtain ⟨g, cap, CA, CC, h1, h2, h3, h4⟩ := h
  have hl : (atP F fuel).out.length ≤ 200000 := by
    have := (road_szs hF (fuelP fuel)).2.2
    have := fuel_le fuel
    show (nthP F (startP F) (fuelP fuel)).out.length ≤ 200000
    omega
  refine (codeRun X b g 0 cap m F K H CA CC fuel h1 h3 h4 hF hl).mono ?_
  rintro e w' ⟨v, rfl, hB, hO⟩
  obtain ⟨p, c, rfl, _⟩ := Row.any hO
  exact ⟨p, c, rfl, hB, Row.args hO⟩

/-- An outcome and counts, laid into two new blocks. -/
def shW (w : World) (en st gk gn : Int) (o : Value) (x y z : Int) : World := (w.alloc (.cells #[.int .i64 en, .int .i64 st, .int .i64 gk, .int .i64 gn, o] 46)).alloc (.cells #[.int .i64 x, .int .i64 y, .int .i64 z] 61)
structure ShAt (W : World) (n : Nat) (en st gk gn : Int) (o : Value) (x y z : Int) (l : List V) : Prop where
  out : W.heap[n]? = some (.cells #[.int .i64 en, .int .i64 st, .int .i64 gk, .int .i64 gn, o] 46 (0, 0))
  cnt : W.heap[n + 1]? = some (.cells #[.int .i64 x, .int .i64 y, .int .i64 z] 61 (0, 0))
  arg : ArgsIn W o l
theorem shW_below (w : World) (en st gk gn : Int) (o : Value) (x y z : Int) : Below w.heap.size w (shW w en st gk gn o x y z) := ((Below.refl _ _).alloc (Nat.le_refl _) _).alloc (by simp) _
theorem shW_at {w : World} {o : Value} {l : List V} (h : ArgsIn w o l) (en st gk gn x y z : Int) : ShAt (shW w en st gk gn o x y z) w.heap.size en st gk gn o x y z l := by
  refine ⟨(Below.heap_alloc _ _ _ (by simp)).trans (Go.Deep.blk_alloc_new _ _), ?_, h.below (shW_below _ _ _ _ _ _ _ _ _)⟩
  have := Go.Deep.blk_alloc_new (w.alloc (.cells #[.int .i64 en, .int .i64 st, .int .i64 gk, .int .i64 gn, o] 46)) (.cells #[.int .i64 x, .int .i64 y, .int .i64 z] 61)
  simpa [shW] using this
theorem ShAt.below {W W' : World} {n : Nat} {en st gk gn : Int} {o : Value} {x y z : Int} {l : List V} (h : ShAt W n en st gk gn o x y z l) (k : Below W.heap.size W W') : ShAt W' n en st gk gn o x y z l :=
  ⟨(k.block _ (heap_lt h.out)).trans h.out, (k.block _ (heap_lt h.cnt)).trans h.cnt, h.arg.below k⟩
end Go.Proofs.YtkafkipjedpohaaGreatDoor

/-
  Package upshiftkeep: Apart, walked.
-/
namespace Go.Proofs.YtkafkipjedpohaaGreatDoor
open Go.RowKit

theorem bl {u v x : World} (h : Below u.heap.size u v) (k : Below v.heap.size v x) : Below u.heap.size u x := h.trans (k.mono h.size)
theorem ShAt.cells {W : World} {n : Nat} {en st gk gn : Int} {o : Value} {x y z : Int} {l : List V} (h : ShAt W n en st gk gn o x y z l) :
    (W.cell? ⟨n, 0, none⟩ = some (.int .i64 en) ∧ W.cell? ⟨n, 1, none⟩ = some (.int .i64 st) ∧ W.cell? ⟨n, 2, none⟩ = some (.int .i64 gk) ∧ W.cell? ⟨n, 3, none⟩ = some (.int .i64 gn) ∧ W.cell? ⟨n, 4, none⟩ = some o) ∧
    (W.cell? ⟨n + 1, 0, none⟩ = some (.int .i64 x) ∧ W.cell? ⟨n + 1, 1, none⟩ = some (.int .i64 y) ∧ W.cell? ⟨n + 1, 2, none⟩ = some (.int .i64 z)) :=
  ⟨⟨(cell_heap h.out).trans rfl, (cell_heap h.out).trans rfl, (cell_heap h.out).trans rfl, (cell_heap h.out).trans rfl, (cell_heap h.out).trans rfl⟩, (cell_heap h.cnt).trans rfl, (cell_heap h.cnt).trans rfl, (cell_heap h.cnt).trans rfl⟩

set_option maxRecDepth 100000 in
set_option maxHeartbeats 4000000 in
theorem apart_any (ls ms : List Ln) (a1 a2 : Option Addr) (cap1 cap2 : Nat) (ev : Value) (E0 : List Ev) (fuel : Int) (w : World) (hin1 : LinesIn w a1 ls) (hlen1 : ls.length ≤ 140737488355328) (hin2 : LinesIn w a2 ms) (hlen2 : ms.length ≤ 140737488355328) (hev : EvV w w.heap.size ev E0) (hraw : RawOk E0) (hel : E0.length ≤ 140737488355328) (hfi : I64 fuel) (ht : TabAt w) (hw0 : 0 < w.heap.size) :
    Calls Tryz.prog 10 #[.slice a1 ls.length cap1, .slice a2 ms.length cap2, ev, .int .i64 fuel] w fun e w' => e = .returned (.bool true) ∧ Below w.heap.size w w' := by
  have HPr := hid (prog_any ls a1 cap1 w hin1 hlen1)
  have HPr2 := hid (fun (X : World) (hX : Below w.heap.size w X) => prog_any ms a2 cap2 X (hin2.below hX) hlen2)
  have HT := hid (fun (X : World) (hX : Below w.heap.size w X) => ht.below hX hw0)
  have HEv := hid (fun (X : World) (hX : Below w.heap.size w X) => keepEvents E0 ev 3 (by omega) X ((hev.below hX).mono hX.size) hraw hel)
  have KK := hid (fun wx => keepPick_any fuel 2000 wx hfi (by omega))
  obtain ⟨ep, ecc, rfl, _⟩ := hev
  clear hin1 hlen1 hin2 hlen2 ht hraw hel hfi
  generalize ls.length = lsn at *
  generalize ms.length = msn at *
  generalize E0.length = el at *
  go_enter Tryz.func10, Tryz.ntmps10
  go_wp2_with fail
  refine HPr.out.mono ?_
  rintro e w1 ⟨v, rfl, hM⟩
  have hB1 := hM.1
  obtain ⟨pb, pc, CB, CC, rfl, hpb, h9, hcb⟩ := hM.cells9
  have hP1 : ProgAt w1 pb 0 3 (FL ls) (fun k => some ⟨CB k, 0, none⟩) CC := nine_prog h9 fun k hk => ⟨rfl, rfl, rfl, (hcb k hk).1, list_code (hcb k hk).2.2.2.1⟩
  have H1 := hid (And.intro hB1 hP1)
  clear hM hB1 h9 hcb hP1 HPr hpb
  go_wp2_with fail
  refine (HPr2.out w1 H1.out.1).mono ?_
  rintro e w2 ⟨v, rfl, hM⟩
  have hB2 := hM.1
  obtain ⟨pb2, pc2, CB2, CC2, rfl, hpb, h9, hcb⟩ := hM.cells9
  have hP2 : ProgAt w2 pb2 0 3 (FL ms) (fun k => some ⟨CB2 k, 0, none⟩) CC2 := nine_prog h9 fun k hk => ⟨rfl, rfl, rfl, (hcb k hk).1, list_code (hcb k hk).2.2.2.1⟩
  have H2 := hid (And.intro (bl H1.out.1 hB2) (And.intro (H1.out.2.below hB2 (Nat.le_refl _)) hP2))
  clear hM hB2 h9 hcb hP2 HPr2 hpb H1
  have HC := hid (fun (X : World) (hX : Below w2.heap.size w2 X) => keepCode X pb 0 pc 3 (FL ls) _ CC (H2.out.2.1.below hX (Nat.le_refl _)) (HT.out X (bl H2.out.1 hX)) (by rw [prog_ok]))
  have HD := hid (fun (X : World) (hX : Below w2.heap.size w2 X) => keepCode X pb2 0 pc2 3 (FL ms) _ CC2 (H2.out.2.2.below hX (Nat.le_refl _)) (HT.out X (bl H2.out.1 hX)) (by rw [prog_ok]))
  go_wp2_with fail
  refine (HC.out w2 (Below.refl _ _)).mono ?_
  rintro e w3 ⟨v3, wx, rfl, hBx, hB3x, hC3⟩
  obtain ⟨b3, rfl, hK3⟩ := CdK.of hC3
  have H3 := hid (And.intro (bl hBx hB3x) hK3)
  clear hBx hB3x hC3 hK3
  go_wp2_with fail
  refine (HD.out w3 H3.out.1).mono ?_
  rintro e w4 ⟨v4, wx4, rfl, hBx, hB4x, hC4⟩
  obtain ⟨b4, rfl, hK4⟩ := CdK.of hC4
  have H4 := hid (And.intro (bl H3.out.1 (bl hBx hB4x)) (And.intro (H3.out.2.below (bl hBx hB4x)) hK4))
  clear hBx hB4x hC4 hK4 H3 HD
  obtain ⟨K1, G1, hF1⟩ := prog_fine (m := 3) (F := FL ls) (by rw [prog_ok])
  obtain ⟨K2, G2, hF2⟩ := prog_fine (m := 3) (F := FL ms) (by rw [prog_ok])
  have hok : eventsP 3 (keepEvs 3 E0) = 0 := keepEvs_ok 3 (by omega) E0
  have hG1 := gears_facts hF1 (eventsP_ok hok) (pickP fuel 2000)
  have hG2 := gears_facts hF2 (eventsP_ok hok) (pickP fuel 2000)
  have S1 := hid (fun (X : World) (b : Nat) (h : CdK X b 3 (FL ls)) (ev : Value) (hev : EvV X X.heap.size ev (keepEvs 3 E0)) => h.shift hF1 (pickP fuel 2000) hev hok)
  have S2 := hid (fun (X : World) (b : Nat) (h : CdK X b 3 (FL ms)) (ev : Value) (hev : EvV X X.heap.size ev (keepEvs 3 E0)) => h.shift hF2 (pickP fuel 2000) hev hok)
  have R2 := hid (fun (X : World) (b : Nat) (h : CdK X b 3 (FL ms)) => h.run hF2 (pickP fuel 2000))
  have HEv4 := hid (HEv.out w4 (bl H2.out.1 H4.out.1))
  have HG := hid (And.intro hG1.len (And.intro hG2.len hG2.high))
  clear hF1 hF2 hok hG1 hG2 HEv
  generalize pickP fuel 2000 = n at *
  generalize keepEvs 3 E0 = E at *
  generalize atE (FL ls) E n = sC at *
  generalize atE (FL ms) E n = sD at *
  generalize atP (FL ls) n = sA at *
  generalize atP (FL ms) n = sB at *
  go_wp2_with fail
  refine (KK.out _).mono ?_
  rintro e w' ⟨rfl, hw'⟩
  rw [hw']
  clear hw' w' KK
  go_wp2_with fail
  refine HEv4.out.mono ?_
  rintro e w5 ⟨v5, rfl, hB5, hE5⟩
  obtain ⟨ep5, ec5, hv5, _⟩ := id hE5
  subst hv5
  have H5 := hid (And.intro (bl H4.out.1 hB5) (And.intro (H4.out.2.1.below hB5) (And.intro (H4.out.2.2.below hB5) hE5)))
  clear hB5 hE5 HEv4 H4
  generalize E.length = en at *
  go_wp2_with fail
  refine (S1.out w5 b3 H5.out.2.1 _ H5.out.2.2.2).mono ?_
  rintro e w6 ⟨p6, c6, rfl, hB6, hA6⟩
  have hat6 := shW_at hA6 (endP sA) sA.steps sA.gives.k sA.gives.n sC.cH sC.cU sC.cD
  have hW6 := bl hB6 (shW_below w6 (endP sA) sA.steps sA.gives.k sA.gives.n (.slice p6 sA.out.length c6) sC.cH sC.cU sC.cD)
  have H6 := hid (And.intro (bl H5.out.1 hW6) (And.intro (H5.out.2.1.below hW6) (And.intro (H5.out.2.2.1.below hW6) (And.intro ((H5.out.2.2.2.below hW6).mono hW6.size) hat6))))
  clear hB6 hA6 hat6 hW6 H5
  unfold OutcomeV CountsV
  go_wp2_with fail
  refine (show Calls Tryz.prog _ _ (shW w6 (endP sA) sA.steps sA.gives.k sA.gives.n (.slice p6 sA.out.length c6) sC.cH sC.cU sC.cD) _ from ?_)
  generalize shW w6 (endP sA) sA.steps sA.gives.k sA.gives.n (.slice p6 sA.out.length c6) sC.cH sC.cU sC.cD = W6 at *
  refine (S2.out W6 b4 H6.out.2.2.1 _ H6.out.2.2.2.1).mono ?_
  rintro e w7 ⟨p7, c7, rfl, hB7, hA7⟩
  have hat7 := shW_at hA7 (endP sB) sB.steps sB.gives.k sB.gives.n sD.cH sD.cU sD.cD
  have hW7 := bl hB7 (shW_below w7 (endP sB) sB.steps sB.gives.k sB.gives.n (.slice p7 sB.out.length c7) sD.cH sD.cU sD.cD)
  have H7 := hid (And.intro (bl H6.out.1 hW7) (And.intro (H6.out.2.1.below hW7) (And.intro (H6.out.2.2.1.below hW7) (And.intro ((H6.out.2.2.2.1.below hW7).mono hW7.size) (And.intro (H6.out.2.2.2.2.below hW7) hat7)))))
  clear hB7 hA7 hat7 hW7 H6
  unfold OutcomeV CountsV
  go_wp2_with fail
  refine (show Calls Tryz.prog _ _ (shW w7 (endP sB) sB.steps sB.gives.k sB.gives.n (.slice p7 sB.out.length c7) sD.cH sD.cU sD.cD) _ from ?_)
  generalize shW w7 (endP sB) sB.steps sB.gives.k sB.gives.n (.slice p7 sB.out.length c7) sD.cH sD.cU sD.cD = W7 at *
  refine (S1.out W7 b3 H7.out.2.1 _ H7.out.2.2.2.1).mono ?_
  rintro e w8 ⟨p8, c8, rfl, hB8, hA8⟩
  have hat8 := shW_at hA8 (endP sA) sA.steps sA.gives.k sA.gives.n sC.cH sC.cU sC.cD
  have hW8 := bl hB8 (shW_below w8 (endP sA) sA.steps sA.gives.k sA.gives.n (.slice p8 sA.out.length c8) sC.cH sC.cU sC.cD)
  have H8 := hid (And.intro (bl H7.out.1 hW8) (And.intro (H7.out.2.2.1.below hW8) (And.intro ((H7.out.2.2.2.1.below hW8).mono hW8.size) (And.intro (H7.out.2.2.2.2.1.below hW8) (And.intro (H7.out.2.2.2.2.2.below hW8) hat8)))))
  clear hB8 hA8 hat8 hW8 H7
  unfold OutcomeV CountsV
  go_wp2_with fail
  refine (show Calls Tryz.prog _ _ (shW w8 (endP sA) sA.steps sA.gives.k sA.gives.n (.slice p8 sA.out.length c8) sC.cH sC.cU sC.cD) _ from ?_)
  generalize shW w8 (endP sA) sA.steps sA.gives.k sA.gives.n (.slice p8 sA.out.length c8) sC.cH sC.cU sC.cD = W8 at *
  refine (HC.out W8 H8.out.1).mono ?_
  rintro e w9 ⟨v9, wx9, rfl, hBx, hB9x, hC9⟩
  obtain ⟨b9, rfl, hK9⟩ := CdK.of hC9
  have hW9 := bl hBx hB9x
  have H9 := hid (And.intro (bl H8.out.1 hW9) (And.intro (H8.out.2.1.below hW9) (And.intro ((H8.out.2.2.1.below hW9).mono hW9.size) (And.intro (H8.out.2.2.2.1.below hW9) (And.intro (H8.out.2.2.2.2.1.below hW9) (And.intro (H8.out.2.2.2.2.2.below hW9) hK9))))))
  clear hBx hB9x hC9 hK9 hW9 H8 HC
  go_wp2_with fail
  refine (S1.out w9 b9 H9.out.2.2.2.2.2.2 _ H9.out.2.2.1).mono ?_
  rintro e w10 ⟨p10, c10, rfl, hB10, hA10⟩
  have hat10 := shW_at hA10 (endP sA) sA.steps sA.gives.k sA.gives.n sC.cH sC.cU sC.cD
  have hW10 := bl hB10 (shW_below w10 (endP sA) sA.steps sA.gives.k sA.gives.n (.slice p10 sA.out.length c10) sC.cH sC.cU sC.cD)
  have H10 := hid (And.intro (bl H9.out.1 hW10) (And.intro (H9.out.2.1.below hW10) (And.intro (H9.out.2.2.2.1.below hW10) (And.intro (H9.out.2.2.2.2.1.below hW10) (And.intro (H9.out.2.2.2.2.2.1.below hW10) hat10)))))
  have hm := H9.out.2.2.2.1.below hB10
  obtain ⟨⟨xA0, xA1, xA2, xA3, xA4⟩, zA0, zA1, zA2⟩ := hm.cells
  have hn := H9.out.2.2.2.2.2.1.below hB10
  obtain ⟨⟨xC0, xC1, xC2, xC3, xC4⟩, zC0, zC1, zC2⟩ := hn.cells
  have l6 : w6.heap.size < w10.heap.size := heap_lt hm.out
  have l6' : w6.heap.size + 1 < w10.heap.size := heap_lt hm.cnt
  have l8 : w8.heap.size < w10.heap.size := heap_lt hn.out
  have l8' : w8.heap.size + 1 < w10.heap.size := heap_lt hn.cnt
  clear hB10 hA10 hat10 hW10 H9 hm hn
  unfold OutcomeV CountsV
  go_wp2_with fail
  refine (show Calls Tryz.prog _ _ (shW w10 (endP sA) sA.steps sA.gives.k sA.gives.n (.slice p10 sA.out.length c10) sC.cH sC.cU sC.cD) _ from ?_)
  generalize shW w10 (endP sA) sA.steps sA.gives.k sA.gives.n (.slice p10 sA.out.length c10) sC.cH sC.cU sC.cD = W10 at *
  clear xA0 xA1 xA2 xA3 xA4 zA0 zA1 zA2 xC0 xC1 xC2 xC3 xC4 zC0 zC1 zC2 l6 l6' l8 l8'
  refine (alikeT W10 (endP sA) (sA.steps : Int) sA.gives _ _ sA.out H10.out.2.2.1.arg H10.out.2.2.2.2.1.arg HG.out.1).mono ?_
  rintro e w11 ⟨rfl, hB11⟩
  have H11 := hid (And.intro (bl H10.out.1 hB11) (And.intro (H10.out.2.1.below hB11) (And.intro (H10.out.2.2.1.below hB11) (And.intro (H10.out.2.2.2.1.below hB11) (H10.out.2.2.2.2.2.below hB11)))))
  clear hB11 H10
  obtain ⟨⟨xA0, xA1, xA2, xA3, xA4⟩, _⟩ := H11.out.2.2.1.cells
  obtain ⟨⟨xC0, xC1, xC2, xC3, xC4⟩, _⟩ := H11.out.2.2.2.2.cells
  go_wp2_with fail
  refine (alikeT w11 (endP sA) (sA.steps : Int) sA.gives _ _ sA.out H11.out.2.2.1.arg H11.out.2.2.2.2.arg HG.out.1).mono ?_
  rintro e w12 ⟨rfl, hB12⟩
  have H12 := hid (And.intro (bl H11.out.1 hB12) (And.intro (H11.out.2.1.below hB12) (H11.out.2.2.2.1.below hB12)))
  clear hB12 H11 xA0 xA1 xA2 xA3 xA4 xC0 xC1 xC2 xC3 xC4
  go_wp2_with fail
  refine (R2.out w12 b4 H12.out.2.1).mono ?_
  rintro e w13 ⟨p13, c13, rfl, hB13, hA13⟩
  have hA : Below w13.heap.size w13 (w13.alloc (.cells #[.int .i64 (endP sB), .int .i64 sB.steps, .int .i64 sB.gives.k, .int .i64 sB.gives.n, .slice p13 sB.out.length c13] 46)) := (Below.refl _ _).alloc (Nat.le_refl _) _
  have hW13 := bl hB13 hA
  have hm := H12.out.2.2.below hB13
  obtain ⟨⟨xA0, xA1, xA2, xA3, xA4⟩, _⟩ := hm.cells
  have l7 : w7.heap.size < w13.heap.size := heap_lt hm.out
  have H13 := hid (And.intro (bl H12.out.1 hW13) (And.intro (H12.out.2.2.below hW13) (hA13.below hA)))
  clear hB13 hA13 hA hW13 H12 hm
  unfold OutcomeV
  go_wp2_with fail
  generalize w13.alloc (.cells #[.int .i64 (endP sB), .int .i64 sB.steps, .int .i64 sB.gives.k, .int .i64 sB.gives.n, .slice p13 sB.out.length c13] 46) = W13 at *
  clear xA0 xA1 xA2 xA3 xA4 l7
  refine (alikeT W13 (endP sB) (sB.steps : Int) sB.gives _ _ sB.out H13.out.2.1.arg H13.out.2.2 HG.out.2.1).mono ?_
  rintro e w14 ⟨rfl, hB14⟩
  obtain ⟨⟨xA0, xA1, _, _, _⟩, zA0, _⟩ := (H13.out.2.1.below hB14).cells
  have HQ := hid (bl (bl H2.out.1 H13.out.1) hB14)
  have hhi := HG.out.2.2
  have d1 : decide (sD.cH ≤ sB.steps) = true := by simpa using hhi
  have d2 : decide ((sD.cH : Int) ≤ (sB.steps : Int)) = true := by simp; omega
  clear hB14 H13 hhi
  go_wp2
  go_ret
  exact ⟨by first | rfl | simp_all, HQ.out⟩
end Go.Proofs.YtkafkipjedpohaaGreatDoor
