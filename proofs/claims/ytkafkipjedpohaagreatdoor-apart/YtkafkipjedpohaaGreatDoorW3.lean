import Derived.Test.YtkafkipjedpohaaGreatDoorPureO

/-
  upshift's Stop.
-/
namespace Go.Proofs.YtkafkipjedpohaaGreatDoor
open Go.RowKit

theorem eventsP_ok {m : Nat} {E : List Ev} (hok : eventsP m E = 0) : EvsOk m E := by
  unfold eventsP at hok
  by_cases h200 : 200 < E.length
  · rw [if_pos h200] at hok; omega
  · rw [if_neg h200] at hok
    by_cases he : evsP m 0 E = true
    · obtain ⟨k1, k2⟩ := evsP_ok (Int.le_refl 0) he
      exact ⟨k1, k2, by omega⟩
    · rw [if_neg he] at hok; omega

set_option maxRecDepth 100000 in
set_option maxHeartbeats 1000000 in
theorem codeStop (w : World) (cb pb po pc m : Nat) (F : Nat → PF) (K : Nat → Nat → Bool) (H : Nat → Nat → Int) (CA : Nat → Option Addr) (CC : Nat → Nat) (fuel : Int) (ev : Value) (E : List Ev) (hc : w.cell? ⟨cb, 0, none⟩ = some (.slice (some ⟨pb, po, none⟩) m pc)) (hP : ProgAt w pb po m F CA CC) (hcc : ∀ k, k < m → (F k).cn ≤ CC k) (hF : Fine m F K H) (hEv : EvV w w.heap.size ev E) (hok : eventsP m E = 0) :
    Calls Tryz.prog 28 #[.pointer (some ⟨cb, 0, none⟩), ev, .int .i64 fuel] w fun e w' => ∃ v, e = .returned (.tuple #[v, .int .i64 0]) ∧ StOut w w' (atP F fuel).fr (atP F fuel).arr (.returned v) := by
  have hm := hF.size
  have hEok := eventsP_ok hok
  have h6 := evs_six hF hEok.rise hEok.ok (fuelP fuel)
  obtain ⟨hsz, har, _⟩ := road_szs hF (fuelP fuel)
  have hfl := fuel_le fuel
  have h1 : (atP F fuel).fr.length ≤ 1000 := by have := hsz.fr; show (nthP F (startP F) (fuelP fuel)).fr.length ≤ 1000; omega
  have h2 : (atP F fuel).arr.length ≤ 200000 := by show (nthP F (startP F) (fuelP fuel)).arr.length ≤ 200000; omega
  have h3 : ∀ i, i < (atP F fuel).fr.length → (frAt (atP F fuel).fr i).loc.length ≤ 200000 ∧ (frAt (atP F fuel).fr i).stk.length ≤ 200000 := fun i hi => by have := hsz.ls _ (frAt_mem hi); show (frAt (nthP F (startP F) (fuelP fuel)).fr i).loc.length ≤ 200000 ∧ (frAt (nthP F (startP F) (fuelP fuel)).fr i).stk.length ≤ 200000; omega
  have h4 : ∀ j, j < (atP F fuel).arr.length → ((atP F fuel).arr.getD j []).length ≤ 200000 := fun j hj => by have := hsz.al _ (getD_mem hj); show ((nthP F (startP F) (fuelP fuel)).arr.getD j []).length ≤ 200000; omega
  have e1 : (atE F E fuel).fr = (atP F fuel).fr := h6.fr
  have e2 : (atE F E fuel).arr = (atP F fuel).arr := h6.arr
  rw [← e1] at h1 h3
  rw [← e2] at h2 h4
  rw [← e1, ← e2]
  have hcz := World.block_lt_of_cell? w _ hc
  have hW : Below w.heap.size w (w.alloc (.cells #[.slice none 0 0, .slice none 0 0] 53)) := (Below.refl _ _).alloc (Nat.le_refl _) _
  have hz : (w.alloc (.cells #[.slice none 0 0, .slice none 0 0] 53)).heap.size = w.heap.size + 1 := by simp
  have r0 : (w.alloc (.cells #[.slice none 0 0, .slice none 0 0] 53)).heap[w.heap.size]? = some (.cells #[.slice none 0 0, .slice none 0 0] 53 (0, 0)) := Go.Deep.blk_alloc_new _ _
  have c0 := (hW.cell (p := ⟨cb, 0, none⟩) hcz).trans hc
  generalize hWe : w.alloc (.cells #[.slice none 0 0, .slice none 0 0] 53) = W at *
  have hEW : EvV W W.heap.size ev E := (hEv.below hW).mono (by omega)
  have hcon := eventsM W ev E hEW (m : Int) (by omega)
  rw [hok] at hcon
  have hPW := hP.below hW (Nat.le_refl _)
  have HSh := hid (fun (X : World) (hX : Below W.heap.size W X) => (shiftM X m _ F K H fuel ev E hEok ((hEW.below hX).mono hX.size) (CapsAt.of_prog (pc := pc) (hPW.below hX (Nat.le_refl _)) hcc) (Pg.of_prog (pc := pc) (hPW.below hX (Nat.le_refl _))) hF))
  obtain ⟨ep, ecc, rfl, _⟩ := hEv
  have HC := hid hcon
  have HX := hid (And.intro hW (And.intro r0 hz))
  have HC0 := hid (fun (X : World) (hX : Below W.heap.size W X) => (hX.cell (p := ⟨cb, 0, none⟩) (Nat.lt_of_lt_of_le (show cb < w.heap.size from hcz) hW.size)).trans c0)
  have HZ := hid (And.intro h1 (And.intro h2 (And.intro h3 h4)))
  clear hcon hW r0 hz hc hok hPW hEW hP hcc hF hEok hm h1 h2 h3 h4 h6 hsz har hfl e1 e2
  generalize endP (atE F E fuel) = en at *
  generalize atE F E fuel = sN at *
  generalize E.length = el at *
  subst hWe
  go_enter Tryz.func28, Tryz.ntmps28
  go_wp2_with fail
  refine HC.out.mono ?_
  rintro e w2 ⟨rfl, hB2⟩
  clear c0
  have c2 := HC0.out w2 hB2
  obtain ⟨hW, r0, hz⟩ := HX.out
  have hz2 := hB2.size
  have q0 := (hB2.block w.heap.size (by omega)).trans r0
  have HB := hid (And.intro (hW.trans (hB2.mono (by omega))) (And.intro q0 (show w.heap.size + 1 ≤ w2.heap.size by omega)))
  have HSh2 := hid (HSh.out w2 hB2)
  clear hB2 hW r0 hz hz2 q0 HX HC HC0 HSh
  go_wp2_with fail
  refine HSh2.out.mono ?_
  rintro e w3 ⟨mb, rfl, hB3, A3, MV3, m3⟩
  have HO := hid (stateM w3 _ mb A3 sN en m3.lay HZ.out.1 HZ.out.2.1 HZ.out.2.2.1 HZ.out.2.2.2)
  have HM := hid hB3
  clear m3 hB3 HSh2 c2 HZ
  go_wp2_with fail
  refine HO.out.mono ?_
  intro e w4 hst
  obtain ⟨hB2, q0, hz⟩ := HB.out
  have hB23 : Below w.heap.size w w3 := hB2.trans (HM.out.mono (by omega))
  have q3 := (HM.out.block w.heap.size (by omega)).trans q0
  obtain ⟨p1, c1, p2, c2, rfl, r3, hfin⟩ := StOut.stored hB23 q3 hst
  have y0 : w4.cell? ⟨w.heap.size, 0, none⟩ = some (.slice none 0 0) := (cell_heap r3).trans rfl
  have y1 : w4.cell? ⟨w.heap.size, 1, none⟩ = some (.slice none 0 0) := (cell_heap r3).trans rfl
  have z0 := frozen_heap (o := 0) r3
  have z1 := frozen_heap (o := 1) r3
  have g0 := heap_set (o := 1) (heap_set (o := 0) r3 (.slice p1 sN.fr.length c1)) (.slice p2 sN.arr.length c2)
  have HQ := hid (And.intro g0 hfin)
  clear hst q0 q3 r3 hB2 hz hB23 HB HO g0 hfin HM
  go_wp2
  obtain ⟨g0, hfin⟩ := HQ.out
  generalize (w4.setCell ⟨w.heap.size, 0, none⟩ (.slice p1 sN.fr.length c1)).setCell ⟨w.heap.size, 1, none⟩ (.slice p2 sN.arr.length c2) = V at *
  have v0 : V.cell? ⟨w.heap.size, 0, none⟩ = some (.slice p1 sN.fr.length c1) := (cell_heap g0).trans rfl
  have v1 : V.cell? ⟨w.heap.size, 1, none⟩ = some (.slice p2 sN.arr.length c2) := (cell_heap g0).trans rfl
  exact bodyPost_ret (v := .tuple #[.agg #[.slice p1 sN.fr.length c1, .slice p2 sN.arr.length c2], .int .i64 0]) (by simp [results, Tryz.results28, go_sem, v0, v1]) rfl ⟨_, rfl, hfin⟩
end Go.Proofs.YtkafkipjedpohaaGreatDoor

/-
  The counts of a run with events, as plain mathematics. No Go here.
-/
namespace Go.Proofs.YtkafkipjedpohaaGreatDoor

variable {m : Nat} {F : Nat → PF} {K : Nat → Nat → Bool} {H : Nat → Nat → Int}

theorem evs_bd (hF : Fine m F K H) {E : List Ev} (hr : Rising 0 E) (hok : ∀ e, e ∈ E → EvOk m e) : ∀ n, Bd (evS F (startP F) E n).1
  | 0 => (met_cm (F := F) E (startP F) (start_inv hF).1.highs).bd start_bd
  | n + 1 => by
    have ih := evs_bd hF hr hok n
    have hAt := run_at hF hr hok n
    unfold evS
    generalize evS F (startP F) E n = x at *
    split
    · rename_i hz
      obtain ⟨hI, _⟩ := hAt.go hz
      obtain ⟨f, rest, hfr, _⟩ := hI.top
      split
      · rename_i hz2
        exact (met_cm (F := F) x.2 (stepP F x.1) (step_inv hF hI hz2).highs).bd (Bd.step ih hz hfr)
      · exact Bd.step ih hz hfr
    · exact ih

/-- How many events are of kind k. -/
def cntK (k : Int) (E : List Ev) : Nat := (E.filter fun e => decide (e.k = k)).length
theorem cntK_cons (k : Int) (e : Ev) (r : List Ev) : cntK k (e :: r) = (if e.k = k then 1 else 0) + cntK k r := by
  unfold cntK
  rw [List.filter_cons]
  by_cases h : e.k = k
  · simp [h]; omega
  · simp [h]

theorem come_cU (k n : Int) (s : Mc) : (comesP F k n s).cU ≤ s.cU + if k = 3 then 1 else 0 := by
  unfold comesP
  split
  · exact Nat.le_add_right _ _
  · split
    · split
      · exact Nat.le_succ _
      · split
        · exact Nat.le_refl _
        · exact Nat.le_succ _
    · exact Nat.le_add_right _ _
theorem met_cU : ∀ (E : List Ev) (s : Mc), (metP F E s).1.cU + cntK 3 (metP F E s).2 ≤ s.cU + cntK 3 E
  | [], s => Nat.le_refl _
  | e :: r, s => by
    unfold metP
    split
    · have h1 := met_cU r (comesP F e.k e.n s)
      have h2 := come_cU (F := F) e.k e.n s
      rw [cntK_cons]
      omega
    · exact Nat.le_refl _
theorem evs_cU (hF : Fine m F K H) {E : List Ev} (hr : Rising 0 E) (hok : ∀ e, e ∈ E → EvOk m e) : ∀ n, (evS F (startP F) E n).1.cU + cntK 3 (evS F (startP F) E n).2 ≤ cntK 3 E
  | 0 => by
    have := met_cU (F := F) E (startP F)
    have h0 : (startP F).cU = 0 := rfl
    show (metP F E (startP F)).1.cU + cntK 3 (metP F E (startP F)).2 ≤ _
    omega
  | n + 1 => by
    have ih := evs_cU hF hr hok n
    have hAt := run_at hF hr hok n
    unfold evS
    generalize evS F (startP F) E n = x at *
    split
    · rename_i hz
      obtain ⟨hI, _⟩ := hAt.go hz
      obtain ⟨f, rest, hfr, _⟩ := hI.top
      have hu := (step_cUD (F := F) hfr).1
      split
      · have := met_cU (F := F) x.2 (stepP F x.1)
        omega
      · show (stepP F x.1).cU + cntK 3 x.2 ≤ _
        omega
    · exact ih

/-- Nothing is made, nothing high. -/
structure AllLow (s : Mc) : Prop where
  made : ∀ k, s.made k = false
  high : ∀ b, b ∈ s.high → b = false
  cH : s.cH = 0
  cU : s.cU = 0
  cD : s.cD = 0
theorem AllLow.top {s : Mc} (h : AllLow s) : s.high.headD false = false := by
  cases hc : s.high with
  | nil => rfl
  | cons b r => exact h.high b (by rw [hc]; exact List.mem_cons_self)
theorem downs_low (all : Bool) (n : Int) : ∀ (fr : List Fr) (hs : List Bool), (∀ b, b ∈ hs → b = false) → downs all n fr hs = (hs, 0)
  | [], hs, _ => by cases hs <;> rfl
  | _ :: _, [], _ => rfl
  | f :: fr, h :: hs, hl => by
    have h0 : h = false := hl h List.mem_cons_self
    have ih := downs_low all n fr hs (fun b hb => hl b (List.mem_cons_of_mem _ hb))
    unfold downs
    rw [ih, h0]
    simp
theorem AllLow.come {s : Mc} (h : AllLow s) {k : Int} (n : Int) (hk : k ≠ 1) : AllLow (comesP F k n s) := by
  unfold comesP
  rw [if_neg hk]
  split
  · split
    · exact h
    · rw [if_neg (fun hh => by rw [h.made] at hh; exact absurd hh.2.1 (by simp))]
      exact h
  · rw [downs_low _ _ _ _ h.high]
    refine ⟨fun j => ?_, h.high, h.cH, h.cU, h.cD⟩
    show (if k = 2 then upd s.made n.toNat false else s.made) j = false
    split
    · unfold upd; split
      · rfl
      · exact h.made j
    · exact h.made j
theorem AllLow.met : ∀ (E : List Ev) {s : Mc}, AllLow s → (∀ e, e ∈ E → e.k ≠ 1) → AllLow (metP F E s).1 ∧ ∀ e, e ∈ (metP F E s).2 → e ∈ E
  | [], s, h, _ => ⟨h, fun e he => he⟩
  | e :: r, s, h, hk => by
    unfold metP
    split
    · obtain ⟨h1, h2⟩ := AllLow.met r (h.come (F := F) e.n (hk e List.mem_cons_self)) (fun x hx => hk x (List.mem_cons_of_mem _ hx))
      exact ⟨h1, fun x hx => List.mem_cons_of_mem _ (h2 x hx)⟩
    · exact ⟨h, fun x hx => hx⟩
theorem AllLow.call {s : Mc} (h : AllLow s) (A : Nat) (f : Fr) (rest : List Fr) : AllLow (callP F A f rest s) := by
  unfold callP
  split
  · exact h
  · split
    · exact ⟨h.made, h.high, h.cH, h.cU, h.cD⟩
    · split
      · exact ⟨h.made, h.high, h.cH, h.cU, h.cD⟩
      · refine ⟨h.made, fun b hb => ?_, h.cH, h.cU, h.cD⟩
        rcases List.mem_cons.1 hb with rfl | hb
        · exact h.made _
        · exact h.high b hb
theorem AllLow.ret {s : Mc} (h : AllLow s) (f : Fr) (rest : List Fr) : AllLow (returnP f rest s) := by
  unfold returnP
  split
  · exact h
  · split
    · exact ⟨h.made, fun b hb => h.high b (List.mem_of_mem_drop hb), h.cH, h.cU, h.cD⟩
    · exact ⟨h.made, fun b hb => h.high b (List.mem_of_mem_drop hb), h.cH, h.cU, h.cD⟩
theorem AllLow.step {s : Mc} (h : AllLow s) : AllLow (stepP F s) := by
  cases hc : s.fr with
  | nil =>
    have e1 : stepP F s = s := by unfold stepP; rw [hc]
    rw [e1]
    exact h
  | cons f rest =>
    rw [stepP_at hc]
    unfold stepQ
    dsimp only
    have hcH : s.cH + (if s.high.headD false = true then 1 else 0) = 0 := by rw [h.top, h.cH]; rfl
    rw [hcH]
    have h' : AllLow { s with steps := s.steps + 1, cH := 0 } := ⟨h.made, h.high, rfl, h.cU, h.cD⟩
    split
    · exact ⟨h.made, h.high, rfl, h.cU, h.cD⟩
    · split
      · split
        · exact ⟨h.made, h.high, rfl, h.cU, h.cD⟩
        · exact ⟨h.made, h.high, rfl, h.cU, h.cD⟩
      · split
        · exact h'.call _ _ _
        · split
          · exact h'.ret _ _
          · exact ⟨h.made, h.high, rfl, h.cU, h.cD⟩
theorem evs_low {E : List Ev} (hk : ∀ e, e ∈ E → e.k ≠ 1) : ∀ n, AllLow (evS F (startP F) E n).1 ∧ ∀ e, e ∈ (evS F (startP F) E n).2 → e ∈ E
  | 0 => AllLow.met E (F := F) ⟨fun _ => rfl, fun b hb => by simpa [startP] using hb, rfl, rfl, rfl⟩ hk
  | n + 1 => by
    obtain ⟨h1, h2⟩ := evs_low hk n
    unfold evS
    generalize evS F (startP F) E n = x at *
    split
    · split
      · obtain ⟨h3, h4⟩ := AllLow.met (F := F) x.2 (h1.step (F := F)) (fun e he => hk e (h2 e he))
        exact ⟨h3, fun e he => h2 e (h4 e he)⟩
      · exact ⟨h1.step, h2⟩
    · exact ⟨h1, h2⟩
theorem cntK_none {k : Int} {E : List Ev} (h : cntK k E = 0) : ∀ e, e ∈ E → e.k ≠ k := fun e he hk => by
  unfold cntK at h
  have := List.length_eq_zero_iff.1 h
  have hm : e ∈ E.filter fun e => decide (e.k = k) := List.mem_filter.2 ⟨he, by simpa using hk⟩
  rw [this] at hm
  cases hm
end Go.Proofs.YtkafkipjedpohaaGreatDoor
