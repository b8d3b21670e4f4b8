import Derived.Test.YtkafkipjedpohaaGreatDoorV6
import Derived.Defers
import Derived.Recover
import Derived.Laws.Pointers
import Derived.WideLaws

/-
  The project's machine: meet.
-/
namespace Go.Proofs.YtkafkipjedpohaaGreatDoor
open Go.RowKit

/-- What no event turns: the program, the list of what is made. -/
structure SameP (A A' : AdM) : Prop where
  pv : A'.g.pv = A.g.pv
  mv : A'.g.mv = A.g.mv
theorem SameP.refl (A : AdM) : SameP A A := ⟨rfl, rfl⟩
theorem SameP.trans {A B C : AdM} (h : SameP A B) (k : SameP B C) : SameP A C := ⟨k.pv.trans h.pv, k.mv.trans h.mv⟩
theorem SameG.p {A A' : AdM} (h : SameG A A') : SameP A A' := ⟨h.pv, h.mv⟩

theorem LayM.evset {w : World} {B mb : Nat} {A : AdM} {s : Mc} {en : Int} (h : LayM w B mb A s en) (v : Value) :
    LayM (w.setCell ⟨mb, 1, none⟩ v) B mb { A with g := { A.g with ev := v } } s en ∧ Ch B (fun d => d = 0) A.tag A.tag w (w.setCell ⟨mb, 1, none⟩ v) := by
  have hc : Ch B (fun d => d = 0) A.tag A.tag w (w.setCell ⟨mb, 1, none⟩ v) := Ch.set w _ _ _ h.own.1 h.own.2
  refine ⟨⟨?_, h.own, h.fr.keep hc (by omega), fun i hi => ?_, h.ar.keep hc (by omega), h.out.keep hc (by omega), fun i hi => (h.loc i hi).keep hc (by omega), fun i hi => (h.stk i hi).keep hc (by omega), fun j hj => (h.arr j hj).keep hc (by omega)⟩, hc⟩
  · rw [heap_set h.run]
    rfl
  · obtain ⟨g1, g2, g3⟩ := h.fb i hi
    obtain ⟨g4, g5⟩ := blk_keep g1 hc (by rw [g3]; omega)
    exact ⟨g4, g2, g5.trans g3⟩
/-- The first event has come. -/
theorem RSt.next {w : World} {B mb m : Nat} {F : Nat → PF} {MV : Nat → Value} {A : AdM} {s : Mc} {en : Int} {L : Bxs} {E : List Ev} (h : RSt w B mb m F MV A s en L E) (v : Value) {E' : List Ev} (hv : EvV w B v E') :
    ∃ A' : AdM, RSt (w.setCell ⟨mb, 1, none⟩ v) B mb m F MV A' s en L E' ∧ SameP A A' ∧ Ch B No5 A.tag A'.tag w (w.setCell ⟨mb, 1, none⟩ v) ∧ ∀ i, A'.FB i = A.FB i := by
  obtain ⟨l1, c1⟩ := h.st.lay.evset v
  have hN : Ch B N5 A.tag A.tag w (w.setCell ⟨mb, 1, none⟩ v) := c1.mono (fun d hd => by unfold N5; omega)
  have hbl := hN.below h.st.le
  refine ⟨_, ⟨⟨l1, h.st.hl, h.st.cod, h.st.cnt, h.st.made.keep hN n56, h.st.mds, h.st.pg.below hbl, by have := hN.size; have := h.st.le; omega⟩, h.bx.keep hN n55, h.md, h.fc, hv.below hbl, h.cp.below hbl⟩, ⟨rfl, rfl⟩, hN.mono (fun _ => no5_of), fun _ => rfl⟩

/-- The counts have room for the events that have not come. -/
def Room (s : Mc) (E : List Ev) : Prop := s.cD + 100 * E.length ≤ 900000 ∧ s.cU + E.length ≤ 900000
theorem Room.come {F : Nat → PF} {s : Mc} {e : Ev} {r : List Ev} (h : Room s (e :: r)) (hl : s.high.length = s.fr.length) (h24 : s.fr.length ≤ 24) : Room (comesP F e.k e.n s) r := by
  obtain ⟨h1, h2⟩ := h
  simp only [List.length_cons] at h1 h2
  have hc : ∀ (all : Bool) (n : Int), (downs all n s.fr s.high).2 ≤ 24 := fun all n => by
    rw [downs_is all n s.fr s.high hl]
    exact Nat.le_trans (lowCnt_le _ _ _ _ _) h24
  have hc2 := hc (decide (e.k = 4)) e.n
  unfold comesP
  split
  · exact ⟨by show s.cD + _ ≤ _; omega, by show s.cU + _ ≤ _; omega⟩
  · split
    · split
      · exact ⟨by omega, by omega⟩
      · split
        · exact ⟨by show s.cD + _ ≤ _; omega, by show s.cU + 1 + _ ≤ _; omega⟩
        · exact ⟨by omega, by omega⟩
    · exact ⟨by show s.cD + _ + _ ≤ _; omega, by show s.cU + _ ≤ _; omega⟩

/-- How a run stands while events come. -/
def MeetAt (w : World) (B mb m : Nat) (F : Nat → PF) (K : Nat → Nat → Bool) (H : Nat → Nat → Int) (A : AdM) (L : Bxs) (en : Int) (x : Mc × List Ev) (n : Nat) (wr : World) (gk : Nat) : Prop :=
  ∃ (A' : AdM) (MV' : Nat → Value) (L' : Bxs) (s' : Mc) (E' : List Ev), RSt wr B mb m F MV' A' s' en L' E' ∧ E'.length = gk ∧ SameP A A' ∧ Ch B No5 A.tag A'.tag w wr ∧ (∀ t, t ∈ L → t ∈ L') ∧ (∀ i, A'.FB i = A.FB i) ∧ metP F E' s' = x ∧ Inv m F K H s' ∧ Rising n E' ∧ (∀ e, e ∈ E' → EvOk m e) ∧ Room s' E' ∧ s'.steps = n

/-- What meet leaves. -/
def MetE (w : World) (B mb m : Nat) (F : Nat → PF) (A : AdM) (L : Bxs) (en : Int) (x : Mc × List Ev) (w' : World) : Prop :=
  ∃ (A' : AdM) (MV' : Nat → Value) (L' : Bxs), RSt w' B mb m F MV' A' x.1 en L' x.2 ∧ SameP A A' ∧ Ch B No5 A.tag A'.tag w w' ∧ (∀ t, t ∈ L → t ∈ L') ∧ (∀ i, A'.FB i = A.FB i) ∧ Room x.1 x.2

set_option maxRecDepth 100000 in
set_option maxHeartbeats 2000000 in
theorem meetM {w : World} {B mb m : Nat} {F : Nat → PF} {K : Nat → Nat → Bool} {H : Nat → Nat → Int} {MV : Nat → Value} {A : AdM} {s : Mc} {en : Int} {L : Bxs} {E : List Ev} (h : RSt w B mb m F MV A s en L E) (hF : Fine m F K H) (hI : Inv m F K H s) (hr : Rising s.steps E) (hok : ∀ e, e ∈ E → EvOk m e) (hro : Room s E) :
    Calls Tryz.prog 90 #[ptr mb] w fun e w' => e = .returned (.tuple #[]) ∧ MetE w B mb m F A L en (metP F E s) w' := by
  have HST := hid (show MeetAt w B mb m F K H A L en (metP F E s) s.steps w E.length from ⟨A, MV, L, s, E, h, rfl, SameP.refl _, Ch.refl _ _ _ _, fun t ht => ht, fun _ => rfl, rfl, hI, hr, hok, hro, rfl⟩)
  have HF := hid hF
  generalize metP F E s = x at *
  generalize hsn : s.steps = sn at *
  generalize E.length = g0 at *
  clear h hI hr hok hro hsn hF
  go_enter Tryz.func90, Tryz.ntmps90
  go_wp2
  go_loopg [] g0 (fun gk wr => MeetAt w B mb m F K H A L en x sn wr gk)
  case atStart => exact HST.out
  case round =>
    obtain ⟨A1, MV1, L1, s1, E1, h1, hg1, hp1, hc1, hl1, hf1, hx1, hI1, hr1, hok1, hro1, hs1⟩ := hrel
    clear HST
    have hmz : mb < wr.heap.size := heap_lt h1.st.lay.run
    have x7 : wr.cell? ⟨mb, 7, none⟩ = some (.int .i64 sn) := by rw [cell_heap h1.st.lay.run, ← hs1]; rfl
    have x1 : wr.cell? ⟨mb, 1, none⟩ = some A1.g.ev := (cell_heap h1.st.lay.run).trans rfl
    have z1 : wr.frozen? ⟨mb, 1, none⟩ = false := frozen_heap h1.st.lay.run
    obtain ⟨p, c, hev, hec, hee⟩ := h1.ev
    rw [hev] at x1
    cases E1 with
    | nil =>
      have HQ := hid (show ∀ X, Below wr.heap.size wr X → MetE w B mb m F A L en x X from fun X hX => by
        have : metP F [] s1 = (s1, []) := rfl
        rw [← hx1, this]
        exact ⟨A1, MV1, L1, h1.below hX, hp1, hc1.trans' hX, hl1, hf1, hro1⟩)
      have HC := hid (fun (w' : World) (hb : Below wr.heap.size wr w') => (show w'.cell? ⟨mb, 1, none⟩ = some (.slice p 0 c) from (hb.cell (p := ⟨mb, 1, none⟩) hmz).trans x1))
      clear h1 hp1 hc1 hl1 hf1 hx1 hI1 hr1 hok1 hro1 hs1 hee hev hec hg1
      go_wp2_with fail
      refine region_lex (Below wr.heap.size wr) [(false, 0), (false, 1), (false, 2), (false, 3), (false, 4), (false, 5), (false, 6), (false, 7), (false, 8), (false, 9), (false, 10), (false, 11), (false, 12), (false, 13), (false, 14), (false, 15), (false, 16), (false, 17), (false, 18), (false, 19)] (by kernel_rfl) (by kernel_rfl) (fun c0 a0 d0 v0 x0 h0 => panic_body (P := Tryz.prog) Tryz.f90 (fun e w' => e = .returned (.tuple #[]) ∧ MetE w B mb m F A L en x w') c0 a0 d0 v0 x0 h0) (Below.refl _ _).drew ?_
      simp only [lexL, List.getElem?_cons_zero, List.getElem?_cons_succ]
      iterate 7 (refine lexW_free (by rfl) (by intro w' hS'; have q1 := HC.out w' hS'; clear hS'; go_simp; exact rfl) ?_; simp only [Act.put, List.setIfInBounds_toArray, List.set_cons_zero, List.set_cons_succ])
      iterate 12 (refine lexW_skip (by rfl) ?_; simp only [Act.put, List.setIfInBounds_toArray, List.set_cons_zero, List.set_cons_succ])
      refine lexW_free (by rfl) (by intro w' hS'; clear hS'; go_simp; exact rfl) ?_
      simp only [Act.put, List.setIfInBounds_toArray, List.set_cons_zero, List.set_cons_succ]
      refine lexW_done ?_
      have HR := hid (HQ.out wr.drew (Below.refl _ _).drew)
      clear HQ HC
      go_wp2
      go_end0
      exact ⟨rfl, HR.out⟩
    | cons ev r =>
      obtain ⟨eb, eo, rfl, hebB, hcells⟩ := hee (by simp)
      obtain ⟨k0, k1, k2⟩ := hcells 0 (by simp)
      simp only [Nat.zero_mul, Nat.add_zero, List.getD_cons_zero] at k0 k1 k2
      have hebz : eb < wr.heap.size := by have := h1.st.le; omega
      have hok0 := hok1 ev List.mem_cons_self
      have HC := hid (fun (w' : World) (hb : Below wr.heap.size wr w') => (show w'.cell? ⟨mb, 1, none⟩ = some (.slice (some ⟨eb, eo, none⟩) (r.length + 1) c) ∧ w'.cell? ⟨mb, 7, none⟩ = some (.int .i64 sn) ∧ w'.cell? ⟨eb, eo, none⟩ = some (.int .i64 ev.st) ∧ w'.cell? ⟨eb, eo + 1, none⟩ = some (.int .i64 ev.k) ∧ w'.cell? ⟨eb, eo + 2, none⟩ = some (.int .i64 ev.n) from ⟨(hb.cell (p := ⟨mb, 1, none⟩) hmz).trans x1, (hb.cell (p := ⟨mb, 7, none⟩) hmz).trans x7, (hb.cell (p := ⟨eb, eo, none⟩) hebz).trans k0, (hb.cell (p := ⟨eb, eo + 1, none⟩) hebz).trans k1, (hb.cell (p := ⟨eb, eo + 2, none⟩) hebz).trans k2⟩))
      have i1 : (0 : Int) < (r.length : Int) + 1 := by omega
      by_cases hst0 : ev.st = sn
      · have e1 : (ev.st == (sn : Int)) = true := by simpa using hst0
        obtain ⟨f, rest, hsf, _, _, h24⟩ := hI1.top
        have hl24 : s1.fr.length ≤ 24 := by rw [hsf]; simpa using h24
        have hcm := comes_cm (F := F) ev.k ev.n s1 hI1.highs
        have hmet : metP F r (comesP F ev.k ev.n s1) = x := by
          rw [← hx1]
          conv => rhs; unfold metP
          rw [if_pos (by rw [hs1]; omega)]
        have hro2 := hro1.come (F := F) hI1.highs hl24
        have hD : s1.cD ≤ 900000 ∧ s1.cU ≤ 900000 := ⟨by have := hro1.1; omega, by have := hro1.2; omega⟩
        have HT := hid (fun (w' : World) (hb : Below wr.heap.size wr w') => comeM (h1.below hb) HF.out hI1 hD.1 hD.2 ev hok0)
        have HX := hid (And.intro hp1 (And.intro hc1 (And.intro hl1 (And.intro hf1 (And.intro hmet (And.intro (hcm.inv hI1) (And.intro (hr1.2.mono (show (sn : Int) ≤ ev.st by omega)) (And.intro (fun e he => hok1 e (List.mem_cons_of_mem _ he)) (And.intro hro2 (hcm.steps.trans hs1))))))))))
        have HEv := hid (show ∀ c', (c' = c) → 2 ≤ r.length + 1 → ∀ w', Below B wr w' → EvV w' B (.slice (some ⟨eb, eo + 3, none⟩) r.length (c' - 1)) r from fun c' hc' h2 w' hb => by
          subst hc'
          have hec' : r.length + 1 ≤ c' := hec
          refine ⟨some ⟨eb, eo + 3, none⟩, c' - 1, rfl, by omega, fun _ => ⟨eb, eo + 3, rfl, hebB, fun i hi => ?_⟩⟩
          obtain ⟨a0, a1, a2⟩ := hcells (i + 1) (by simp; omega)
          simp only [List.getD_cons_succ] at a0 a1 a2
          refine ⟨?_, ?_, ?_⟩
          · rw [show eo + 3 + i * 3 = eo + (i + 1) * 3 by omega]; exact (hb.cell (p := ⟨eb, eo + (i + 1) * 3, none⟩) hebB).trans a0
          · rw [show eo + 3 + i * 3 + 1 = eo + (i + 1) * 3 + 1 by omega]; exact (hb.cell (p := ⟨eb, eo + (i + 1) * 3 + 1, none⟩) hebB).trans a1
          · rw [show eo + 3 + i * 3 + 2 = eo + (i + 1) * 3 + 2 by omega]; exact (hb.cell (p := ⟨eb, eo + (i + 1) * 3 + 2, none⟩) hebB).trans a2)
        have hgk : gk = r.length + 1 := by rw [← hg1]; rfl
        have hec2 : r.length + 1 ≤ c := hec
        have HLE := hid h1.st.le
        have evEq := h1.ev
        have HEVV := hid hev
        clear h1 hp1 hc1 hl1 hf1 hx1 hI1 hr1 hok1 hro1 hs1 hee hev hec hg1 hcells hcm hmet hro2 hD hok0 k0 k1 k2 x1 x7 z1 hst0 hsf h24 hl24 evEq
        go_wp2_with fail
        refine region_lex (Below wr.heap.size wr) [(false, 0), (false, 1), (false, 2), (false, 3), (false, 4), (false, 5), (false, 6), (false, 7), (false, 8), (false, 9), (false, 10), (false, 11), (false, 12), (false, 13), (false, 14), (false, 15), (false, 16), (false, 17), (false, 18), (false, 19)] (by kernel_rfl) (by kernel_rfl) (fun c0 a0 d0 v0 x0 h0 => panic_body (P := Tryz.prog) Tryz.f90 (fun e w' => e = .returned (.tuple #[]) ∧ MetE w B mb m F A L en x w') c0 a0 d0 v0 x0 h0) (Below.refl _ _).drew ?_
        simp only [lexL, List.getElem?_cons_zero, List.getElem?_cons_succ]
        iterate 20 (refine lexW_free (by rfl) (by intro w' hS'; obtain ⟨q1, q2, q3, _, _⟩ := HC.out w' hS'; clear hS'; go_simp; exact rfl) ?_; simp only [Act.put, List.setIfInBounds_toArray, List.set_cons_zero, List.set_cons_succ])
        refine lexW_done ?_
        have HB1 := hid (show Below wr.heap.size wr wr.drew from (Below.refl _ _).drew)
        generalize wr.drew = w1 at *
        obtain ⟨q1, _, q3, q4, q5⟩ := HC.out w1 HB1.out
        go_wp2_with fail
        refine (HT.out w1 HB1.out).mono ?_
        rintro e w2 ⟨rfl, A2, MV2, L2, r2, s2, c2, l2, f2⟩
        clear q1 q3 q4 q5 HT
        have x1' : w2.cell? ⟨mb, 1, none⟩ = some (.slice (some ⟨eb, eo, none⟩) (r.length + 1) c) := by
          rw [cell_heap r2.st.lay.run]
          show some A2.g.ev = _
          rw [s2.ev, HEVV.out]
          rfl
        have z1' : w2.frozen? ⟨mb, 1, none⟩ = false := frozen_heap r2.st.lay.run
        have hbw2 : Below B wr w2 := (HB1.out.mono HLE.out).trans (c2.below (by have := HB1.out.size; have := HLE.out; omega))
        obtain ⟨hp1, hc1, hl1, hf1, hmet, hI2, hr2, hok2, hro2, hs2⟩ := HX.out
        have HN := hid (show ∀ v, EvV w2 B v r → MeetAt w B mb m F K H A L en x sn (w2.setCell ⟨mb, 1, none⟩ v) (gk - 1) from fun v hv => by
          obtain ⟨A3, r3, p3, c3, f3⟩ := r2.next v hv
          exact ⟨A3, MV2, L2, _, r, r3, by omega, (hp1.trans s2.p).trans p3, (hc1.trans ((Ch.of_below HB1.out).trans c2)).trans c3, fun t ht => l2 t (hl1 t ht), fun i => ((f3 i).trans (f2 i)).trans (hf1 i), hmet, hI2, hr2, hok2, hro2, hs2⟩)
        have HEv2 := hid (fun (h2 : 2 ≤ r.length + 1) => HEv.out c rfl h2 w2 hbw2)
        have j0 : (1 : Int) ≤ (r.length : Int) + 1 := by omega
        have hlt : gk - 1 < gk := by omega
        clear r2 s2 c2 l2 f2 hbw2 hp1 hc1 hl1 hf1 hmet hI2 hr2 hok2 hro2 hs2 HX HEv HC
        by_cases hrn : r = []
        · have HN2 := hid (show ∀ p' c', MeetAt w B mb m F K H A L en x sn (w2.setCell ⟨mb, 1, none⟩ (.slice p' 0 c')) (gk - 1) from fun p' c' => HN.out _ (by rw [hrn]; exact ⟨p', c', rfl, Nat.zero_le _, fun h => absurd rfl h⟩))
          have hr0 : r.length = 0 := by rw [hrn]; rfl
          rw [hr0] at x1'
          clear HN HEv2 hrn
          by_cases hc1 : c = 1
          · subst hc1
            go_wp2
            go_roundg (gk - 1)
            case measure => exact hlt
            case rel => exact HN2.out _ _
          · go_wp2
            go_roundg (gk - 1)
            case measure => exact hlt
            case rel => exact HN2.out _ _
        · have hr1 : 1 ≤ r.length := by
            cases hc : r with
            | nil => exact absurd hc hrn
            | cons a b => simp
          have HR := hid (HN.out _ (HEv2.out (by omega)))
          have hc1 : ¬ c = 1 := by omega
          have hc2 : ¬ c ≤ 1 := by omega
          clear HN HEv2 hrn
          generalize r.length = rl at *
          go_wp2
          go_roundg (gk - 1)
          case measure => exact hlt
          case rel => exact HR.out
      · have e1 : (ev.st == (sn : Int)) = false := by simpa using hst0
        have hge : (sn : Int) ≤ ev.st := hr1.1
        have HQ := hid (show ∀ X, Below wr.heap.size wr X → MetE w B mb m F A L en x X from fun X hX => by
          have : metP F (ev :: r) s1 = (s1, ev :: r) := by
            unfold metP
            rw [if_neg (by rw [hs1]; omega)]
          rw [← hx1, this]
          exact ⟨A1, MV1, L1, h1.below hX, hp1, hc1.trans' hX, hl1, hf1, hro1⟩)
        clear h1 hp1 hc1 hl1 hf1 hx1 hI1 hr1 hok1 hro1 hs1 hee hev hec hg1 hcells hok0 k0 k1 k2 x1 x7 z1 hst0 hge
        go_wp2_with fail
        refine region_lex (Below wr.heap.size wr) [(false, 0), (false, 1), (false, 2), (false, 3), (false, 4), (false, 5), (false, 6), (false, 7), (false, 8), (false, 9), (false, 10), (false, 11), (false, 12), (false, 13), (false, 14), (false, 15), (false, 16), (false, 17), (false, 18), (false, 19)] (by kernel_rfl) (by kernel_rfl) (fun c0 a0 d0 v0 x0 h0 => panic_body (P := Tryz.prog) Tryz.f90 (fun e w' => e = .returned (.tuple #[]) ∧ MetE w B mb m F A L en x w') c0 a0 d0 v0 x0 h0) (Below.refl _ _).drew ?_
        simp only [lexL, List.getElem?_cons_zero, List.getElem?_cons_succ]
        iterate 20 (refine lexW_free (by rfl) (by intro w' hS'; obtain ⟨q1, q2, q3, _, _⟩ := HC.out w' hS'; clear hS'; go_simp; exact rfl) ?_; simp only [Act.put, List.setIfInBounds_toArray, List.set_cons_zero, List.set_cons_succ])
        refine lexW_done ?_
        have HR := hid (HQ.out wr.drew (Below.refl _ _).drew)
        clear HQ HC
        go_wp2
        go_end0
        exact ⟨rfl, HR.out⟩
end Go.Proofs.YtkafkipjedpohaaGreatDoor
