import Derived.Test.YtkafkipjedpohaaGreatDoorV5
import Derived.Defers
import Derived.Recover
import Derived.Laws.Pointers
import Derived.WideLaws
import Derived.Test.YtkafkipjedpohaaGreatDoorPureJ

/-
  The project's machine: meet.
-/
namespace Go.Proofs.YtkafkipjedpohaaGreatDoor
open Go.RowKit

/-- What no event turns: the program, the list of what is made. -/
structure SameP (A A' : AdM) : Prop where
  pv : A'.g.pv = A.g.pv
  mv : A'.g.mv = A.g.mv
theorem SameP.refl (A : AdM) : SameP A A := ⟨rfl, rfl⟩
theorem SameP.trans {A B C : AdM} (h : SameP A B) (k : SameP B C) : SameP A C := ⟨k.pv.trans h.pv, k.mv.trans h.mv⟩
theorem SameG.p {A A' : AdM} (h : SameG A A') : SameP A A' := ⟨h.pv, h.mv⟩

theorem LayM.evset {w : World} {B mb : Nat} {A : AdM} {s : Mc} {en : Int} (h : LayM w B mb A s en) (v : Value) :
    LayM (w.setCell ⟨mb, 1, none⟩ v) B mb { A with g := { A.g with ev := v } } s en ∧ Ch B (fun d => d = 0) A.tag A.tag w (w.setCell ⟨mb, 1, none⟩ v) := by
  have hc : Ch B (fun d => d = 0) A.tag A.tag w (w.setCell ⟨mb, 1, none⟩ v) := Ch.set w _ _ _ h.own.1 h.own.2
  refine ⟨⟨?_, h.own, h.fr.keep hc (by omega), fun i hi => ?_, h.ar.keep hc (by omega), h.out.keep hc (by omega), fun i hi => (h.loc i hi).keep hc (by omega), fun i hi => (h.stk i hi).keep hc (by omega), fun j hj => (h.arr j hj).keep hc (by omega)⟩, hc⟩
  · rw [heap_set h.run]
    rfl
  · obtain ⟨g1, g2, g3⟩ := h.fb i hi
    obtain ⟨g4, g5⟩ := blk_keep g1 hc (by rw [g3]; omega)
    exact ⟨g4, g2, g5.trans g3⟩
/-- The first event has come. -/
theorem RSt.next {w : World} {B mb m : Nat} {F : Nat → PF} {MV : Nat → Value} {A : AdM} {s : Mc} {en : Int} {L : Bxs} {E : List Ev} (h : RSt w B mb m F MV A s en L E) (v : Value) {E' : List Ev} (hv : EvV w B v E') :
    ∃ A' : AdM, RSt (w.setCell ⟨mb, 1, none⟩ v) B mb m F MV A' s en L E' ∧ SameP A A' ∧ Ch B No5 A.tag A'.tag w (w.setCell ⟨mb, 1, none⟩ v) ∧ ∀ i, A'.FB i = A.FB i := by
  obtain ⟨l1, c1⟩ := h.st.lay.evset v
  have hN : Ch B N5 A.tag A.tag w (w.setCell ⟨mb, 1, none⟩ v) := c1.mono (fun d hd => by unfold N5; omega)
  have hbl := hN.below h.st.le
  refine ⟨_, ⟨⟨l1, h.st.hl, h.st.cod, h.st.cnt, h.st.made.keep hN n56, h.st.mds, h.st.pg.below hbl, by have := hN.size; have := h.st.le; omega⟩, h.bx.keep hN n55, h.md, h.fc, hv.below hbl, h.cp.below hbl⟩, ⟨rfl, rfl⟩, hN.mono (fun _ => no5_of), fun _ => rfl⟩

/-- The counts have room for the events that have not come. -/
def Room (s : Mc) (E : List Ev) : Prop := s.cD + 100 * E.length ≤ 900000 ∧ s.cU + E.length ≤ 900000
theorem Room.come {F : Nat → PF} {s : Mc} {e : Ev} {r : List Ev} (h : Room s (e :: r)) (hl : s.high.length = s.fr.length) (h24 : s.fr.length ≤ 24) : Room (comesP F e.k e.n s) r := by
  obtain ⟨h1, h2⟩ := h
  simp only [List.length_cons] at h1 h2
  have hc : ∀ (all : Bool) (n : Int), (downs all n s.fr s.high).2 ≤ 24 := fun all n => by
    rw [downs_is all n s.fr s.high hl]
    exact Nat.le_trans (lowCnt_le _ _ _ _ _) h24
  have hc2 := hc (decide (e.k = 4)) e.n
  unfold comesP
  split
  · exact ⟨by show s.cD + _ ≤ _; omega, by show s.cU + _ ≤ _; omega⟩
  · split
    · split
      · exact ⟨by omega, by omega⟩
      · split
        · exact ⟨by show s.cD + _ ≤ _; omega, by show s.cU + 1 + _ ≤ _; omega⟩
        · exact ⟨by omega, by omega⟩
    · exact ⟨by show s.cD + _ + _ ≤ _; omega, by show s.cU + _ ≤ _; omega⟩

/-- How a run stands while events come. -/
def MeetAt (w : World) (B mb m : Nat) (F : Nat → PF) (K : Nat → Nat → Bool) (H : Nat → Nat → Int) (A : AdM) (L : Bxs) (en : Int) (x : Mc × List Ev) (n : Nat) (wr : World) (gk : Nat) : Prop :=
  ∃ (A' : AdM) (MV' : Nat → Value) (L' : Bxs) (s' : Mc) (E' : List Ev), RSt wr B mb m F MV' A' s' en L' E' ∧ E'.length = gk ∧ SameP A A' ∧ Ch B No5 A.tag A'.tag w wr ∧ (∀ t, t ∈ L → t ∈ L') ∧ (∀ i, A'.FB i = A.FB i) ∧ metP F E' s' = x ∧ Inv m F K H s' ∧ Rising n E' ∧ (∀ e, e ∈ E' → EvOk m e) ∧ Room s' E' ∧ s'.steps = n

/-- What meet leaves. -/
def MetE (w : World) (B mb m : Nat) (F : Nat → PF) (A : AdM) (L : Bxs) (en : Int) (x : Mc × List Ev) (w' : World) : Prop :=
  ∃ (A' : AdM) (MV' : Nat → Value) (L' : Bxs), RSt w' B mb m F MV' A' x.1 en L' x.2 ∧ SameP A A' ∧ Ch B No5 A.tag A'.tag w w' ∧ (∀ t, t ∈ L → t ∈ L') ∧ (∀ i, A'.FB i = A.FB i) ∧ Room x.1 x.2

set_option maxRecDepth 100000 in
set_option maxHeartbeats 2000000 in
theorem meetM {w : World} {B mb m : Nat} {F : Nat → PF} {K : Nat → Nat → Bool} {H : Nat → Nat → Int} {MV : Nat → Value} {A : AdM} {s : Mc} {en : Int} {L : Bxs} {E : List Ev} (h : RSt w B mb m F MV A s en L E) (hF : Fine m F K H) (hI : Inv m F K H s) (hr : Rising s.steps E) (hok : ∀ e, e ∈ E → EvOk m e) (hro : Room s E) :
    Calls Tryz.prog 90 #[ptr mb] w fun e w' => e = .returned (.tuple #[]) ∧ MetE w B mb m F A L en (metP F E s) w' := by
  have HST := hid (show MeetAt w B mb m F K H A L en (metP F E s) s.steps w E.length from ⟨A, MV, L, s, E, h, rfl, SameP.refl _, Ch.refl _ _ _ _, fun t ht => ht, fun _ => rfl, rfl, hI, hr, hok, hro, rfl⟩)
  have HF := hid hF
  generalize metP F E s = x at *
  generalize hsn : s.steps = sn at *
  generalize E.length = g0 at *
  clear h hI hr hok hro hsn hF
  go_enter Tryz.func90, Tryz.ntmps90
  go_wp2
  go_loopg [] g0 (fun gk wr => MeetAt w B mb m F K H A L en x sn wr gk)
  case atStart => exact HST.out
  case round =>
    obtain ⟨A1, MV1, L1, s1, E1, h1, hg1, hp1, hc1, hl1, hf1, hx1, hI1, hr1, hok1, hro1, hs1⟩ := hrel
    clear HST
    have hmz : mb < wr.heap.size := heap_lt h1.st.lay.run
    have x7 : wr.cell? ⟨mb, 7, none⟩ = some (.int .i64 sn) := by rw [cell_heap h1.st.lay.run, ← hs1]; rfl
    have x1 : wr.cell? ⟨mb, 1, none⟩ = some A1.g.ev := (cell_heap h1.st.lay.run).trans rfl
    have z1 : wr.frozen? ⟨mb, 1, none⟩ = false := frozen_heap h1.st.lay.run
    obtain ⟨p, c, hev, hec, hee⟩ := h1.ev
    rw [hev] at x1
    cases E1 with
    | nil =>
      have HQ := hid (show ∀ X, Below wr.heap.size wr X → MetE w B mb m F A L en x X from fun X hX => by
        have : metP F [] s1 = (s1, []) := rfl
        rw [← hx1, this]
        exact ⟨A1, MV1, L1, h1.below hX, hp1, hc1.trans' hX, hl1, hf1, hro1⟩)
      have HC := hid (fun (w' : World) (hb : Below wr.heap.size wr w') => (show w'.cell? ⟨mb, 1, none⟩ = some (.slice p 0 c) from (hb.cell (p := ⟨mb, 1, none⟩) hmz).trans x1))
      clear h1 hp1 hc1 hl1 hf1 hx1 hI1 hr1 hok1 hro1 hs1 hee hev hec hg1
      go_wp2_with fail
      refine region_lex (Below wr.heap.size wr) [(false, 0), (false, 1), (false, 2), (false, 3), (false, 4), (false, 5), (false, 6), (false, 7), (false, 8), (false, 9), (false, 10), (false, 11), (false, 12), (false, 13), (false, 14), (false, 15), (false, 16), (false, 17), (false, 18), (false, 19)] (by kernel_rfl) (by kernel_rfl) (fun c0 a0 d0 v0 x0 h0 => panic_body (P := Tryz.prog) Tryz.f90 (fun e w' => e = .returned (.tuple #[]) ∧ MetE w B mb m F A L en x w') c0 a0 d0 v0 x0 h0) (Below.refl _ _).drew ?_
      simp only [lexL, List.getElem?_cons_zero, List.getElem?_cons_succ]
      iterate 7 (refine lexW_free (by rfl) (by intro w' hS'; have q1 := HC.out w' hS'; clear hS'; go_simp; exact rfl) ?_; simp only [Act.put, List.setIfInBounds_toArray, List.set_cons_zero, List.set_cons_succ])
      iterate 12 (refine lexW_skip (by rfl) ?_; simp only [Act.put, List.setIfInBounds_toArray, List.set_cons_zero, List.set_cons_succ])
      refine lexW_free (by rfl) (by intro w' hS'; clear hS'; go_simp; exact rfl) ?_
      simp only [Act.put, List.setIfInBounds_toArray, List.set_cons_zero, List.set_cons_succ]
      refine lexW_done ?_
      have HR := hid (HQ.out wr.drew (Below.refl _ _).drew)
      clear HQ HC
      go_wp2
      go_end0
      exact ⟨rfl, HR.out⟩
    | cons ev r =>
      obtain ⟨eb, eo, rfl, hebB, hcells⟩ := hee (by simp)
      obtain ⟨k0, k1, k2⟩ := hcells 0 (by simp)
      simp only [Nat.zero_mul, Nat.add_zero, List.getD_cons_zero] at k0 k1 k2
      have hebz : eb < wr.heap.size := by have := h1.st.le; omega
      have hok0 := hok1 ev List.mem_cons_self
      have HC := hid (fun (w' : World) (hb : Below wr.heap.size wr w') => (show w'.cell? ⟨mb, 1, none⟩ = some (.slice (some ⟨eb, eo, none⟩) (r.length + 1) c) ∧ w'.cell? ⟨mb, 7, none⟩ = some (.int .i64 sn) ∧ w'.cell? ⟨eb, eo, none⟩ = some (.int .i64 ev.st) ∧ w'.cell? ⟨eb, eo + 1, none⟩ = some (.int .i64 ev.k) ∧ w'.cell? ⟨eb, eo + 2, none⟩ = some (.int .i64 ev.n) from ⟨(hb.cell (p := ⟨mb, 1, none⟩) hmz).trans x1, (hb.cell (p := ⟨mb, 7, none⟩) hmz).trans x7, (hb.cell (p := ⟨eb, eo, none⟩) hebz).trans k0, (hb.cell (p := ⟨eb, eo + 1, none⟩) hebz).trans k1, (hb.cell (p := ⟨eb, eo + 2, none⟩) hebz).trans k2⟩))
      have i1 : (0 : Int) < (r.length : Int) + 1 := by omega
      by_cases hst0 : ev.st = sn
      · have e1 : (ev.st == (sn : Int)) = true := by simpa using hst0
        obtain ⟨f, rest, hsf, _, _, h24⟩ := hI1.top
        have hl24 : s1.fr.length ≤ 24 := by rw [hsf]; simpa using h24
        have hcm := comes_cm (F := F) ev.k ev.n s1 hI1.highs
        have hmet : metP F r (comesP F ev.k ev.n s1) = x := by
          rw [← hx1]
          conv => rhs; unfold metP
          rw [if_pos (by rw [hs1]; omega)]
        have hro2 := hro1.come (F := F) hI1.highs hl24
        have hD : s1.cD ≤ 900000 ∧ s1.cU ≤ 900000 := ⟨by have := hro1.1; omega, by have := hro1.2; omega⟩
        have HT := hid (fun (w' : World) (hb : Below wr.heap.size wr w') => comeM (h1.below hb) HF.out hI1 hD.1 hD.2 ev hok0)
        have HX := hid (And.intro hp1 (And.intro hc1 (And.intro hl1 (And.intro hf1 (And.intro hmet (And.intro (hcm.inv hI1) (And.intro (hr1.2.mono (show (sn : Int) ≤ ev.st by omega)) (And.intro (fun e he => hok1 e (List.mem_cons_of_mem _ he)) (And.intro hro2 (hcm.steps.trans hs1))))))))))
        have HEv := hid (show ∀ c', (c' = c) → 2 ≤ r.length + 1 → ∀ w', Below B wr w' → EvV w' B (.slice (some ⟨eb, eo + 3, none⟩) r.length (c' - 1)) r from fun c' hc' h2 w' hb => by
          subst hc'
          have hec' : r.length + 1 ≤ c' := hec
          refine ⟨some ⟨eb, eo + 3, none⟩, c' - 1, rfl, by omega, fun _ => ⟨eb, eo + 3, rfl, hebB, fun i hi => ?_⟩⟩
          obtain ⟨a0, a1, a2⟩ := hcells (i + 1) (by simp; omega)
          simp only [List.getD_cons_succ] at a0 a1 a2
          refine ⟨?_, ?_, ?_⟩
          · rw [show eo + 3 + i * 3 = eo + (i + 1) * 3 by omega]; exact (hb.cell (p := ⟨eb, eo + (i + 1) * 3, none⟩) hebB).trans a0
          · rw [show eo + 3 + i * 3 + 1 = eo + (i + 1) * 3 + 1 by omega]; exact (hb.cell (p := ⟨eb, eo + (i + 1) * 3 + 1, none⟩) hebB).trans a1
          · rw [show eo + 3 + i * 3 + 2 = eo + (i + 1) * 3 + 2 by omega]; exact (hb.cell (p := ⟨eb, eo + (i + 1) * 3 + 2, none⟩) hebB).trans a2)
        have hgk : gk = r.length + 1 := by rw [← hg1]; rfl
        have hec2 : r.length + 1 ≤ c := hec
        have HLE := hid h1.st.le
        have evEq := h1.ev
        have HEVV := hid hev
        clear h1 hp1 hc1 hl1 hf1 hx1 hI1 hr1 hok1 hro1 hs1 hee hev hec hg1 hcells hcm hmet hro2 hD hok0 k0 k1 k2 x1 x7 z1 hst0 hsf h24 hl24 evEq
        go_wp2_with fail
        refine region_lex (Below wr.heap.size wr) [(false, 0), (false, 1), (false, 2), (false, 3), (false, 4), (false, 5), (false, 6), (false, 7), (false, 8), (false, 9), (false, 10), (false, 11), (false, 12), (false, 13), (false, 14), (false, 15), (false, 16), (false, 17), (false, 18), (false, 19)] (by kernel_rfl) (by kernel_rfl) (fun c0 a0 d0 v0 x0 h0 => panic_body (P := Tryz.prog) Tryz.f90 (fun e w' => e = .returned (.tuple #[]) ∧ MetE w B mb m F A L en x w') c0 a0 d0 v0 x0 h0) (Below.refl _ _).drew ?_
        simp only [lexL, List.getElem?_cons_zero, List.getElem?_cons_succ]
        iterate 20 (refine lexW_free (by rfl) (by intro w' hS'; obtain ⟨q1, q2, q3, _, _⟩ := HC.out w' hS'; clear hS'; go_simp; exact rfl) ?_; simp only [Act.put, List.setIfInBounds_toArray, List.set_cons_zero, List.set_cons_succ])
        refine lexW_done ?_
        have HB1 := hid (show Below wr.heap.size wr wr.drew from (Below.refl _ _).drew)
        generalize wr.drew = w1 at *
        obtain ⟨q1, _, q3, q4, q5⟩ := HC.out w1 HB1.out
        go_wp2_with fail
        refine (HT.out w1 HB1.out).mono ?_
        rintro e w2 ⟨rfl, A2, MV2, L2, r2, s2, c2, l2, f2⟩
        clear q1 q3 q4 q5 HT
        have x1' : w2.cell? ⟨mb, 1, none⟩ = some (.slice (some ⟨eb, eo, none⟩) (r.length + 1) c) := by
          rw [cell_heap r2.st.lay.run]
          show some A2.g.ev = _
          rw [s2.ev, HEVV.out]
          rfl
        have z1' : w2.frozen? ⟨mb, 1, none⟩ = false := frozen_heap r2.st.lay.run
        have hbw2 : Below B wr w2 := (HB1.out.mono HLE.out).trans (c2.below (by have := HB1.out.size; have := HLE.out; omega))
        obtain ⟨hp1, hc1, hl1, hf1, hmet, hI2, hr2, hok2, hro2, hs2⟩ := HX.out
        have HN := hid (show ∀ v, EvV w2 B v r → MeetAt w B mb m F K H A L en x sn (w2.setCell ⟨mb, 1, none⟩ v) (gk - 1) from fun v hv => by
          obtain ⟨A3, r3, p3, c3, f3⟩ := r2.next v hv
          exact ⟨A3, MV2, L2, _, r, r3, by omega, (hp1.trans s2.p).trans p3, (hc1.trans ((Ch.of_below HB1.out).trans c2)).trans c3, fun t ht => l2 t (hl1 t ht), fun i => ((f3 i).trans (f2 i)).trans (hf1 i), hmet, hI2, hr2, hok2, hro2, hs2⟩)
        have HEv2 := hid (fun (h2 : 2 ≤ r.length + 1) => HEv.out c rfl h2 w2 hbw2)
        have j0 : (1 : Int) ≤ (r.length : Int) + 1 := by omega
        have hlt : gk - 1 < gk := by omega
        clear r2 s2 c2 l2 f2 hbw2 hp1 hc1 hl1 hf1 hmet hI2 hr2 hok2 hro2 hs2 HX HEv HC
        by_cases hrn : r = []
        · have HN2 := hid (show ∀ p' c', MeetAt w B mb m F K H A L en x sn (w2.setCell ⟨mb, 1, none⟩ (.slice p' 0 c')) (gk - 1) from fun p' c' => HN.out _ (by rw [hrn]; exact ⟨p', c', rfl, Nat.zero_le _, fun h => absurd rfl h⟩))
          have hr0 : r.length = 0 := by rw [hrn]; rfl
          rw [hr0] at x1'
          clear HN HEv2 hrn
          by_cases hc1 : c = 1
          · subst hc1
            go_wp2
            go_roundg (gk - 1)
            case measure => exact hlt
            case rel => exact HN2.out _ _
          · go_wp2
            go_roundg (gk - 1)
            case measure => exact hlt
            case rel => exact HN2.out _ _
        · have hr1 : 1 ≤ r.length := by
            cases hc : r with
            | nil => exact absurd hc hrn
            | cons a b => simp
          have HR := hid (HN.out _ (HEv2.out (by omega)))
          have hc1 : ¬ c = 1 := by omega
          have hc2 : ¬ c ≤ 1 := by omega
          clear HN HEv2 hrn
          generalize r.length = rl at *
          go_wp2
          go_roundg (gk - 1)
          case measure => exact hlt
          case rel => exact HR.out
      · have e1 : (ev.st == (sn : Int)) = false := by simpa using hst0
        have hge : (sn : Int) ≤ ev.st := hr1.1
        have HQ := hid (show ∀ X, Below wr.heap.size wr X → MetE w B mb m F A L en x X from fun X hX => by
          have : metP F (ev :: r) s1 = (s1, ev :: r) := by
            unfold metP
            rw [if_neg (by rw [hs1]; omega)]
          rw [← hx1, this]
          exact ⟨A1, MV1, L1, h1.below hX, hp1, hc1.trans' hX, hl1, hf1, hro1⟩)
        clear h1 hp1 hc1 hl1 hf1 hx1 hI1 hr1 hok1 hro1 hs1 hee hev hec hg1 hcells hok0 k0 k1 k2 x1 x7 z1 hst0 hge
        go_wp2_with fail
        refine region_lex (Below wr.heap.size wr) [(false, 0), (false, 1), (false, 2), (false, 3), (false, 4), (false, 5), (false, 6), (false, 7), (false, 8), (false, 9), (false, 10), (false, 11), (false, 12), (false, 13), (false, 14), (false, 15), (false, 16), (false, 17), (false, 18), (false, 19)] (by kernel_rfl) (by kernel_rfl) (fun c0 a0 d0 v0 x0 h0 => panic_body (P := Tryz.prog) Tryz.f90 (fun e w' => e = .returned (.tuple #[]) ∧ MetE w B mb m F A L en x w') c0 a0 d0 v0 x0 h0) (Below.refl _ _).drew ?_
        simp only [lexL, List.getElem?_cons_zero, List.getElem?_cons_succ]
        iterate 20 (refine lexW_free (by rfl) (by intro w' hS'; obtain ⟨q1, q2, q3, _, _⟩ := HC.out w' hS'; clear hS'; go_simp; exact rfl) ?_; simp only [Act.put, List.setIfInBounds_toArray, List.set_cons_zero, List.set_cons_succ])
        refine lexW_done ?_
        have HR := hid (HQ.out wr.drew (Below.refl _ _).drew)
        clear HQ HC
        go_wp2
        go_end0
        exact ⟨rfl, HR.out⟩
end Go.Proofs.YtkafkipjedpohaaGreatDoor

/-
  A stretch, once more: what is known where it is trapped. No Go here.
-/
namespace Go.Proofs.YtkafkipjedpohaaGreatDoor

variable {m : Nat} {F : Nat → PF} {K : Nat → Nat → Bool} {H : Nat → Nat → Int}

theorem trap_high {l : Mc} {f : Fr} {rest : List Fr} (hs : l.fr = f :: rest) (h0 : l.fin = 0) (h3 : 3 ≤ (stepP F l).fin) : (stepP F l).high = l.high := by
  rw [stepP_at hs] at h3 ⊢
  unfold stepQ at h3 ⊢
  dsimp only at h3 ⊢
  generalize (if l.high.headD false = true then 1 else 0) = c at *
  split
  · rfl
  · rename_i e10
    rw [if_neg e10] at h3
    split
    · split <;> rfl
    · rename_i e11
      rw [if_neg e11] at h3
      split
      · rename_i e13
        rw [if_pos e13] at h3
        unfold callP at h3 ⊢
        split
        · rfl
        · rename_i g r hd
          rw [hd] at h3
          dsimp only at h3
          split
          · rfl
          · rename_i c1
            rw [if_neg c1] at h3
            split
            · rfl
            · rename_i c2
              rw [if_neg c2] at h3
              exact absurd (show 3 ≤ l.fin from h3) (by omega)
      · rename_i e13
        rw [if_neg e13] at h3
        split
        · rename_i e14
          rw [if_pos e14] at h3
          unfold returnP at h3 ⊢
          split
          · rfl
          · rename_i v q hst
            rw [hst] at h3
            dsimp only at h3
            split
            · exact absurd h3 (by simp)
            · exact absurd (show 3 ≤ l.fin from h3) (by omega)
        · rfl

/-- What a step leaves of the frames' functions and gears. -/
def Kpt (s s' : Mc) : Prop :=
  s'.made = s.made ∧ ((s'.fr.map Fr.fn = s.fr.map Fr.fn ∧ s'.high = s.high) ∨ (∃ g, s'.fr.map Fr.fn = g :: s.fr.map Fr.fn ∧ s'.high = s.made g :: s.high ∧ s'.fin = 0) ∨ (s'.fr.map Fr.fn = (s.fr.map Fr.fn).drop 1 ∧ s'.high = s.high.drop 1))
theorem Kpt.of {s s1 s2 : Mc} (h1 : s1.made = s.made) (h2 : s1.fr.map Fr.fn = s.fr.map Fr.fn) (h3 : s1.high = s.high) (h : Kpt s1 s2) : Kpt s s2 := by
  unfold Kpt at *
  rw [h1, h2, h3] at h
  exact h
theorem step_kp {l : Mc} {f : Fr} {rest : List Fr} (hs : l.fr = f :: rest) (h0 : l.fin = 0) (hx : (execP ((F f.fn).op f.pc) ((F f.fn).ar f.pc) f l.arr l.out).1.fn = f.fn ∨ (F f.fn).op f.pc = 10 ∨ (F f.fn).op f.pc = 11 ∨ (F f.fn).op f.pc = 13 ∨ (F f.fn).op f.pc = 14) : Kpt l (stepP F l) := by
  have hm : l.fr.map Fr.fn = f.fn :: rest.map Fr.fn := by rw [hs]; rfl
  rw [stepP_at hs]
  unfold stepQ
  dsimp only
  generalize (if l.high.headD false = true then 1 else 0) = c at *
  split
  · exact ⟨rfl, Or.inl ⟨by rw [hm]; rfl, rfl⟩⟩
  · rename_i e10
    split
    · split
      · exact ⟨rfl, Or.inl ⟨rfl, rfl⟩⟩
      · exact ⟨rfl, Or.inl ⟨by rw [hm]; rfl, rfl⟩⟩
    · rename_i e11
      split
      · unfold callP
        split
        · exact ⟨rfl, Or.inl ⟨rfl, rfl⟩⟩
        · rename_i g r hd
          split
          · exact ⟨rfl, Or.inl ⟨by rw [hm]; rfl, rfl⟩⟩
          · split
            · exact ⟨rfl, Or.inl ⟨by rw [hm]; rfl, rfl⟩⟩
            · exact ⟨rfl, Or.inr (Or.inl ⟨g.n.toNat, by rw [hm]; rfl, rfl, h0⟩)⟩
      · rename_i e13
        split
        · unfold returnP
          split
          · exact ⟨rfl, Or.inl ⟨rfl, rfl⟩⟩
          · split
            · exact ⟨rfl, Or.inr (Or.inr ⟨by rw [hm]; rfl, rfl⟩)⟩
            · exact ⟨rfl, Or.inr (Or.inr ⟨by rw [hm]; rfl, rfl⟩)⟩
        · rename_i e14
          have hx' := hx.resolve_right (by omega)
          refine ⟨rfl, Or.inl ⟨?_, rfl⟩⟩
          rw [hm]
          show (if _ then _ else _ : Fr).fn :: rest.map Fr.fn = _
          congr 1
          split
          · exact hx'
          · exact hx'

theorem steps_inv (hF : Fine m F K H) {n : Nat} {s t : Mc} (h : Steps F n s t) : Inv m F K H s → Low16 H s → t.fin = 0 → Inv m F K H t ∧ Low16 H t := by
  induction h with
  | none s => exact fun h1 h2 _ => ⟨h1, h2⟩
  | more h0 hst ih =>
    intro h1 h2 ht
    rename_i n s t
    have hz : (stepP F s).fin = 0 := by
      cases hst with
      | none => exact ht
      | more h _ => exact h
    exact ih (step_inv hF h1 hz) (step16 hF h1 h2 hz) ht

/-- What the rest of a stretch does: n steps, or fewer, the last of which is trapped. -/
def RestT (F : Nat → PF) (m k0 : Nat) (l h : Mc) (k k' : Mk) : Prop :=
  ∃ new n t, k'.ds = k.ds ++ new ∧ 1 ≤ n ∧ n ≤ k'.seen - k.seen ∧ Steps F n l t ∧ t.steps = l.steps + n ∧ Kpt l t ∧ DeedsOk F m k0 new h ∧
    ((n = k'.seen - k.seen ∧ t.fin < 3 ∧ dexecs F new h = t) ∨ (3 ≤ t.fin ∧ dexecs F new h = { t with steps := t.steps - 1, cH := t.cH - 1 } ∧ t.high = l.high ∧ 1 ≤ t.cH ∧ ∃ f', t.fr = f' :: l.r))

theorem rest_t (hF : Fine m F K H) (k0 : Nat) (g : Nat) : ∀ (n p : Nat) (k : Mk) (l h : Mc), LowOk m F K H k0 l → Bd l → Rel l h k → l.f.pc = p → l.f.fn = g → n = (F g).cn - p → l.steps + ((mkFrom (F g) n p k).seen - k.seen) ≤ 100000 → RestT F m k0 l h k (mkFrom (F g) n p k)
  | 0, p, k, l, h, hl, hbd, r, hp, hg, hn, hs => by
    have h1 := hl.top.1.pc
    rw [hg, hp] at h1
    omega
  | n + 1, p, k, l, h, hl, hbd, r, hp, hg, hn, hs => by
    obtain ⟨t1, t2, t3⟩ := hl.top
    have hop : (F l.f.fn).op l.f.pc = (F g).op p := by rw [hp, hg]
    have har : (F l.f.fn).ar l.f.pc = (F g).ar p := by rw [hp, hg]
    have hstp := step_facts (F := F) hl.fin hl.inv.some
    have hkp : Kpt l (stepP F l) := by
      by_cases c : (F l.f.fn).op l.f.pc = 10 ∨ (F l.f.fn).op l.f.pc = 11 ∨ (F l.f.fn).op l.f.pc = 13 ∨ (F l.f.fn).op l.f.pc = 14
      · exact step_kp hl.fr hl.fin (Or.inr c)
      · exact step_kp hl.fr hl.fin (Or.inl (exec_went (f := l.f) (out := l.out) (t1.legal hF) (fun e => c (Or.inl e)) (fun e => c (Or.inr (Or.inl e))) (fun e => c (Or.inr (Or.inr (Or.inl e)))) (fun e => c (Or.inr (Or.inr (Or.inr e)))) (t1.low hF) t1.loc t1.stk hl.inv.arrs hl.inv.cells).fn)
    unfold mkFrom at hs ⊢
    by_cases ht : turnsP ((F g).op p) = true
    · rw [if_pos ht] at hs ⊢
      obtain ⟨new, n1, n2, n3⟩ := turn_any hF hl r hop har ht
      have e : (k.turn ((F g).op p) ((F g).ar p)).seen - k.seen = 1 := by
        show (k.trn _ _).seen + 1 - k.seen = 1
        rw [trn_seen]
        omega
      refine ⟨new, 1, stepP F l, n1, Nat.le_refl _, by omega, .more hl.fin (.none _), hstp.steps, hkp, n2, ?_⟩
      rcases n3 with ⟨a1, a2⟩ | ⟨a1, a2⟩
      · exact Or.inl ⟨e.symm, a1, a2⟩
      · have hc : (stepP F l).cH = l.cH + 1 := by rw [step_cHeq hl.fr, if_pos hl.high]
        refine Or.inr ⟨a1, ?_, trap_high hl.fr hl.fin a1, by omega, trap_len hl.fr hl.fin a1⟩
        rw [a2, hstp.steps]
        rw [hc]
        rfl
    · rw [if_neg ht] at hs ⊢
      have ht' : turnsP ((F g).op p) = false := by simpa using ht
      have hseen : (k.straight ((F g).op p) ((F g).ar p)).seen = k.seen + 1 := by unfold Mk.straight; simp only; rw [str_seen]
      have hmono := mk_seen (F g) n (p + 1) (k.straight ((F g).op p) ((F g).ar p))
      obtain ⟨new, n1, n2, n3⟩ := one_any hF hl r hop har ht'
      have h4 : (F g).op p ≠ 10 ∧ (F g).op p ≠ 11 ∧ (F g).op p ≠ 13 ∧ (F g).op p ≠ 14 := by simpa [turnsP] using ht'
      have hst := step_exec hl hop har h4.1 h4.2.1 h4.2.2.1 h4.2.2.2
      rcases n3 with ⟨a1, a2, a3⟩ | ⟨a1, a2⟩
      · have hlow := t1.low hF
        have hleg := t1.legal hF
        rw [hop, har] at hlow hleg
        have hw := exec_went (f := l.f) (out := l.out) hleg h4.1 h4.2.1 h4.2.2.1 h4.2.2.2 hlow t1.loc t1.stk hl.inv.arrs hl.inv.cells
        have hz : (execP ((F g).op p) ((F g).ar p) l.f l.arr l.out).2.2.2 = 0 := by have := a1; rw [hst] at this; exact this
        rw [if_pos hz] at hst
        have hI := step_inv hF hl.inv a1
        have h16 := step16 hF hl.inv hl.low a1
        have hbd' := Bd.step (F := F) hbd hl.fin hl.fr
        have hst1 := hstp.steps
        have hlen : (stepP F l).steps ≤ 100000 := by omega
        have hl' : LowOk m F K H k0 (stepP F l) := ⟨hI, h16, a1, hlen, by have := hbd'.cH; omega, by have := hbd'.out; omega, by have := hbd'.arr; omega, by rw [hst]; exact hl.high, by rw [hst]; exact hl.len⟩
        have hpc' : (stepP F l).f.pc = p + 1 := by rw [hst]; show l.f.pc + 1 = p + 1; rw [hp]
        have hfn' : (stepP F l).f.fn = g := by rw [hst]; show (execP ((F g).op p) ((F g).ar p) l.f l.arr l.out).1.fn = g; rw [hw.fn, hg]
        obtain ⟨new2, n', t, b1, b2, b3, b4, b5, b5', b6, b7⟩ := rest_t hF k0 g n (p + 1) (k.straight ((F g).op p) ((F g).ar p)) (stepP F l) (dexecs F new h) hl' hbd' a3 hpc' hfn' (by omega) (by omega)
        refine ⟨new ++ new2, n' + 1, t, by rw [b1, n1]; simp, by omega, by omega,   .more hl.fin b4, by omega, Kpt.of (by rw [hst]) (by rw [hst, hl.fr]; show (execP ((F g).op p) ((F g).ar p) l.f l.arr l.out).1.fn :: _ = _; rw [hw.fn]; rfl) (by rw [hst]) b5', deeds_append _ _ _ n2 (fun _ => b6) (by rw [r.fin]; decide), ?_⟩
        rw [dexecs_append _ _ _ (by omega)]
        have hh1 : (stepP F l).high = l.high := by rw [hst]
        have hr1 : (stepP F l).r = l.r := by rw [hst]; rfl
        rw [hh1, hr1] at b7
        rcases b7 with ⟨c1, c2, c3⟩ | ⟨c1, c2, c3⟩
        · exact Or.inl ⟨by omega, c2, c3⟩
        · exact Or.inr ⟨c1, c2, c3⟩
      · obtain ⟨ds2, e2⟩ : ∃ ds2, (mkFrom (F g) n (p + 1) (k.straight ((F g).op p) ((F g).ar p))).ds = (k.straight ((F g).op p) ((F g).ar p)).ds ++ ds2 := by
          exact mk_grows (F g) n (p + 1) _
        have hc : (stepP F l).cH = l.cH + 1 := by rw [hst]
        refine ⟨new ++ ds2, 1, stepP F l, by rw [e2, n1]; simp, Nat.le_refl _, by omega, .more hl.fin (.none _), hstp.steps, hkp, ?_, Or.inr ⟨a1, ?_, trap_high hl.fr hl.fin a1, by omega, trap_len hl.fr hl.fin a1⟩⟩
        · exact deeds_append _ _ _ n2 (fun h => by rw [a2] at h; exact absurd (show (stepP F l).fin < 3 from h) (by omega)) (by rw [r.fin]; decide)
        · rw [dexecs_trap _ _ _ (by rw [a2]; exact a1) (by rw [r.fin]; decide), a2, hstp.steps, hc]
          rfl

/-- A stretch, from its beginning on. -/
theorem stretch_t (hF : Fine m F K H) {k0 : Nat} {l : Mc} (hl : LowOk m F K H k0 l) (hbd : Bd l) (hs : l.steps + (mkOf (F l.f.fn) l.f.pc).seen ≤ 100000) : RestT F m k0 l l ⟨[], [], 0, 0⟩ (mkOf (F l.f.fn) l.f.pc) := by
  have e : l = { l with fr := { l.f with pc := l.f.pc + (0 - 0), stk := (([] : List Opd).map (Opd.val l.f.loc)) ++ l.f.stk } :: l.r, steps := l.steps + (0 - 0), cH := l.cH + (0 - 0) } := by
    have := hl.fr
    clear hs hbd hl
    obtain ⟨fr, arr, out, gives, steps, fin, high, made, cH, cU, cD⟩ := l
    cases fr with
    | nil => simp [Mc.f, Mc.r] at this
    | cons f r => rfl
  exact rest_t hF k0 l.f.fn _ _ ⟨[], [], 0, 0⟩ l l hl hbd (rel_self (k := ⟨[], [], 0, 0⟩) e hl.fr (fun o ho => absurd ho List.not_mem_nil) (Nat.le_refl _) hl.fin) rfl rfl rfl hs
end Go.Proofs.YtkafkipjedpohaaGreatDoor
