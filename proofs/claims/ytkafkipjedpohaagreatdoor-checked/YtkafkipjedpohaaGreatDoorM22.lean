import Derived.Test.YtkafkipjedpohaaGreatDoorM21
import Derived.Test.YtkafkipjedpohaaGreatDoorPureA

/-
  The project's machine: step is stepP.
-/
namespace Go.Proofs.YtkafkipjedpohaaGreatDoor
open Go.RowKit

/-- Behind a turn: the step is counted. -/
theorem turned {w X w' : World} {B mb m : Nat} {F : Nat → PF} {A : AdM} {s1 s' : Mc} {en : Int} {k n : Nat} (hX : Below w.heap.size w X) (hne : ¬ A.FB k = mb) (g1 : Goes X B mb m F A s1 en w') (k1 : w'.cell? ⟨A.FB k, 4, none⟩ = some (.slice none 0 0)) (hb : s1.steps ≤ 1000000) (h3 : s'.fin < 3)
    (e1 : s'.fr = s1.fr) (e2 : s'.arr = s1.arr) (e3 : s'.out = s1.out) (e4 : s'.gives = s1.gives) (e5 : s'.steps = s1.steps + 1) :
    Calls Tryz.prog 88 #[.pointer (some ⟨mb, 0, none⟩), .pointer (some ⟨A.FB k, 0, none⟩), .int .i64 1] w' fun e w'' => e = .returned (.tuple #[]) ∧ StepE w B mb m F A s' n en e w'' := by
  obtain ⟨A1, m1, s1', c1, f1⟩ := g1
  refine (m1.count _ k1 hne hb).mono ?_
  rintro e w'' ⟨rfl, A2, m2, s2, c2, f2⟩
  refine ⟨rfl, Or.inr ⟨h3, rfl, ?_⟩⟩
  have hg : Goes w B mb m F A { s1 with steps := s1.steps + 1 } en w'' := ⟨A2, m2, s1'.trans s2, (Ch.of_below hX).trans (c1.trans c2), fun i hi => (f2 i hi).trans (f1 i hi)⟩
  exact hg.like e1 e2 e3 e4 e5

theorem stepM {w : World} {B mb m : Nat} {F : Nat → PF} {K : Nat → Nat → Bool} {H : Nat → Nat → Int} {A : AdM} {s : Mc} {en : Int} (hM : MSt w B mb m F A s en) (hF : Fine m F K H) (hI : Inv m F K H s) (h16 : Low16 H s) (h0 : s.fin = 0) (hst : s.steps ≤ 100000) (ho : s.out.length ≤ 100000) (hm : s.arr.length ≤ 100000) (k : Nat) (hk : s.fr.length = k + 1) :
    Calls Tryz.prog 104 #[.pointer (some ⟨mb, 0, none⟩), .pointer (some ⟨A.FB k, 0, none⟩)] w (StepE w B mb m F A (stepP F s) s.steps en) := by
  obtain ⟨⟨f, rest, hs, hf, hr, hn⟩, hhh, ha, hc⟩ := hI
  obtain rfl : k = rest.length := by rw [hs] at hk; simpa using hk.symm
  have hlow := hf.low hF
  have hleg := hf.legal hF
  have hff := hF.fn f.fn hf.fn
  have hst16 : f.stk.length ≤ 16 := by have h1 := h16 f (by rw [hs]; exact List.mem_cons_self); have h2 := hf.height; omega
  have hrst : ∀ g, g ∈ rest → g.stk.length ≤ 60 := fun g hg => by have h1 := h16 g (by rw [hs]; exact List.mem_cons_of_mem _ hg); have h2 := (hr g hg).height; omega
  have hpc64 : f.pc ≤ 64 := by have h1 := hf.pc; have h2 := hff.cn; omega
  obtain ⟨t4, tne, _⟩ := hM.top hs
  rw [stepP_at hs]
  by_cases e10 : (F f.fn).op f.pc = 10
  · obtain ⟨j0, j1⟩ := legal_jump hleg (Or.inl e10)
    rw [stepQ_jump e10]
    refine step_pre hM hs hf.fn hf.pc 10 _ e10 rfl _ true (by decide) (fun _ X hX => ?_) (fun h => by cases h)
    have h1 := turn_jump (hM.below hX) hs ((F f.fn).ar f.pc).toNat
    rw [show ((((F f.fn).ar f.pc).toNat : Nat) : Int) = (F f.fn).ar f.pc by omega] at h1
    refine h1.mono ?_
    rintro e w' ⟨rfl, g1, k1⟩
    exact Or.inr ⟨rfl, turned hX tne g1 k1 (by show s.steps ≤ _; omega) (by show s.fin < 3; omega) rfl rfl rfl rfl rfl⟩
  by_cases e11 : (F f.fn).op f.pc = 11
  · obtain ⟨j0, j1⟩ := legal_jump hleg (Or.inr e11)
    rw [e11, show popsP 11 ((F f.fn).ar f.pc) = 1 by simp [popsP, popsT]] at hlow
    cases hstk : f.stk with
    | nil => rw [hstk] at hlow; simp at hlow
    | cons v r =>
      have hlr : r.length + 1 = f.stk.length := by rw [hstk]; rfl
      rw [stepQ_branch e11 hstk]
      refine step_pre hM hs hf.fn hf.pc 11 _ e11 rfl _ true (by decide) (fun _ X hX => ?_) (fun h => by cases h)
      have h1 := turn_branch (hM.below hX) hs hstk (by omega) (hf.stk v (by rw [hstk]; exact List.mem_cons_self)).2.2 ((F f.fn).ar f.pc).toNat (by omega)
      rw [show ((((F f.fn).ar f.pc).toNat : Nat) : Int) = (F f.fn).ar f.pc by omega] at h1
      refine h1.mono ?_
      rintro e w' ⟨rfl, g1, k1⟩
      exact Or.inr ⟨rfl, turned hX tne g1 k1 (by show s.steps ≤ _; omega) (by show s.fin < 3; omega) rfl rfl rfl rfl rfl⟩
  by_cases e13 : (F f.fn).op f.pc = 13
  · obtain ⟨j0, j1⟩ := legal_call hleg e13
    rw [e13, show popsP 13 ((F f.fn).ar f.pc) = 1 + (F f.fn).ar f.pc by simp [popsP]] at hlow
    obtain ⟨cnt, hcnt⟩ : ∃ cnt : Nat, (F f.fn).ar f.pc = cnt := ⟨((F f.fn).ar f.pc).toNat, by omega⟩
    rw [hcnt] at hlow j1
    have hct : ((F f.fn).ar f.pc).toNat = cnt := by omega
    cases hd : f.stk.drop cnt with
    | nil =>
      have := congrArg List.length hd
      simp at this
      omega
    | cons g r =>
      have hg0 : g ∈ f.stk := List.mem_of_mem_drop (by rw [hd]; exact List.mem_cons_self)
      have hlen := congrArg List.length hd
      simp only [List.length_drop, List.length_cons] at hlen
      have hst2 : f.stk = f.stk.take cnt ++ g :: r := by rw [← hd, List.take_append_drop]
      rw [stepQ_call e13, hct]
      refine step_pre hM hs hf.fn hf.pc 13 _ e13 hcnt _ true (by decide) (fun _ X hX => ?_) (fun h => by cases h)
      have hfun : ∀ k, k < m → 0 ≤ (F k).locals ∧ (F k).locals ≤ 8 ∧ (F k).args ≤ (F k).locals := fun k hk => ⟨(hF.fn k hk).locals.1, (hF.fn k hk).locals.2, (hF.fn k hk).args.2.1⟩
      have h1 := turn_call (hM.below hX) hs (f.stk.take cnt) r g cnt hst2 (by rw [List.length_take]; omega) (by omega) (by omega) (hf.stk g hg0).2.1 hfun (by omega) (by have := hF.size; omega) hpc64 h0
      have hcf := call_facts (F := F) cnt f rest { s with steps := s.steps + 1, cH := s.cH + (if s.high.headD false = true then 1 else 0) } h0
      have hsame : ∀ s2 : Mc, (callP F cnt f rest { s with steps := s.steps + 1, cH := s.cH + (if s.high.headD false = true then 1 else 0) }).fr = (callP F cnt f rest s).fr ∧ (callP F cnt f rest { s with steps := s.steps + 1, cH := s.cH + (if s.high.headD false = true then 1 else 0) }).fin = (callP F cnt f rest s).fin ∧ (callP F cnt f rest { s with steps := s.steps + 1, cH := s.cH + (if s.high.headD false = true then 1 else 0) }).arr = (callP F cnt f rest s).arr ∧ (callP F cnt f rest s).out = s.out ∧ (callP F cnt f rest s).gives = s.gives ∧ (callP F cnt f rest s).steps = s.steps := fun _ => by
        unfold callP
        rw [hd]
        dsimp only
        by_cases q1 : g.k ≠ 3 ∨ (F g.n.toNat).args ≠ (cnt : Int)
        · rw [if_pos q1, if_pos q1]
          exact ⟨rfl, rfl, rfl, rfl, rfl, rfl⟩
        · rw [if_neg q1, if_neg q1]
          by_cases q2 : 24 ≤ rest.length + 1
          · rw [if_pos q2, if_pos q2]
            exact ⟨rfl, rfl, rfl, rfl, rfl, rfl⟩
          · rw [if_neg q2, if_neg q2]
            exact ⟨rfl, rfl, rfl, rfl, rfl, rfl⟩
      obtain ⟨a1, a2, a3, a4, a5, a6⟩ := hsame s
      obtain ⟨b1, b2, b3, b4, b5⟩ := hcf
      refine h1.mono ?_
      rintro e w' (⟨k1, rfl, g1⟩ | ⟨k1, rfl, g1, k2⟩)
      · refine Or.inl ⟨_, rfl, Or.inl ⟨by rw [a2]; exact k1, by rw [a2], ?_⟩⟩
        obtain ⟨A1, m1, s1', c1, f1⟩ := g1
        have hg : Goes w B mb m F A (callP F cnt f rest s) en w' := ⟨A1, m1, s1', (Ch.of_below hX).trans c1, f1⟩
        exact hg.like a1 a3 (b2.trans a4.symm) (b3.trans a5.symm) a6.symm
      · exact Or.inr ⟨rfl, turned hX tne g1 k2 (by rw [a6]; omega) (by rw [a2, k1]; decide) a1 a3 (b2.trans a4.symm) (b3.trans a5.symm) (by rw [b1, a6])⟩
  by_cases e14 : (F f.fn).op f.pc = 14
  · rw [e14, show popsP 14 ((F f.fn).ar f.pc) = 1 by simp [popsP, popsT]] at hlow
    cases hstk : f.stk with
    | nil => rw [hstk] at hlow; simp at hlow
    | cons v r =>
      have hlr : r.length + 1 = f.stk.length := by rw [hstk]; rfl
      rw [stepQ_return e14]
      refine step_pre hM hs hf.fn hf.pc 14 _ e14 rfl _ true (by decide) (fun _ X hX => ?_) (fun h => by cases h)
      have h1 := turn_return (hM.below hX) hs hstk (by omega) hrst (by omega) ((F f.fn).ar f.pc)
      refine h1.mono ?_
      rintro e w' ⟨rfl, g1, k1⟩
      refine Or.inr ⟨rfl, turned hX tne g1 k1 ?_ ?_ ?_ ?_ ?_ ?_ ?_⟩
      all_goals (unfold returnP; rw [hstk]; cases rest)
      all_goals first | rfl | (dsimp only; omega)
  · rw [stepQ_exec e10 e11 e13 e14]
    have hw := exec_went (f := f) (out := s.out) hleg e10 e11 e13 e14 hlow hf.loc hf.stk ha hc
    have hx := exec_facts ((F f.fn).op f.pc) ((F f.fn).ar f.pc) f s.arr s.out
    refine step_pre hM hs hf.fn hf.pc _ _ rfl rfl _ false (by simp; omega) (fun h => by cases h) (fun _ X hX => ?_)
    have hMX := hM.below hX
    have h1 := str_any X B mb A s en f rest ((F f.fn).op f.pc) ((F f.fn).ar f.pc) m _ _ hleg e10 e11 e13 e14 hlow hf.stk hf.locs (by omega) hMX.lay hs hMX.le ho (by omega) hc
    generalize execP ((F f.fn).op f.pc) ((F f.fn).ar f.pc) f s.arr s.out = x at *
    refine h1.mono ?_
    rintro e w' ⟨⟨k1, rfl⟩ | ⟨k1, rfl⟩, g1⟩
    · obtain ⟨A1, l1, q1, c1⟩ := g1
      have m1 : MSt w' B mb m F A1 { s with fr := x.1 :: rest, arr := x.2.1, out := x.2.2.1 } en := hMX.ch l1 (fun i hi => by rw [q1]; exact hMX.low i (by rw [hs]; exact hi)) (SameG.of q1) c1
      have s1' := SameG.of q1
      refine Or.inr ⟨rfl, ?_⟩
      have hfb : A1.FB rest.length = A.FB rest.length := fb_of q1 _
      have hp := m1.pass (f := x.1) (rest := rest) rfl (by show s.steps ≤ _; omega) (by rw [hw.pc]; omega)
      rw [hfb] at hp
      refine hp.mono ?_
      rintro e w'' ⟨rfl, A2, m2, s2, c2, f2⟩
      refine ⟨rfl, Or.inr ⟨by show x.2.2.2 < 3; omega, rfl, ?_⟩⟩
      rw [if_pos k1]
      have hg : Goes w B mb m F A { s with steps := s.steps + 1, fr := { x.1 with pc := x.1.pc + 1 } :: rest, arr := x.2.1, out := x.2.2.1 } en w'' := ⟨A2, m2, s1'.trans s2, (Ch.of_below hX).trans (c1.trans c2), fun i hi => (f2 i hi).trans (fb_of q1 i)⟩
      rw [hw.pc] at hg
      exact hg.like rfl rfl rfl rfl rfl
    · refine Or.inl ⟨_, rfl, Or.inl ⟨by show 3 ≤ x.2.2.2; omega, rfl, ?_⟩⟩
      rw [if_neg k1]
      obtain ⟨A1, m1, s1', c1, f1⟩ := hMX.aft g1 (by rw [hs]; rfl)
      have hg : Goes w B mb m F A { s with fr := x.1 :: rest, arr := x.2.1, out := x.2.2.1 } en w' := ⟨A1, m1, s1', (Ch.of_below hX).trans c1, f1⟩
      exact hg.like rfl rfl rfl rfl rfl
end Go.Proofs.YtkafkipjedpohaaGreatDoor
