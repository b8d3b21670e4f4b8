import Derived.Test.YtkafkipjedpohaaGreatDoorM21

/-
  A step by its instruction; no stack goes above 16. No Go here.
-/
namespace Go.Proofs.YtkafkipjedpohaaGreatDoor

/-- A step of a run whose frame at hand is f. -/
def stepQ (F : Nat → PF) (f : Fr) (rest : List Fr) (s0 : Mc) : Mc :=
  let s := { s0 with steps := s0.steps + 1, cH := s0.cH + (if s0.high.headD false = true then 1 else 0) }
  let op := (F f.fn).op f.pc
  let a := (F f.fn).ar f.pc
  if op = 10 then { s with fr := { f with pc := a.toNat } :: rest }
  else if op = 11 then match f.stk with
    | [] => s
    | v :: r => { s with fr := { f with pc := (if zeroP v = true then a.toNat else f.pc + 1), stk := r } :: rest }
  else if op = 13 then callP F a.toNat f rest s
  else if op = 14 then returnP f rest s
  else
    let x := execP op a f s.arr s.out
    { s with fr := (if x.2.2.2 = 0 then { x.1 with pc := f.pc + 1 } else x.1) :: rest, arr := x.2.1, out := x.2.2.1, fin := x.2.2.2 }

variable {m : Nat} {F : Nat → PF} {K : Nat → Nat → Bool} {H : Nat → Nat → Int} {s : Mc} {f : Fr} {rest : List Fr}

theorem stepP_at (hs : s.fr = f :: rest) : stepP F s = stepQ F f rest s := by
  obtain ⟨fr, arr, out, gives, steps, fin, high, made, cH, cU, cD⟩ := s
  simp only at hs
  subst hs
  rfl
theorem stepQ_jump (h : (F f.fn).op f.pc = 10) : stepQ F f rest s = { s with steps := s.steps + 1, cH := s.cH + (if s.high.headD false = true then 1 else 0), fr := { f with pc := ((F f.fn).ar f.pc).toNat } :: rest } := by
  unfold stepQ
  dsimp only
  rw [if_pos h]
theorem stepQ_branch (h : (F f.fn).op f.pc = 11) {v : V} {r : List V} (hst : f.stk = v :: r) : stepQ F f rest s = { s with steps := s.steps + 1, cH := s.cH + (if s.high.headD false = true then 1 else 0), fr := { f with pc := (if zeroP v = true then ((F f.fn).ar f.pc).toNat else f.pc + 1), stk := r } :: rest } := by
  unfold stepQ
  dsimp only
  rw [if_neg (by omega), if_pos h, hst]
theorem stepQ_call (h : (F f.fn).op f.pc = 13) : stepQ F f rest s = callP F ((F f.fn).ar f.pc).toNat f rest { s with steps := s.steps + 1, cH := s.cH + (if s.high.headD false = true then 1 else 0) } := by
  unfold stepQ
  dsimp only
  rw [if_neg (by omega), if_neg (by omega), if_pos h]
theorem stepQ_return (h : (F f.fn).op f.pc = 14) : stepQ F f rest s = returnP f rest { s with steps := s.steps + 1, cH := s.cH + (if s.high.headD false = true then 1 else 0) } := by
  unfold stepQ
  dsimp only
  rw [if_neg (by omega), if_neg (by omega), if_neg (by omega), if_pos h]
theorem stepQ_exec (h10 : (F f.fn).op f.pc ≠ 10) (h11 : (F f.fn).op f.pc ≠ 11) (h13 : (F f.fn).op f.pc ≠ 13) (h14 : (F f.fn).op f.pc ≠ 14) :
    stepQ F f rest s = { s with steps := s.steps + 1, cH := s.cH + (if s.high.headD false = true then 1 else 0), fr := (if (execP ((F f.fn).op f.pc) ((F f.fn).ar f.pc) f s.arr s.out).2.2.2 = 0 then { (execP ((F f.fn).op f.pc) ((F f.fn).ar f.pc) f s.arr s.out).1 with pc := f.pc + 1 } else (execP ((F f.fn).op f.pc) ((F f.fn).ar f.pc) f s.arr s.out).1) :: rest, arr := (execP ((F f.fn).op f.pc) ((F f.fn).ar f.pc) f s.arr s.out).2.1, out := (execP ((F f.fn).op f.pc) ((F f.fn).ar f.pc) f s.arr s.out).2.2.1, fin := (execP ((F f.fn).op f.pc) ((F f.fn).ar f.pc) f s.arr s.out).2.2.2 } := by
  unfold stepQ
  dsimp only
  rw [if_neg h10, if_neg h11, if_neg h13, if_neg h14]

/-- No stack of a frame that comes to its next instruction is above 16. -/
def Low16 (H : Nat → Nat → Int) (s : Mc) : Prop := ∀ g, g ∈ s.fr → H g.fn g.pc ≤ 16

theorem next16 {na : Nat} (hF : Fine m F K H) (hf : FrOk m na F K H 0 f) {t : Int} (ht : t ∈ afterP ((F f.fn).op f.pc) ((F f.fn).ar f.pc) f.pc) : H f.fn t.toNat ≤ 16 := by
  have hc := (hF.fn f.fn hf.fn).closed
  rw [(hc.next f.pc hf.pc hf.known t ht).2.2]
  exact hc.high f.pc hf.pc hf.known

theorem step16 (hF : Fine m F K H) (hI : Inv m F K H s) (h16 : Low16 H s) (h0 : (stepP F s).fin = 0) : Low16 H (stepP F s) := by
  obtain ⟨⟨f, rest, hs, hf, hr, hn⟩, hhh, ha, hc⟩ := hI
  have hlow := hf.low hF
  have hleg := hf.legal hF
  have hrest : ∀ g, g ∈ rest → H g.fn g.pc ≤ 16 := fun g hg => h16 g (by rw [hs]; exact List.mem_cons_of_mem _ hg)
  rw [stepP_at hs] at h0 ⊢
  by_cases e10 : (F f.fn).op f.pc = 10
  · rw [stepQ_jump e10]
    intro g hg
    rcases List.mem_cons.1 hg with rfl | hg
    · exact next16 hF hf (t := (F f.fn).ar f.pc) (by rw [e10]; simp [afterP])
    · exact hrest g hg
  by_cases e11 : (F f.fn).op f.pc = 11
  · rw [e11, show popsP 11 ((F f.fn).ar f.pc) = 1 by simp [popsP, popsT]] at hlow
    cases hst : f.stk with
    | nil => rw [hst] at hlow; simp at hlow
    | cons v r =>
      rw [stepQ_branch e11 hst]
      intro g hg
      rcases List.mem_cons.1 hg with rfl | hg
      · show H f.fn (if zeroP v = true then ((F f.fn).ar f.pc).toNat else f.pc + 1) ≤ 16
        by_cases hz : zeroP v = true
        · rw [if_pos hz]
          exact next16 hF hf (t := (F f.fn).ar f.pc) (by rw [e11]; simp [afterP])
        · rw [if_neg hz]
          have := next16 hF hf (t := (f.pc : Int) + 1) (by rw [e11]; simp [afterP])
          rw [show ((f.pc : Int) + 1).toNat = f.pc + 1 by omega] at this
          exact this
      · exact hrest g hg
  by_cases e13 : (F f.fn).op f.pc = 13
  · rw [stepQ_call e13] at h0 ⊢
    unfold callP at h0 ⊢
    cases hd : f.stk.drop ((F f.fn).ar f.pc).toNat with
    | nil =>
      intro g hg
      exact h16 g hg
    | cons g0 r =>
      rw [hd] at h0
      dsimp only at h0 ⊢
      have hg0 : g0 ∈ f.stk := List.mem_of_mem_drop (by rw [hd]; exact List.mem_cons_self)
      by_cases h1 : g0.k ≠ 3 ∨ (F g0.n.toNat).args ≠ (((F f.fn).ar f.pc).toNat : Int)
      · rw [if_pos h1] at h0; simp at h0
      · rw [if_neg h1] at h0 ⊢
        by_cases h2 : 24 ≤ rest.length + 1
        · rw [if_pos h2] at h0; simp at h0
        · rw [if_neg h2]
          have hgv := (hf.stk g0 hg0).2.1 (by omega)
          have hff := hF.fn g0.n.toNat (by omega)
          intro g hg
          rcases List.mem_cons.1 hg with rfl | hg
          · show H g0.n.toNat 0 ≤ 16
            rw [hff.closed.first.2]
            decide
          · rcases List.mem_cons.1 hg with rfl | hg
            · have := next16 hF hf (t := (f.pc : Int) + 1) (by rw [e13]; simp [afterP])
              rw [show ((f.pc : Int) + 1).toNat = f.pc + 1 by omega] at this
              exact this
            · exact hrest g hg
  by_cases e14 : (F f.fn).op f.pc = 14
  · rw [stepQ_return e14]
    unfold returnP
    cases hst : f.stk with
    | nil =>
      intro g hg
      exact h16 g hg
    | cons v r =>
      cases hr2 : rest with
      | nil =>
        intro g hg
        cases hg
      | cons g0 r0 =>
        intro g hg
        rcases List.mem_cons.1 hg with rfl | hg
        · exact hrest g0 (by rw [hr2]; exact List.mem_cons_self)
        · exact hrest g (by rw [hr2]; exact List.mem_cons_of_mem _ hg)
  · rw [stepQ_exec e10 e11 e13 e14] at h0 ⊢
    have hw := exec_went (f := f) (out := s.out) hleg e10 e11 e13 e14 hlow hf.loc hf.stk ha hc
    intro g hg
    rcases List.mem_cons.1 hg with rfl | hg
    · have h0' : (execP ((F f.fn).op f.pc) ((F f.fn).ar f.pc) f s.arr s.out).2.2.2 = 0 := h0
      rw [if_pos h0']
      show H (execP ((F f.fn).op f.pc) ((F f.fn).ar f.pc) f s.arr s.out).1.fn (f.pc + 1) ≤ 16
      rw [hw.fn]
      have := next16 hF hf (t := (f.pc : Int) + 1) (by
        have hr := legal_range hleg
        unfold afterP
        simp [e10, e14, e11])
      rw [show ((f.pc : Int) + 1).toNat = f.pc + 1 by omega] at this
      exact this
    · exact hrest g hg
end Go.Proofs.YtkafkipjedpohaaGreatDoor

/-
  The project's machine: step is stepP.
-/
namespace Go.Proofs.YtkafkipjedpohaaGreatDoor
open Go.RowKit

/-- Behind a turn: the step is counted. -/
theorem turned {w X w' : World} {B mb m : Nat} {F : Nat → PF} {MV : Nat → Value} {A : AdM} {s1 s' : Mc} {en : Int} {k n h n0 : Nat} {b : Bool} (hX : Below w.heap.size w X) (hne : ¬ A.FB k = mb) (g1 : Goes X B mb m F MV n0 A s1 en w') (k1 : w'.cell? ⟨A.FB k, 4, none⟩ = some (A.g.CV k)) (hcv : CodeV (A.g.CV k) b) (hb : s1.steps ≤ 1000000) (hh : s1.cH ≤ 1000000) (h3 : s'.fin < 3)
    (e1 : s'.fr = s1.fr) (e2 : s'.arr = s1.arr) (e3 : s'.out = s1.out) (e4 : s'.gives = s1.gives) (e5 : s'.steps = s1.steps + 1) (e6 : s'.high = s1.high) (e7 : s'.made = s1.made) (e8 : s'.cH = s1.cH + (if b = true then 1 else 0)) (e9 : s'.cU = s1.cU) (e10 : s'.cD = s1.cD) :
    Calls Tryz.prog 88 #[.pointer (some ⟨mb, 0, none⟩), .pointer (some ⟨A.FB k, 0, none⟩), .int .i64 1] w' fun e w'' => e = .returned (.tuple #[]) ∧ StepE w B mb m F MV n0 A s' n h en e w'' := by
  obtain ⟨A1, m1, s1', c1, f1, v1⟩ := g1
  refine (m1.count _ _ b k1 hcv hne hb hh 1 (by omega)).mono ?_
  rintro e w'' ⟨rfl, _, A2, m2, s2, c2, f2, v2⟩
  refine ⟨rfl, Or.inr ⟨h3, rfl, ?_⟩⟩
  have hg : Goes w B mb m F MV n0 A { s1 with steps := s1.steps + 1, cH := s1.cH + (if b = true then 1 else 0) } en w'' := ⟨A2, m2, s1'.trans s2, (Ch.of_below hX).trans (c1.trans c2), fun i hi hn => (f2 i hi hi).trans (f1 i hi hn), fun i hi => ⟨fun h => ((v2 i hi).1 hi).trans ((v1 i hi).1 h), fun h => ((v2 i hi).1 hi).trans ((v1 i hi).2 h)⟩⟩
  exact hg.like e1 e2 e3 e4 e5 e6 e7 e8 e9 e10

theorem stepM {w : World} {B mb m : Nat} {F : Nat → PF} {MV : Nat → Value} {K : Nat → Nat → Bool} {H : Nat → Nat → Int} {A : AdM} {s : Mc} {en : Int} (hM : MSt w B mb m F MV A s en) (hF : Fine m F K H) (hI : Inv m F K H s) (h16 : Low16 H s) (h0 : s.fin = 0) (hst : s.steps ≤ 100000) (hcH : s.cH ≤ 100000) (ho : s.out.length ≤ 100000) (hm : s.arr.length ≤ 100000) (k : Nat) (hk : s.fr.length = k + 1) :
    Calls Tryz.prog 104 #[.pointer (some ⟨mb, 0, none⟩), .pointer (some ⟨A.FB k, 0, none⟩)] w (StepE w B mb m F MV s.fr.length A (stepP F s) s.steps s.cH en) := by
  obtain ⟨⟨f, rest, hs, hf, hr, hn⟩, hhh, ha, hc⟩ := hI
  obtain rfl : k = rest.length := by rw [hs] at hk; simpa using hk.symm
  have hlow := hf.low hF
  have hleg := hf.legal hF
  have hff := hF.fn f.fn hf.fn
  have hst16 : f.stk.length ≤ 16 := by have h1 := h16 f (by rw [hs]; exact List.mem_cons_self); have h2 := hf.height; omega
  have hrst : ∀ g, g ∈ rest → g.stk.length ≤ 60 := fun g hg => by have h1 := h16 g (by rw [hs]; exact List.mem_cons_of_mem _ hg); have h2 := (hr g hg).height; omega
  have hpc64 : f.pc ≤ 64 := by have h1 := hf.pc; have h2 := hff.cn; omega
  obtain ⟨t4, tne, _⟩ := hM.top hs
  have hgr := hM.gear hs
  rw [stepP_at hs]
  by_cases e10 : (F f.fn).op f.pc = 10
  · obtain ⟨j0, j1⟩ := legal_jump hleg (Or.inl e10)
    rw [stepQ_jump e10]
    refine step_pre hM hs hf.fn hf.pc 10 _ e10 rfl _ true (by decide) (fun _ X hX => ?_) (fun h => by cases h)
    have h1 := turn_jump (hM.below hX) hs ((F f.fn).ar f.pc).toNat
    rw [show ((((F f.fn).ar f.pc).toNat : Nat) : Int) = (F f.fn).ar f.pc by omega] at h1
    refine h1.mono ?_
    rintro e w' ⟨rfl, g1, k1⟩
    exact Or.inr ⟨rfl, turned hX tne g1 k1 hgr (by show s.steps ≤ _; omega) (by show s.cH ≤ _; omega) (by show s.fin < 3; omega) rfl rfl rfl rfl rfl rfl rfl rfl rfl rfl⟩
  by_cases e11 : (F f.fn).op f.pc = 11
  · obtain ⟨j0, j1⟩ := legal_jump hleg (Or.inr e11)
    rw [e11, show popsP 11 ((F f.fn).ar f.pc) = 1 by simp [popsP, popsT]] at hlow
    cases hstk : f.stk with
    | nil => rw [hstk] at hlow; simp at hlow
    | cons v r =>
      have hlr : r.length + 1 = f.stk.length := by rw [hstk]; rfl
      rw [stepQ_branch e11 hstk]
      refine step_pre hM hs hf.fn hf.pc 11 _ e11 rfl _ true (by decide) (fun _ X hX => ?_) (fun h => by cases h)
      have h1 := turn_branch (hM.below hX) hs hstk (by omega) (hf.stk v (by rw [hstk]; exact List.mem_cons_self)).2.2 ((F f.fn).ar f.pc).toNat (by omega)
      rw [show ((((F f.fn).ar f.pc).toNat : Nat) : Int) = (F f.fn).ar f.pc by omega] at h1
      refine h1.mono ?_
      rintro e w' ⟨rfl, g1, k1⟩
      exact Or.inr ⟨rfl, turned hX tne g1 k1 hgr (by show s.steps ≤ _; omega) (by show s.cH ≤ _; omega) (by show s.fin < 3; omega) rfl rfl rfl rfl rfl rfl rfl rfl rfl rfl⟩
  by_cases e13 : (F f.fn).op f.pc = 13
  · obtain ⟨j0, j1⟩ := legal_call hleg e13
    rw [e13, show popsP 13 ((F f.fn).ar f.pc) = 1 + (F f.fn).ar f.pc by simp [popsP]] at hlow
    obtain ⟨cnt, hcnt⟩ : ∃ cnt : Nat, (F f.fn).ar f.pc = cnt := ⟨((F f.fn).ar f.pc).toNat, by omega⟩
    rw [hcnt] at hlow j1
    have hct : ((F f.fn).ar f.pc).toNat = cnt := by omega
    cases hd : f.stk.drop cnt with
    | nil =>
      have := congrArg List.length hd
      simp at this
      omega
    | cons g r =>
      have hg0 : g ∈ f.stk := List.mem_of_mem_drop (by rw [hd]; exact List.mem_cons_self)
      have hlen := congrArg List.length hd
      simp only [List.length_drop, List.length_cons] at hlen
      have hst2 : f.stk = f.stk.take cnt ++ g :: r := by rw [← hd, List.take_append_drop]
      rw [stepQ_call e13, hct]
      refine step_pre hM hs hf.fn hf.pc 13 _ e13 hcnt _ true (by decide) (fun _ X hX => ?_) (fun h => by cases h)
      have hfun : ∀ k, k < m → 0 ≤ (F k).locals ∧ (F k).locals ≤ 8 ∧ (F k).args ≤ (F k).locals := fun k hk => ⟨(hF.fn k hk).locals.1, (hF.fn k hk).locals.2, (hF.fn k hk).args.2.1⟩
      have h1 := turn_call (hM.below hX) hs (f.stk.take cnt) r g cnt hst2 (by rw [List.length_take]; omega) (by omega) (by omega) (hf.stk g hg0).2.1 hfun (by omega) (by have := hF.size; omega) hpc64 h0
      have hcf := call_facts (F := F) cnt f rest { s with steps := s.steps + 1, cH := s.cH + (if s.high.headD false = true then 1 else 0) } h0
      have hsame : ∀ s2 : Mc, (callP F cnt f rest { s with steps := s.steps + 1, cH := s.cH + (if s.high.headD false = true then 1 else 0) }).fr = (callP F cnt f rest s).fr ∧ (callP F cnt f rest { s with steps := s.steps + 1, cH := s.cH + (if s.high.headD false = true then 1 else 0) }).fin = (callP F cnt f rest s).fin ∧ (callP F cnt f rest { s with steps := s.steps + 1, cH := s.cH + (if s.high.headD false = true then 1 else 0) }).arr = (callP F cnt f rest s).arr ∧ (callP F cnt f rest s).out = s.out ∧ (callP F cnt f rest s).gives = s.gives ∧ (callP F cnt f rest s).steps = s.steps ∧ (callP F cnt f rest { s with steps := s.steps + 1, cH := s.cH + (if s.high.headD false = true then 1 else 0) }).high = (callP F cnt f rest s).high ∧ (callP F cnt f rest { s with steps := s.steps + 1, cH := s.cH + (if s.high.headD false = true then 1 else 0) }).made = (callP F cnt f rest s).made ∧ (callP F cnt f rest { s with steps := s.steps + 1, cH := s.cH + (if s.high.headD false = true then 1 else 0) }).cH = s.cH + (if s.high.headD false = true then 1 else 0) ∧ (callP F cnt f rest s).cH = s.cH ∧ (callP F cnt f rest { s with steps := s.steps + 1, cH := s.cH + (if s.high.headD false = true then 1 else 0) }).cU = (callP F cnt f rest s).cU ∧ (callP F cnt f rest { s with steps := s.steps + 1, cH := s.cH + (if s.high.headD false = true then 1 else 0) }).cD = (callP F cnt f rest s).cD := fun _ => by
        unfold callP
        rw [hd]
        dsimp only
        by_cases q1 : g.k ≠ 3 ∨ (F g.n.toNat).args ≠ (cnt : Int)
        · rw [if_pos q1, if_pos q1]
          exact ⟨rfl, rfl, rfl, rfl, rfl, rfl, rfl, rfl, rfl, rfl, rfl, rfl⟩
        · rw [if_neg q1, if_neg q1]
          by_cases q2 : 24 ≤ rest.length + 1
          · rw [if_pos q2, if_pos q2]
            exact ⟨rfl, rfl, rfl, rfl, rfl, rfl, rfl, rfl, rfl, rfl, rfl, rfl⟩
          · rw [if_neg q2, if_neg q2]
            exact ⟨rfl, rfl, rfl, rfl, rfl, rfl, rfl, rfl, rfl, rfl, rfl, rfl⟩
      obtain ⟨a1, a2, a3, a4, a5, a6, a7, a8, a9, a9', a10, a11⟩ := hsame s
      obtain ⟨b1, b2, b3, b4, b5⟩ := hcf
      refine h1.mono ?_
      rintro e w' (⟨k1, rfl, g1⟩ | ⟨k1, rfl, g1, k2⟩)
      · refine Or.inl ⟨_, rfl, Or.inl ⟨by rw [a2]; exact k1, by rw [a2], ?_⟩⟩
        obtain ⟨A1, m1, s1', c1, f1, v1⟩ := g1
        have hg : Goes w B mb m F MV s.fr.length A (callP F cnt f rest s) en w' := ⟨A1, m1, s1', (Ch.of_below hX).trans c1, f1, v1⟩
        exact hg.like a1 a3 (b2.trans a4.symm) (b3.trans a5.symm) a6.symm a7 a8 a9'.symm a10 a11
      · exact Or.inr ⟨rfl, turned hX tne g1 k2 hgr (by rw [a6]; omega) (by rw [a9']; omega) (by rw [a2, k1]; decide) a1 a3 (b2.trans a4.symm) (b3.trans a5.symm) (by rw [b1, a6]) a7 a8 (by rw [a9, a9']) a10 a11⟩
  by_cases e14 : (F f.fn).op f.pc = 14
  · rw [e14, show popsP 14 ((F f.fn).ar f.pc) = 1 by simp [popsP, popsT]] at hlow
    cases hstk : f.stk with
    | nil => rw [hstk] at hlow; simp at hlow
    | cons v r =>
      have hlr : r.length + 1 = f.stk.length := by rw [hstk]; rfl
      rw [stepQ_return e14]
      refine step_pre hM hs hf.fn hf.pc 14 _ e14 rfl _ true (by decide) (fun _ X hX => ?_) (fun h => by cases h)
      have h1 := turn_return (hM.below hX) hs hstk (by omega) hrst (by omega) ((F f.fn).ar f.pc)
      refine h1.mono ?_
      rintro e w' ⟨rfl, g1, k1⟩
      refine Or.inr ⟨rfl, turned hX tne g1 k1 hgr ?_ ?_ ?_ ?_ ?_ ?_ ?_ ?_ ?_ ?_ ?_ ?_ ?_⟩
      all_goals (unfold returnP; rw [hstk]; cases rest)
      all_goals first | rfl | (dsimp only; omega)
  · rw [stepQ_exec e10 e11 e13 e14]
    have hw := exec_went (f := f) (out := s.out) hleg e10 e11 e13 e14 hlow hf.loc hf.stk ha hc
    have hx := exec_facts ((F f.fn).op f.pc) ((F f.fn).ar f.pc) f s.arr s.out
    refine step_pre hM hs hf.fn hf.pc _ _ rfl rfl _ false (by simp; omega) (fun h => by cases h) (fun _ X hX => ?_)
    have hMX := hM.below hX
    have h1 := str_any X B mb A s en f rest ((F f.fn).op f.pc) ((F f.fn).ar f.pc) m _ _ hleg e10 e11 e13 e14 hlow hf.stk hf.locs (by omega) hMX.lay hs hMX.le ho (by omega) hc
    generalize execP ((F f.fn).op f.pc) ((F f.fn).ar f.pc) f s.arr s.out = x at *
    refine h1.mono ?_
    rintro e w' ⟨⟨k1, rfl⟩ | ⟨k1, rfl⟩, g1⟩
    · obtain ⟨A1, l1, q1, c1⟩ := g1
      have m1 : MSt w' B mb m F MV A1 { s with fr := x.1 :: rest, arr := x.2.1, out := x.2.2.1 } en := hMX.same l1 q1 c1 ⟨by rw [hs]; rfl, rfl, rfl, rfl, rfl, rfl⟩
      have s1' := SameG.of q1
      refine Or.inr ⟨rfl, ?_⟩
      have hfb : A1.FB rest.length = A.FB rest.length := fb_of q1 _
      have hp := m1.pass (f := x.1) (rest := rest) rfl (by show s.steps ≤ _; omega) (by show s.cH ≤ _; omega) (by rw [hw.pc]; omega) 1 (by omega)
      rw [hfb] at hp
      refine hp.mono ?_
      rintro e w'' ⟨rfl, A2, m2, s2, c2, f2, v2⟩
      refine ⟨rfl, Or.inr ⟨by show x.2.2.2 < 3; omega, rfl, ?_⟩⟩
      rw [if_pos k1]
      have hg : Goes w B mb m F MV s.fr.length A { s with steps := s.steps + 1, cH := s.cH + (if s.high.headD false = true then 1 else 0), fr := { x.1 with pc := x.1.pc + 1 } :: rest, arr := x.2.1, out := x.2.2.1 } en w'' := ⟨A2, m2, s1'.trans s2, (Ch.of_below hX).trans (c1.trans c2), fun i hi hn => (f2 i hi hi).trans (fb_of q1 i), fun i hi => ⟨fun h => ((v2 i hi).1 hi).trans (by rw [q1]), fun h => absurd (show i < rest.length + 1 from hi) (by rw [hs] at h; simp at h; omega)⟩⟩
      rw [hw.pc] at hg
      exact hg.like rfl rfl rfl rfl rfl rfl rfl rfl rfl rfl
    · refine Or.inl ⟨_, rfl, Or.inl ⟨by show 3 ≤ x.2.2.2; omega, rfl, ?_⟩⟩
      rw [if_neg k1]
      obtain ⟨A1, m1, s1', c1, f1, v1⟩ := hMX.aft g1 ⟨by rw [hs]; rfl, rfl, rfl, rfl, rfl, rfl⟩
      have hg : Goes w B mb m F MV s.fr.length A { s with fr := x.1 :: rest, arr := x.2.1, out := x.2.2.1 } en w' := ⟨A1, m1, s1', (Ch.of_below hX).trans c1, f1, v1⟩
      exact hg.like rfl rfl rfl rfl rfl rfl rfl rfl rfl rfl
end Go.Proofs.YtkafkipjedpohaaGreatDoor
