import Derived.Test.YtkafkipjedpohaaGreatDoorM19
import Derived.Test.YtkafkipjedpohaaGreatDoorPureA
import Derived.Defers
import Derived.Recover
import Derived.Laws.Pointers
import Derived.WideLaws

/-
  The project's machine: step is stepP.
-/
namespace Go.Proofs.YtkafkipjedpohaaGreatDoor
open Go.RowKit

/-- Behind a turn: the step is counted. -/
theorem turned {w X w' : World} {B mb m : Nat} {F : Nat → PF} {A : AdM} {s1 s' : Mc} {en : Int} {k n : Nat} (hX : Below w.heap.size w X) (hne : ¬ A.FB k = mb) (g1 : Goes X B mb m F A s1 en w') (k1 : w'.cell? ⟨A.FB k, 4, none⟩ = some (.slice none 0 0)) (hb : s1.steps ≤ 1000000) (h3 : s'.fin < 3)
    (e1 : s'.fr = s1.fr) (e2 : s'.arr = s1.arr) (e3 : s'.out = s1.out) (e4 : s'.gives = s1.gives) (e5 : s'.steps = s1.steps + 1) :
    Calls Tryz.prog 88 #[.pointer (some ⟨mb, 0, none⟩), .pointer (some ⟨A.FB k, 0, none⟩), .int .i64 1] w' fun e w'' => e = .returned (.tuple #[]) ∧ StepE w B mb m F A s' n en e w'' := by
  obtain ⟨A1, m1, s1', c1, f1⟩ := g1
  refine (m1.count _ k1 hne hb).mono ?_
  rintro e w'' ⟨rfl, A2, m2, s2, c2, f2⟩
  refine ⟨rfl, Or.inr ⟨h3, rfl, ?_⟩⟩
  have hg : Goes w B mb m F A { s1 with steps := s1.steps + 1 } en w'' := ⟨A2, m2, s1'.trans s2, (Ch.of_below hX).trans (c1.trans c2), fun i hi => (f2 i hi).trans (f1 i hi)⟩
  exact hg.like e1 e2 e3 e4 e5

theorem stepM {w : World} {B mb m : Nat} {F : Nat → PF} {K : Nat → Nat → Bool} {H : Nat → Nat → Int} {A : AdM} {s : Mc} {en : Int} (hM : MSt w B mb m F A s en) (hF : Fine m F K H) (hI : Inv m F K H s) (h16 : Low16 H s) (h0 : s.fin = 0) (hst : s.steps ≤ 100000) (ho : s.out.length ≤ 100000) (hm : s.arr.length ≤ 100000) (k : Nat) (hk : s.fr.length = k + 1) :
    Calls Tryz.prog 104 #[.pointer (some ⟨mb, 0, none⟩), .pointer (some ⟨A.FB k, 0, none⟩)] w (StepE w B mb m F A (stepP F s) s.steps en) := by
  obtain ⟨⟨f, rest, hs, hf, hr, hn⟩, hhh, ha, hc⟩ := hI
  obtain rfl : k = rest.length := by rw [hs] at hk; simpa using hk.symm
  have hlow := hf.low hF
  have hleg := hf.legal hF
  have hff := hF.fn f.fn hf.fn
  have hst16 : f.stk.length ≤ 16 := by have h1 := h16 f (by rw [hs]; exact List.mem_cons_self); have h2 := hf.height; omega
  have hrst : ∀ g, g ∈ rest → g.stk.length ≤ 60 := fun g hg => by have h1 := h16 g (by rw [hs]; exact List.mem_cons_of_mem _ hg); have h2 := (hr g hg).height; omega
  have hpc64 : f.pc ≤ 64 := by have h1 := hf.pc; have h2 := hff.cn; omega
  obtain ⟨t4, tne, _⟩ := hM.top hs
  rw [stepP_at hs]
  by_cases e10 : (F f.fn).op f.pc = 10
  · obtain ⟨j0, j1⟩ := legal_jump hleg (Or.inl e10)
    rw [stepQ_jump e10]
    refine step_pre hM hs hf.fn hf.pc 10 _ e10 rfl _ true (by decide) (fun _ X hX => ?_) (fun h => by cases h)
    have h1 := turn_jump (hM.below hX) hs ((F f.fn).ar f.pc).toNat
    rw [show ((((F f.fn).ar f.pc).toNat : Nat) : Int) = (F f.fn).ar f.pc by omega] at h1
    refine h1.mono ?_
    rintro e w' ⟨rfl, g1, k1⟩
    exact Or.inr ⟨rfl, turned hX tne g1 k1 (by show s.steps ≤ _; omega) (by show s.fin < 3; omega) rfl rfl rfl rfl rfl⟩
  by_cases e11 : (F f.fn).op f.pc = 11
  · obtain ⟨j0, j1⟩ := legal_jump hleg (Or.inr e11)
    rw [e11, show popsP 11 ((F f.fn).ar f.pc) = 1 by simp [popsP, popsT]] at hlow
    cases hstk : f.stk with
    | nil => rw [hstk] at hlow; simp at hlow
    | cons v r =>
      have hlr : r.length + 1 = f.stk.length := by rw [hstk]; rfl
      rw [stepQ_branch e11 hstk]
      refine step_pre hM hs hf.fn hf.pc 11 _ e11 rfl _ true (by decide) (fun _ X hX => ?_) (fun h => by cases h)
      have h1 := turn_branch (hM.below hX) hs hstk (by omega) (hf.stk v (by rw [hstk]; exact List.mem_cons_self)).2.2 ((F f.fn).ar f.pc).toNat (by omega)
      rw [show ((((F f.fn).ar f.pc).toNat : Nat) : Int) = (F f.fn).ar f.pc by omega] at h1
      refine h1.mono ?_
      rintro e w' ⟨rfl, g1, k1⟩
      exact Or.inr ⟨rfl, turned hX tne g1 k1 (by show s.steps ≤ _; omega) (by show s.fin < 3; omega) rfl rfl rfl rfl rfl⟩
  by_cases e13 : (F f.fn).op f.pc = 13
  · obtain ⟨j0, j1⟩ := legal_call hleg e13
    rw [e13, show popsP 13 ((F f.fn).ar f.pc) = 1 + (F f.fn).ar f.pc by simp [popsP]] at hlow
    obtain ⟨cnt, hcnt⟩ : ∃ cnt : Nat, (F f.fn).ar f.pc = cnt := ⟨((F f.fn).ar f.pc).toNat, by omega⟩
    rw [hcnt] at hlow j1
    have hct : ((F f.fn).ar f.pc).toNat = cnt := by omega
    cases hd : f.stk.drop cnt with
    | nil =>
      have := congrArg List.length hd
      simp at this
      omega
    | cons g r =>
      have hg0 : g ∈ f.stk := List.mem_of_mem_drop (by rw [hd]; exact List.mem_cons_self)
      have hlen := congrArg List.length hd
      simp only [List.length_drop, List.length_cons] at hlen
      have hst2 : f.stk = f.stk.take cnt ++ g :: r := by rw [← hd, List.take_append_drop]
      rw [stepQ_call e13, hct]
      refine step_pre hM hs hf.fn hf.pc 13 _ e13 hcnt _ true (by decide) (fun _ X hX => ?_) (fun h => by cases h)
      have hfun : ∀ k, k < m → 0 ≤ (F k).locals ∧ (F k).locals ≤ 8 ∧ (F k).args ≤ (F k).locals := fun k hk => ⟨(hF.fn k hk).locals.1, (hF.fn k hk).locals.2, (hF.fn k hk).args.2.1⟩
      have h1 := turn_call (hM.below hX) hs (f.stk.take cnt) r g cnt hst2 (by rw [List.length_take]; omega) (by omega) (by omega) (hf.stk g hg0).2.1 hfun (by omega) (by have := hF.size; omega) hpc64 h0
      have hcf := call_facts (F := F) cnt f rest { s with steps := s.steps + 1, cH := s.cH + (if s.high.headD false = true then 1 else 0) } h0
      have hsame : ∀ s2 : Mc, (callP F cnt f rest { s with steps := s.steps + 1, cH := s.cH + (if s.high.headD false = true then 1 else 0) }).fr = (callP F cnt f rest s).fr ∧ (callP F cnt f rest { s with steps := s.steps + 1, cH := s.cH + (if s.high.headD false = true then 1 else 0) }).fin = (callP F cnt f rest s).fin ∧ (callP F cnt f rest { s with steps := s.steps + 1, cH := s.cH + (if s.high.headD false = true then 1 else 0) }).arr = (callP F cnt f rest s).arr ∧ (callP F cnt f rest s).out = s.out ∧ (callP F cnt f rest s).gives = s.gives ∧ (callP F cnt f rest s).steps = s.steps := fun _ => by
        unfold callP
        rw [hd]
        dsimp only
        by_cases q1 : g.k ≠ 3 ∨ (F g.n.toNat).args ≠ (cnt : Int)
        · rw [if_pos q1, if_pos q1]
          exact ⟨rfl, rfl, rfl, rfl, rfl, rfl⟩
        · rw [if_neg q1, if_neg q1]
          by_cases q2 : 24 ≤ rest.length + 1
          · rw [if_pos q2, if_pos q2]
            exact ⟨rfl, rfl, rfl, rfl, rfl, rfl⟩
          · rw [if_neg q2, if_neg q2]
            exact ⟨rfl, rfl, rfl, rfl, rfl, rfl⟩
      obtain ⟨a1, a2, a3, a4, a5, a6⟩ := hsame s
      obtain ⟨b1, b2, b3, b4, b5⟩ := hcf
      refine h1.mono ?_
      rintro e w' (⟨k1, rfl, g1⟩ | ⟨k1, rfl, g1, k2⟩)
      · refine Or.inl ⟨_, rfl, Or.inl ⟨by rw [a2]; exact k1, by rw [a2], ?_⟩⟩
        obtain ⟨A1, m1, s1', c1, f1⟩ := g1
        have hg : Goes w B mb m F A (callP F cnt f rest s) en w' := ⟨A1, m1, s1', (Ch.of_below hX).trans c1, f1⟩
        exact hg.like a1 a3 (b2.trans a4.symm) (b3.trans a5.symm) a6.symm
      · exact Or.inr ⟨rfl, turned hX tne g1 k2 (by rw [a6]; omega) (by rw [a2, k1]; decide) a1 a3 (b2.trans a4.symm) (b3.trans a5.symm) (by rw [b1, a6])⟩
  by_cases e14 : (F f.fn).op f.pc = 14
  · rw [e14, show popsP 14 ((F f.fn).ar f.pc) = 1 by simp [popsP, popsT]] at hlow
    cases hstk : f.stk with
    | nil => rw [hstk] at hlow; simp at hlow
    | cons v r =>
      have hlr : r.length + 1 = f.stk.length := by rw [hstk]; rfl
      rw [stepQ_return e14]
      refine step_pre hM hs hf.fn hf.pc 14 _ e14 rfl _ true (by decide) (fun _ X hX => ?_) (fun h => by cases h)
      have h1 := turn_return (hM.below hX) hs hstk (by omega) hrst (by omega) ((F f.fn).ar f.pc)
      refine h1.mono ?_
      rintro e w' ⟨rfl, g1, k1⟩
      refine Or.inr ⟨rfl, turned hX tne g1 k1 ?_ ?_ ?_ ?_ ?_ ?_ ?_⟩
      all_goals (unfold returnP; rw [hstk]; cases rest)
      all_goals first | rfl | (dsimp only; omega)
  · rw [stepQ_exec e10 e11 e13 e14]
    have hw := exec_went (f := f) (out := s.out) hleg e10 e11 e13 e14 hlow hf.loc hf.stk ha hc
    have hx := exec_facts ((F f.fn).op f.pc) ((F f.fn).ar f.pc) f s.arr s.out
    refine step_pre hM hs hf.fn hf.pc _ _ rfl rfl _ false (by simp; omega) (fun h => by cases h) (fun _ X hX => ?_)
    have hMX := hM.below hX
    have h1 := str_any X B mb A s en f rest ((F f.fn).op f.pc) ((F f.fn).ar f.pc) m _ _ hleg e10 e11 e13 e14 hlow hf.stk hf.locs (by omega) hMX.lay hs hMX.le ho (by omega) hc
    generalize execP ((F f.fn).op f.pc) ((F f.fn).ar f.pc) f s.arr s.out = x at *
    refine h1.mono ?_
    rintro e w' ⟨⟨k1, rfl⟩ | ⟨k1, rfl⟩, g1⟩
    · obtain ⟨A1, l1, q1, c1⟩ := g1
      have m1 : MSt w' B mb m F A1 { s with fr := x.1 :: rest, arr := x.2.1, out := x.2.2.1 } en := hMX.ch l1 (fun i hi => by rw [q1]; exact hMX.low i (by rw [hs]; exact hi)) (SameG.of q1) c1
      have s1' := SameG.of q1
      refine Or.inr ⟨rfl, ?_⟩
      have hfb : A1.FB rest.length = A.FB rest.length := fb_of q1 _
      have hp := m1.pass (f := x.1) (rest := rest) rfl (by show s.steps ≤ _; omega) (by rw [hw.pc]; omega)
      rw [hfb] at hp
      refine hp.mono ?_
      rintro e w'' ⟨rfl, A2, m2, s2, c2, f2⟩
      refine ⟨rfl, Or.inr ⟨by show x.2.2.2 < 3; omega, rfl, ?_⟩⟩
      rw [if_pos k1]
      have hg : Goes w B mb m F A { s with steps := s.steps + 1, fr := { x.1 with pc := x.1.pc + 1 } :: rest, arr := x.2.1, out := x.2.2.1 } en w'' := ⟨A2, m2, s1'.trans s2, (Ch.of_below hX).trans (c1.trans c2), fun i hi => (f2 i hi).trans (fb_of q1 i)⟩
      rw [hw.pc] at hg
      exact hg.like rfl rfl rfl rfl rfl
    · refine Or.inl ⟨_, rfl, Or.inl ⟨by show 3 ≤ x.2.2.2; omega, rfl, ?_⟩⟩
      rw [if_neg k1]
      obtain ⟨A1, m1, s1', c1, f1⟩ := hMX.aft g1 (by rw [hs]; rfl)
      have hg : Goes w B mb m F A { s with fr := x.1 :: rest, arr := x.2.1, out := x.2.2.1 } en w' := ⟨A1, m1, s1', (Ch.of_below hX).trans c1, f1⟩
      exact hg.like rfl rfl rfl rfl rfl
end Go.Proofs.YtkafkipjedpohaaGreatDoor

/-
  The project's machine: meet without events; goOn in the low gear.
-/
namespace Go.Proofs.YtkafkipjedpohaaGreatDoor
open Go.RowKit

set_option maxRecDepth 100000 in
theorem meetM (w : World) (mb : Nat) (he : w.cell? ⟨mb, 1, none⟩ = some (.slice none 0 0)) :
    Calls Tryz.prog 90 #[.pointer (some ⟨mb, 0, none⟩)] w fun e w' => e = .returned (.tuple #[]) ∧ Below w.heap.size w w' := by
  go_enter Tryz.func90, Tryz.ntmps90
  go_wp2
  go_loopg [] 0 (fun _ wr => wr = w)
  case atStart => rfl
  case round =>
    subst hrel
    go_wp2_with fail
    go_quiet (fail)
    go_wp2
    go_end0
    exact ⟨rfl, below_drewN (Below.refl _ _) _⟩

set_option maxRecDepth 100000 in
set_option maxHeartbeats 1000000 in
theorem goOnM {w : World} {B mb m : Nat} {F : Nat → PF} {K : Nat → Nat → Bool} {H : Nat → Nat → Int} {A : AdM} {s : Mc} {en : Int} (hM : MSt w B mb m F A s en) (hF : Fine m F K H) (hI : Inv m F K H s) (h16 : Low16 H s) (h0 : s.fin = 0) (hst : s.steps ≤ 100000) (ho : s.out.length ≤ 100000) (hm : s.arr.length ≤ 100000) (fuel : Int) :
    Calls Tryz.prog 91 #[.pointer (some ⟨mb, 0, none⟩), .int .i64 fuel] w (StepE w B mb m F A (stepP F s) s.steps en) := by
  obtain ⟨f, rest, hs, _⟩ := hI.top
  have hlen : s.fr.length = rest.length + 1 := by rw [hs]; rfl
  have hfrow := hM.lay.fr
  rw [hlen] at hfrow
  obtain ⟨gb, gcap, hgv, _, _, _, _⟩ := hfrow.form (by omega)
  rw [hgv] at hfrow
  have x3 : w.cell? ⟨mb, 3, none⟩ = some (.slice (some ⟨gb, 0, none⟩) (rest.length + 1) gcap) := by rw [cell_heap hM.lay.run, ← hgv]; rfl
  have q0 : w.cell? ⟨gb, rest.length, none⟩ = some (.pointer (some ⟨A.FB rest.length, 0, none⟩)) := hfrow.cell (i := rest.length) (by omega)
  obtain ⟨t4, tne, _⟩ := hM.top hs
  have hrl : rest.length ≤ 100000 := by have := hI.top; obtain ⟨f2, r2, hs2, _, _, hn2⟩ := this; rw [hs] at hs2; injection hs2 with _ h2; subst h2; omega
  have HS := hid (fun (X : World) (hX : Below w.heap.size w X) => (show Calls Tryz.prog 104 #[.pointer (some ⟨mb, 0, none⟩), .pointer (some ⟨A.FB rest.length, 0, none⟩)] X (StepE w B mb m F A (stepP F s) s.steps en) from by
    refine (stepM (hM.below hX) hF hI h16 h0 hst ho hm rest.length hlen).mono ?_
    rintro e w' (⟨k1, k2, k3⟩ | ⟨k1, k2, k3⟩)
    · obtain ⟨A1, m1, s1, c1, f1⟩ := k3
      exact Or.inl ⟨k1, k2, A1, m1, s1, (Ch.of_below hX).trans c1, f1⟩
    · obtain ⟨A1, m1, s1, c1, f1⟩ := k3
      exact Or.inr ⟨k1, k2, A1, m1, s1, (Ch.of_below hX).trans c1, f1⟩))
  have hns := nilSlice
  generalize hR : StepE w B mb m F A (stepP F s) s.steps en = R at *
  have HR := hid hR
  clear hM hF hI h16 hfrow hgv hR
  generalize A.FB rest.length = fb at *
  go_enter Tryz.func91, Tryz.ntmps91
  go_wp2_with fail
  refine (topF w mb 3 rest.length gb gcap _ x3 q0 hrl).mono ?_
  rintro e w1 ⟨rfl, k1, hw1⟩
  have hB1 : Below w.heap.size w w1 := by rw [hw1]; exact below_drewN (Below.refl _ _) _
  have c4 : w1.cell? ⟨fb, 4, none⟩ = some (.slice none 0 0) := (hB1.cell (p := ⟨fb, 4, none⟩) (World.block_lt_of_cell? w _ t4)).trans t4
  have HB1 := hid hB1
  clear hw1 hB1 x3 q0 t4
  go_wp2_with fail
  go_quiet (fail)
  go_wp2_with fail
  refine (HS.out _ (below_drewN HB1.out _)).mono ?_
  rintro e w2 h2
  have h3 := h2
  rw [← HR.out] at h3
  have H2 := hid h2
  clear h2
  rcases h3 with ⟨_, rfl, _⟩ | ⟨_, rfl, _⟩
  · exact ⟨rfl, H2.out⟩
  · go_wp2
    go_end0
    exact H2.out
end Go.Proofs.YtkafkipjedpohaaGreatDoor

/-
  The project's machine: run's deferred closure.
-/
namespace Go.Proofs.YtkafkipjedpohaaGreatDoor
open Go.RowKit

set_option maxRecDepth 100000 in
set_option maxHeartbeats 2000000 in
/-- The deferred closure, of a run that returns: nothing is recovered, nothing turned. -/
theorem catchIdle (p q : Addr) (w : World) :
    CallsD Tryz.prog 87 #[.pointer (some p), .pointer (some q)] .returning w fun e u' w' => e = .returned (.tuple #[]) ∧ u' = .returning ∧ w' = w := by
  have hnil : ∀ w : World, (binOp BinOp.eql 20 .nilIface .nilIface).run Tryz.prog w = .ok (.bool true) w := fun _ => by kernel_rfl
  refine callsD_of_wpS Tryz.func87 rfl fun c₀ cs hu => ?_
  apply wpS_seq
  apply wpS_region
  simp [wpOpsS, go_sem, recoverD, hu, Tryz.ntmps87, Exit.thenS]
  refine wpS_of_wp ?_
  have etm : (#[Value.pointer (some p), Value.pointer (some q)] ++ (Array.replicate 16 undef).setIfInBounds 3 Value.nilIface : Array Value) = #[.pointer (some p), .pointer (some q), undef, undef, undef, .nilIface, undef, undef, undef, undef, undef, undef, undef, undef, undef, undef, undef, undef] := rfl
  rw [etm]
  clear etm
  go_wp2
  cases c₀
  simp_all [bodyPostS, results, Tryz.results87]

theorem trapAssert (n : Int) (w : World) : (Instr.typeAssert (.iface 163 (.int .i64 n)) 20 163 true).run Tryz.prog w = .ok (.tuple #[.int .i64 n, .bool true]) w := by
  simp [Instr.typeAssert, run_underlying Tryz.underlying163, go_sem, Result.andThen]

end Go.Proofs.YtkafkipjedpohaaGreatDoor

/-
  The project's machine: run's deferred closure, of a run that is trapped.
-/
namespace Go.Proofs.YtkafkipjedpohaaGreatDoor
open Go.RowKit

set_option maxRecDepth 100000 in
set_option maxHeartbeats 2000000 in
/-- The deferred closure, of a run that is trapped: the trap is recovered, and set down as the way in which the run has ended; the step is counted. -/
theorem catchTrap {w : World} {B mb m : Nat} {F : Nat → PF} {A : AdM} {s : Mc} {en : Int} (hM : MSt w B mb m F A s en) {f : Fr} {rest : List Fr} (hs : s.fr = f :: rest) (hr : rest.length ≤ 60) (hst : s.steps ≤ 100000) (pb qb : Nat) (n x : Int) (hp : w.heap[pb]? = some (.cells #[.int .i64 x] 3 (0, 0))) (hq : w.heap[qb]? = some (.cells #[.pointer (some ⟨mb, 0, none⟩)] 103 (0, 0))) (hpq : qb ≠ pb) (hpB : B ≤ pb) (hpt : A.tag pb = 5) (hqt : A.tag qb = 5) :
    CallsD Tryz.prog 87 #[.pointer (some ⟨pb, 0, none⟩), .pointer (some ⟨qb, 0, none⟩)] (.panicking [{ v := .iface 163 (.int .i64 n), recovered := false }]) w fun e u' w' =>
      e = .returned (.tuple #[]) ∧ u' = .panicking [{ v := .iface 163 (.int .i64 n), recovered := true }] ∧ (∃ A' : AdM, MSt w' B mb m F A' { s with steps := s.steps + 1 } en ∧ SameG A A' ∧ Ch B (fun _ => True) A.tag A'.tag w w') ∧ w'.cell? ⟨pb, 0, none⟩ = some (.int .i64 n) := by
  have hnil : ∀ w : World, (binOp BinOp.eql 20 (.iface 163 (.int .i64 n)) .nilIface).run Tryz.prog w = .ok (.bool false) w := fun w => run_eql_held_nil w 20 163 (.int .i64 n) (by kernel_rfl)
  have hta := fun wx => trapAssert n wx
  have y0 : w.cell? ⟨pb, 0, none⟩ = some (.int .i64 x) := (cell_heap hp).trans rfl
  have z0 : w.frozen? ⟨pb, 0, none⟩ = false := frozen_heap hp
  have c5 : Ch B (fun d => d = 5) A.tag A.tag w (w.setCell ⟨pb, 0, none⟩ (.int .i64 n)) := Ch.set w _ _ _ hpB hpt
  have hp1 := heap_set (o := 0) hp (.int .i64 n)
  have hq1 : (w.setCell ⟨pb, 0, none⟩ (.int .i64 n)).heap[qb]? = some (.cells #[.pointer (some ⟨mb, 0, none⟩)] 103 (0, 0)) := (Below.heap_setCell _ _ _ _ hpq).trans hq
  have hlow := hM.low
  have hMd := hM.made
  have m1 : MSt (w.setCell ⟨pb, 0, none⟩ (.int .i64 n)) B mb m F A s en := ⟨hM.lay.keep5 c5, hM.low, hM.made.keep c5 (by omega), hM.pg.below (c5.below hM.le), by simp [World.setCell]; exact hM.le⟩
  obtain ⟨t4, tne, _, _, _, _, _⟩ := m1.top hs
  have hlen : s.fr.length = rest.length + 1 := by rw [hs]; rfl
  have hfrow := m1.lay.fr
  rw [hlen] at hfrow
  obtain ⟨gb, gcap, hgv, _, _, _, _⟩ := hfrow.form (by omega)
  rw [hgv] at hfrow
  have x3 : (w.setCell ⟨pb, 0, none⟩ (.int .i64 n)).cell? ⟨mb, 3, none⟩ = some (.slice (some ⟨gb, 0, none⟩) (rest.length + 1) gcap) := by rw [cell_heap m1.lay.run, ← hgv]; rfl
  have q0 : (w.setCell ⟨pb, 0, none⟩ (.int .i64 n)).cell? ⟨gb, rest.length, none⟩ = some (.pointer (some ⟨A.FB rest.length, 0, none⟩)) := hfrow.cell (i := rest.length) (by omega)
  have HM := hid (And.intro m1 (And.intro (And.intro t4 tne) (And.intro (And.intro x3 q0) (And.intro (And.intro hp1 hq1) (And.intro c5 (And.intro hpt hqt))))))
  clear hM hlow hMd m1 t4 tne hfrow hgv x3 q0 c5 hp hq
  generalize hfb : A.FB rest.length = fb at *
  have HFB := hid hfb
  clear hfb
  refine callsD_of_wpS Tryz.func87 rfl fun c₀ cs hu => ?_
  apply wpS_seq
  apply wpS_region
  simp [wpOpsS, go_sem, recoverD, hu, Tryz.ntmps87, Exit.thenS]
  refine wpS_of_wp ?_
  have etm : (#[Value.pointer (some ⟨pb, 0, none⟩), Value.pointer (some ⟨qb, 0, none⟩)] ++ (Array.replicate 16 undef).setIfInBounds 3 (Value.iface 163 (.int .i64 n)) : Array Value) = #[.pointer (some ⟨pb, 0, none⟩), .pointer (some ⟨qb, 0, none⟩), undef, undef, undef, .iface 163 (.int .i64 n), undef, undef, undef, undef, undef, undef, undef, undef, undef, undef, undef, undef] := rfl
  rw [etm]
  clear etm
  go_wp2_with fail
  clear y0 z0 hnil hta hp1 hq1
  obtain ⟨m1, ⟨t4, tne⟩, ⟨x3, q0⟩, ⟨hp1, hq1⟩, c5, hpt, hqt⟩ := HM.out
  clear HM
  generalize w.setCell ⟨pb, 0, none⟩ (.int .i64 n) = W at *
  have hS0 : Hb [(qb, #[Value.pointer (some ⟨mb, 0, none⟩)], 103)] W.drew := fun t ht => by
    obtain rfl : t = (qb, #[Value.pointer (some ⟨mb, 0, none⟩)], 103) := by simpa using ht
    exact hq1
  have HW := hid (And.intro m1 (And.intro (And.intro t4 tne) (And.intro (And.intro x3 q0) (And.intro (And.intro hp1 hq1) (And.intro c5 (And.intro hpt hqt))))))
  clear m1 t4 tne x3 q0 hp1 hq1 c5
  refine wp_region_noPanic ?_
  refine region_lex (Hb [(qb, #[Value.pointer (some ⟨mb, 0, none⟩)], 103)]) [(false, 0), (false, 1), (false, 2), (false, 3), (true, 4), (true, 5)] (by kernel_rfl) (by kernel_rfl) (fun _ _ _ _ _ h => h.elim) hS0 ?_
  have S0 := hid hS0
  clear hS0
  simp only [lexL, List.getElem?_cons_zero, List.getElem?_cons_succ]
  iterate 4 (refine lexW_free (by rfl) (by intro w' hS'; have y0 : w'.cell? ⟨qb, 0, none⟩ = some (.pointer (some ⟨mb, 0, none⟩)) := (hS'.cell List.mem_cons_self 0).trans rfl; clear hS'; go_simp; exact rfl) ?_; simp only [Act.put, List.setIfInBounds_toArray, List.set_cons_zero, List.set_cons_succ])
  refine lexW_sole (fun K hK => ?_)
  go_simp
  refine (topF W.drew mb 3 rest.length gb gcap _ HW.out.2.2.1.1 HW.out.2.2.1.2 (by omega)).mono ?_
  rintro e w6 ⟨rfl, k6, hw6⟩
  have hB6 : Below W.heap.size W w6 := by rw [hw6]; exact below_drewN (Below.refl _ _).drew _
  have HB6 := hid hB6
  refine hK.out _ _ ((show Hb [(qb, #[Value.pointer (some ⟨mb, 0, none⟩)], 103)] W from S0.out).below hB6) ?_
  clear hK K hw6 hB6
  refine lexW_sole (fun K hK => ?_)
  go_simp
  have hm6 := HW.out.1.below HB6.out
  have t6 : w6.cell? ⟨fb, 4, none⟩ = some (.slice none 0 0) := (HB6.out.cell (p := ⟨fb, 4, none⟩) (World.block_lt_of_cell? W _ HW.out.2.1.1)).trans HW.out.2.1.1
  refine (hm6.count fb t6 HW.out.2.1.2 (by omega)).mono ?_
  rintro e w7 ⟨rfl, A7, m7, s7, c7, f7⟩
  have hc7 : Ch B N5 A.tag A7.tag W w7 := (Ch.of_below HB6.out).trans c7
  have p7 : w7.heap[pb]? = some (.cells #[.int .i64 n] 3 (0, 0)) := (blk_keep HW.out.2.2.2.1.1 hc7 (by rw [HW.out.2.2.2.2.2.1]; exact n55)).1
  have q7 : w7.heap[qb]? = some (.cells #[.pointer (some ⟨mb, 0, none⟩)] 103 (0, 0)) := (blk_keep HW.out.2.2.2.1.2 hc7 (by rw [HW.out.2.2.2.2.2.2]; exact n55)).1
  have HQ := hid (And.intro (show ∃ A' : AdM, MSt w7 B mb m F A' { s with steps := s.steps + 1 } en ∧ SameG A A' ∧ Ch B (fun _ => True) A.tag A'.tag w w7 from ⟨A7, m7, s7, (HW.out.2.2.2.2.1.mono (fun _ _ => trivial)).trans (hc7.mono (fun _ _ => trivial))⟩) (show w7.cell? ⟨pb, 0, none⟩ = some (.int .i64 n) from (cell_heap p7).trans rfl))
  refine hK.out _ _ (fun t ht => by
    obtain rfl : t = (qb, #[Value.pointer (some ⟨mb, 0, none⟩)], 103) := by simpa using ht
    exact q7) ?_
  clear hK K m7 s7 c7 f7 hc7 p7 q7 hm6 t6 S0 HB6 HW
  refine lexW_done ?_
  refine NoPanic.normal ?_
  go_wp2
  have hq := HQ.out
  clear HQ
  cases c₀
  simp [bodyPostS, results, Tryz.results87, go_sem]
  exact hq
end Go.Proofs.YtkafkipjedpohaaGreatDoor
