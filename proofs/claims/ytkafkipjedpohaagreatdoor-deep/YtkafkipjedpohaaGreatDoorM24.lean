import Derived.Test.YtkafkipjedpohaaGreatDoorLy
import Derived.Test.YtkafkipjedpohaaGreatDoorV8
import Derived.Test.YtkafkipjedpohaaGreatDoorM26

/-
  The project's machine: run's deferred closure.
-/
namespace Go.Proofs.YtkafkipjedpohaaGreatDoor
open Go.RowKit

set_option maxRecDepth 100000 in
set_option maxHeartbeats 2000000 in
/-- The deferred closure, of a run that returns: nothing is recovered, nothing turned. -/
theorem catchIdle (p q : Addr) (w : World) :
    CallsD Tryz.prog 87 #[.pointer (some p), .pointer (some q)] .returning w fun e u' w' => e = .returned (.tuple #[]) ∧ u' = .returning ∧ w' = w := by
  have hnil : ∀ w : World, (binOp BinOp.eql 20 .nilIface .nilIface).run Tryz.prog w = .ok (.bool true) w := fun _ => by kernel_rfl
  refine callsD_of_wpS Tryz.func87 rfl fun c₀ cs hu => ?_
  apply wpS_seq
  apply wpS_region
  simp [wpOpsS, go_sem, recoverD, hu, Tryz.ntmps87, Exit.thenS]
  refine wpS_of_wp ?_
  have etm : (#[Value.pointer (some p), Value.pointer (some q)] ++ (Array.replicate 16 undef).setIfInBounds 3 Value.nilIface : Array Value) = #[.pointer (some p), .pointer (some q), undef, undef, undef, .nilIface, undef, undef, undef, undef, undef, undef, undef, undef, undef, undef, undef, undef] := rfl
  rw [etm]
  clear etm
  go_wp2
  cases c₀
  simp_all [bodyPostS, results, Tryz.results87]

theorem trapAssert (n : Int) (w : World) : (Instr.typeAssert (.iface 163 (.int .i64 n)) 20 163 true).run Tryz.prog w = .ok (.tuple #[.int .i64 n, .bool true]) w := by
  simp [Instr.typeAssert, run_underlying Tryz.underlying163, go_sem, Result.andThen]

end Go.Proofs.YtkafkipjedpohaaGreatDoor

/-
  The project's machine: run's deferred closure, of a run that is trapped.
-/
namespace Go.Proofs.YtkafkipjedpohaaGreatDoor
open Go.RowKit

set_option maxRecDepth 100000 in
set_option maxHeartbeats 2000000 in
/-- The deferred closure, of a run that is trapped: the trap is recovered, and set down as the way in which the run has ended; the step is counted. -/
theorem catchTrap {w : World} {B mb m : Nat} {F : Nat → PF} {MV : Nat → Value} {A : AdM} {s : Mc} {en : Int} (hM : MSt w B mb m F MV A s en) {f : Fr} {rest : List Fr} (hs : s.fr = f :: rest) (hr : rest.length ≤ 60) (hst : s.steps ≤ 100000) (hch : s.cH ≤ 100000) (pb qb : Nat) (n x : Int) (hp : w.heap[pb]? = some (.cells #[.int .i64 x] 3 (0, 0))) (hq : w.heap[qb]? = some (.cells #[.pointer (some ⟨mb, 0, none⟩)] 103 (0, 0))) (hpq : qb ≠ pb) (hpB : B ≤ pb) (hpt : A.tag pb = 5) (hqt : A.tag qb = 5) :
    CallsD Tryz.prog 87 #[.pointer (some ⟨pb, 0, none⟩), .pointer (some ⟨qb, 0, none⟩)] (.panicking [{ v := .iface 163 (.int .i64 n), recovered := false }]) w fun e u' w' =>
      e = .returned (.tuple #[]) ∧ u' = .panicking [{ v := .iface 163 (.int .i64 n), recovered := true }] ∧ (∃ A' : AdM, MSt w' B mb m F MV A' { s with steps := s.steps + 1, cH := s.cH + if s.high.headD false = true then 1 else 0 } en ∧ SameG A A' ∧ Ch B (fun _ => True) A.tag A'.tag w w') ∧ w'.cell? ⟨pb, 0, none⟩ = some (.int .i64 n) := by
  obtain ⟨s9, hs9⟩ : ∃ s9 : Mc, s9 = { s with steps := s.steps + 1, cH := s.cH + if s.high.headD false = true then 1 else 0 } := ⟨_, rfl⟩
  rw [← hs9]
  have HS9 := hid hs9
  clear hs9
  have hnil : ∀ w : World, (binOp BinOp.eql 20 (.iface 163 (.int .i64 n)) .nilIface).run Tryz.prog w = .ok (.bool false) w := fun w => run_eql_held_nil w 20 163 (.int .i64 n) (by kernel_rfl)
  have hta := fun wx => trapAssert n wx
  have y0 : w.cell? ⟨pb, 0, none⟩ = some (.int .i64 x) := (cell_heap hp).trans rfl
  have z0 : w.frozen? ⟨pb, 0, none⟩ = false := frozen_heap hp
  have c5 : Ch B (fun d => d = 5) A.tag A.tag w (w.setCell ⟨pb, 0, none⟩ (.int .i64 n)) := Ch.set w _ _ _ hpB hpt
  have hp1 := heap_set (o := 0) hp (.int .i64 n)
  have hq1 : (w.setCell ⟨pb, 0, none⟩ (.int .i64 n)).heap[qb]? = some (.cells #[.pointer (some ⟨mb, 0, none⟩)] 103 (0, 0)) := (Below.heap_setCell _ _ _ _ hpq).trans hq
  have hMd := hM.made
  have m1 : MSt (w.setCell ⟨pb, 0, none⟩ (.int .i64 n)) B mb m F MV A s en := ⟨hM.lay.keep5 c5, hM.hl, hM.cod, hM.cnt, hM.made.keep c5 (by omega), hM.mds, hM.pg.below (c5.below hM.le), by simp [World.setCell]; exact hM.le⟩
  obtain ⟨t4, tne, _, _, _, _, _⟩ := m1.top hs
  have hgear := m1.gear hs
  have hlen : s.fr.length = rest.length + 1 := by rw [hs]; rfl
  have hfrow := m1.lay.fr
  rw [hlen] at hfrow
  obtain ⟨gb, gcap, hgv, _, _, _, _⟩ := hfrow.form (by omega)
  rw [hgv] at hfrow
  have x3 : (w.setCell ⟨pb, 0, none⟩ (.int .i64 n)).cell? ⟨mb, 3, none⟩ = some (.slice (some ⟨gb, 0, none⟩) (rest.length + 1) gcap) := by rw [cell_heap m1.lay.run, ← hgv]; rfl
  have q0 : (w.setCell ⟨pb, 0, none⟩ (.int .i64 n)).cell? ⟨gb, rest.length, none⟩ = some (.pointer (some ⟨A.FB rest.length, 0, none⟩)) := hfrow.cell (i := rest.length) (by omega)
  have HM := hid (And.intro m1 (And.intro (And.intro t4 tne) (And.intro (And.intro x3 q0) (And.intro (And.intro hp1 hq1) (And.intro c5 (And.intro hpt (And.intro hqt hgear)))))))
  clear hM hMd m1 t4 tne hgear hfrow hgv x3 q0 c5 hp hq
  generalize hfb : A.FB rest.length = fb at *
  have HFB := hid hfb
  clear hfb
  refine callsD_of_wpS Tryz.func87 rfl fun c₀ cs hu => ?_
  apply wpS_seq
  apply wpS_region
  simp [wpOpsS, go_sem, recoverD, hu, Tryz.ntmps87, Exit.thenS]
  refine wpS_of_wp ?_
  have etm : (#[Value.pointer (some ⟨pb, 0, none⟩), Value.pointer (some ⟨qb, 0, none⟩)] ++ (Array.replicate 16 undef).setIfInBounds 3 (Value.iface 163 (.int .i64 n)) : Array Value) = #[.pointer (some ⟨pb, 0, none⟩), .pointer (some ⟨qb, 0, none⟩), undef, undef, undef, .iface 163 (.int .i64 n), undef, undef, undef, undef, undef, undef, undef, undef, undef, undef, undef, undef] := rfl
  rw [etm]
  clear etm
  go_wp2_with fail
  clear y0 z0 hnil hta hp1 hq1
  obtain ⟨m1, ⟨t4, tne⟩, ⟨x3, q0⟩, ⟨hp1, hq1⟩, c5, hpt, hqt, hgear⟩ := HM.out
  clear HM
  generalize w.setCell ⟨pb, 0, none⟩ (.int .i64 n) = W at *
  have hS0 : Hb [(qb, #[Value.pointer (some ⟨mb, 0, none⟩)], 103)] W.drew := fun t ht => by
    obtain rfl : t = (qb, #[Value.pointer (some ⟨mb, 0, none⟩)], 103) := by simpa using ht
    exact hq1
  have HW := hid (And.intro m1 (And.intro (And.intro t4 tne) (And.intro (And.intro x3 q0) (And.intro (And.intro hp1 hq1) (And.intro c5 (And.intro hpt (And.intro hqt hgear)))))))
  clear m1 t4 tne x3 q0 hp1 hq1 c5 hgear
  refine wp_region_noPanic ?_
  refine region_lex (Hb [(qb, #[Value.pointer (some ⟨mb, 0, none⟩)], 103)]) [(false, 0), (false, 1), (false, 2), (false, 3), (true, 4), (true, 5)] (by kernel_rfl) (by kernel_rfl) (fun _ _ _ _ _ h => h.elim) hS0 ?_
  have S0 := hid hS0
  clear hS0
  simp only [lexL, List.getElem?_cons_zero, List.getElem?_cons_succ]
  iterate 4 (refine lexW_free (by rfl) (by intro w' hS'; have y0 : w'.cell? ⟨qb, 0, none⟩ = some (.pointer (some ⟨mb, 0, none⟩)) := (hS'.cell List.mem_cons_self 0).trans rfl; clear hS'; go_simp; exact rfl) ?_; simp only [Act.put, List.setIfInBounds_toArray, List.set_cons_zero, List.set_cons_succ])
  refine lexW_sole (fun K hK => ?_)
  go_simp
  refine (topF W.drew mb 3 rest.length gb gcap _ HW.out.2.2.1.1 HW.out.2.2.1.2 (by omega)).mono ?_
  rintro e w6 ⟨rfl, k6, hw6⟩
  have hB6 : Below W.heap.size W w6 := by rw [hw6]; exact below_drewN (Below.refl _ _).drew _
  have HB6 := hid hB6
  refine hK.out _ _ ((show Hb [(qb, #[Value.pointer (some ⟨mb, 0, none⟩)], 103)] W from S0.out).below hB6) ?_
  clear hK K hw6 hB6
  refine lexW_sole (fun K hK => ?_)
  go_simp
  have hm6 := HW.out.1.below HB6.out
  have t6 : w6.cell? ⟨fb, 4, none⟩ = some (A.g.CV rest.length) := (HB6.out.cell (p := ⟨fb, 4, none⟩) (World.block_lt_of_cell? W _ HW.out.2.1.1)).trans HW.out.2.1.1
  refine (hm6.count fb _ _ t6 HW.out.2.2.2.2.2.2.2 HW.out.2.1.2 (by omega) (by omega) 1 (by omega)).mono ?_
  rintro e w7 ⟨rfl, hw7, A7, m7, s7, c7, f7, _⟩
  have hc7 : Ch B N5 A.tag A7.tag W w7 := (Ch.of_below HB6.out).trans c7
  have p7 : w7.heap[pb]? = some (.cells #[.int .i64 n] 3 (0, 0)) := (blk_keep HW.out.2.2.2.1.1 hc7 (by rw [HW.out.2.2.2.2.2.1]; exact n55)).1
  have q7 : w7.heap[qb]? = some (.cells #[.pointer (some ⟨mb, 0, none⟩)] 103 (0, 0)) := (blk_keep HW.out.2.2.2.1.2 hc7 (by rw [HW.out.2.2.2.2.2.2.1]; exact n55)).1
  have HQ := hid (And.intro (show ∃ A' : AdM, MSt w7 B mb m F MV A' s9 en ∧ SameG A A' ∧ Ch B (fun _ => True) A.tag A'.tag w w7 from ⟨A7, by rw [HS9.out]; exact m7, s7, (HW.out.2.2.2.2.1.mono (fun _ _ => trivial)).trans (hc7.mono (fun _ _ => trivial))⟩) (show w7.cell? ⟨pb, 0, none⟩ = some (.int .i64 n) from (cell_heap p7).trans rfl))
  refine hK.out _ _ (fun t ht => by
    obtain rfl : t = (qb, #[Value.pointer (some ⟨mb, 0, none⟩)], 103) := by simpa using ht
    exact q7) ?_
  clear hw7 hs hlen
  clear hK K m7 s7 c7 f7 hc7 p7 q7 hm6 t6 S0 HB6 HW
  refine lexW_done ?_
  refine NoPanic.normal ?_
  go_wp2
  have hq := HQ.out
  clear HQ
  cases c₀
  simp [bodyPostS, results, Tryz.results87, go_sem]
  exact hq
end Go.Proofs.YtkafkipjedpohaaGreatDoor

/-
  What steps leave as it was, as plain mathematics. No Go here.
-/
namespace Go.Proofs.YtkafkipjedpohaaGreatDoor

variable {m : Nat} {F : Nat → PF} {K : Nat → Nat → Bool} {H : Nat → Nat → Int}

theorem call_cUD (A : Nat) (f : Fr) (rest : List Fr) (s : Mc) : (callP F A f rest s).cU = s.cU ∧ (callP F A f rest s).cD = s.cD := by
  unfold callP
  repeat' split
  all_goals exact ⟨rfl, rfl⟩
theorem return_cUD (f : Fr) (rest : List Fr) (s : Mc) : (returnP f rest s).cU = s.cU ∧ (returnP f rest s).cD = s.cD := by
  unfold returnP
  repeat' split
  all_goals exact ⟨rfl, rfl⟩
theorem step_cUD {l : Mc} {f : Fr} {rest : List Fr} (hs : l.fr = f :: rest) : (stepP F l).cU = l.cU ∧ (stepP F l).cD = l.cD := by
  rw [stepP_at hs]
  unfold stepQ
  dsimp only
  generalize (if l.high.headD false = true then 1 else 0) = c
  split
  · exact ⟨rfl, rfl⟩
  · split
    · split <;> exact ⟨rfl, rfl⟩
    · split
      · exact call_cUD _ _ _ _
      · split
        · exact return_cUD _ _ _
        · exact ⟨rfl, rfl⟩

theorem steps_all (hF : Fine m F K H) {n : Nat} {s t : Mc} (h : Steps F n s t) : Inv m F K H s → Low16 H s → Bd s → Bd t ∧ t.cU = s.cU ∧ t.cD = s.cD ∧ t.steps = s.steps + n := by
  induction h with
  | none s => exact fun _ _ h3 => ⟨h3, rfl, rfl, rfl⟩
  | more h0 hst ih =>
    intro h1 h2 h3
    rename_i n s t
    obtain ⟨f, rest, hs, _⟩ := h1.top
    have hb := Bd.step (F := F) h3 h0 hs
    obtain ⟨hu, hd⟩ := step_cUD (F := F) hs
    have hsf := step_facts (F := F) h0 h1.some
    cases hst with
    | none => exact ⟨hb, hu, hd, hsf.steps⟩
    | more hz hst2 =>
      obtain ⟨k1, k2, k3, k4⟩ := ih (step_inv hF h1 hz) (step16 hF h1 h2 hz) hb
      exact ⟨k1, k2.trans hu, k3.trans hd, by rw [k4, hsf.steps]; omega⟩

/-- A run with events, from its start on. -/
theorem start_bd : Bd (startP F) := ⟨Nat.zero_le _, Nat.zero_le _, Nat.zero_le _⟩
theorem run_at (hF : Fine m F K H) {E : List Ev} (hr : Rising 0 E) (hok : ∀ e, e ∈ E → EvOk m e) : ∀ n, EvAt m F K H n (evS F (startP F) E n) := by
  obtain ⟨hI, h16⟩ := start_inv hF
  exact evs_at hF hI h16 start_bd rfl rfl hr hok
end Go.Proofs.YtkafkipjedpohaaGreatDoor

/-
  The project's machine: run, with events.
-/
namespace Go.Proofs.YtkafkipjedpohaaGreatDoor
open Go.RowKit

/-- How a run that has done its steps has ended. -/
def endP (s : Mc) : Int := if s.fin = 0 then 2 else s.fin

/-- Where run stands at the head of its loop. -/
def RunAtM (w : World) (B mb m : Nat) (F : Nat → PF) (A : AdM) (S : Nat → Mc × List Ev) (fuel gk : Nat) (wr : World) : Prop :=
  ∃ j, j + gk = fuel ∧ (S j).1.fin = 0 ∧ ∃ (A1 : AdM) (MV : Nat → Value) (L : Bxs), RSt wr B mb m F MV A1 (S j).1 0 L (S j).2 ∧ Room (S j).1 (S j).2 ∧ A1.tag w.heap.size = 5 ∧ A1.tag (w.heap.size + 1) = 5 ∧ Ch B No5 A.tag A1.tag w wr ∧ wr.heap[w.heap.size]? = some (.cells #[.pointer (some ⟨mb, 0, none⟩)] 103 (0, 0)) ∧ wr.heap[w.heap.size + 1]? = some (.cells #[.int .i64 0] 3 (0, 0))

theorem RSt.box {w : World} {B mb m : Nat} {F : Nat → PF} {MV : Nat → Value} {A : AdM} {s : Mc} {en : Int} {L : Bxs} {E : List Ev} (h : RSt w B mb m F MV A s en L E) (c : Array Value) (t : TypeId) : ∃ A1 : AdM, RSt (w.alloc (.cells c t)) B mb m F MV A1 s en L E ∧ A1.tag w.heap.size = 5 ∧ Ch B (fun _ => False) A.tag A1.tag w (w.alloc (.cells c t)) := by
  have hk : Ch B (fun _ => False) A.tag (upd A.tag w.heap.size 5) w (w.alloc (.cells c t)) := Ch.of_tags ((Below.refl _ _).alloc (Nat.le_refl _) _) (fun b hb => upd_other _ _ _ _ (by omega))
  exact ⟨_, h.keep hk, by show upd A.tag w.heap.size 5 w.heap.size = 5; rw [upd_same], hk⟩

theorem MSt.set5 {w : World} {B mb m : Nat} {F : Nat → PF} {MV : Nat → Value} {A : AdM} {s : Mc} {en : Int} (h : MSt w B mb m F MV A s en) {b : Nat} (hb : B ≤ b) (ht : A.tag b = 5) (v : Value) : MSt (w.setCell ⟨b, 0, none⟩ v) B mb m F MV A s en ∧ Ch B (fun d => d = 5) A.tag A.tag w (w.setCell ⟨b, 0, none⟩ v) := by
  have c5 : Ch B (fun d => d = 5) A.tag A.tag w (w.setCell ⟨b, 0, none⟩ v) := Ch.set w _ _ _ hb ht
  exact ⟨⟨h.lay.keep5 c5, h.hl, h.cod, h.cnt, h.made.keep c5 (by omega), h.mds, h.pg.below (c5.below h.le), by simp [World.setCell]; exact h.le⟩, c5⟩

theorem MetE.run {w W w1 : World} {B mb m : Nat} {F : Nat → PF} {A A1 : AdM} {L : Bxs} {S : Nat → Mc × List Ev} {fuel j : Nat} (h : MetE W B mb m F A1 L 0 (S j) w1) (hj : j ≤ fuel) (hz : (S j).1.fin = 0) (t1 : A1.tag w.heap.size = 5) (t2 : A1.tag (w.heap.size + 1) = 5) (c : Ch B No5 A.tag A1.tag w W) (b1 : W.heap[w.heap.size]? = some (.cells #[.pointer (some ⟨mb, 0, none⟩)] 103 (0, 0))) (b2 : W.heap[w.heap.size + 1]? = some (.cells #[.int .i64 0] 3 (0, 0))) : RunAtM w B mb m F A S fuel (fuel - j) w1 := by
  obtain ⟨A', MV', L', r1, _, c1, _, _, ro⟩ := h
  obtain ⟨p1, q1⟩ := blk_keep b1 c1 (by rw [t1]; exact nno5)
  obtain ⟨p2, q2⟩ := blk_keep b2 c1 (by rw [t2]; exact nno5)
  exact ⟨j, by omega, hz, A', MV', L', r1, ro, q1.trans t1, q2.trans t2, c.trans c1, p1, p2⟩

/-- What is known of the states of a run with events. -/
structure RoadE (m : Nat) (F : Nat → PF) (K : Nat → Nat → Bool) (H : Nat → Nat → Int) (S : Nat → Mc × List Ev) : Prop where
  at_ : ∀ n, EvAt m F K H n (S n)
  stay : ∀ n k, (S n).1.fin ≠ 0 → n ≤ k → S k = S n
  steps : ∀ (n j : Nat) (t : Mc), (S j).1.fin = 0 → Steps F n (S j).1 t → 1 ≤ n → ((S j).2 ≠ [] → (j : Int) + n ≤ ((S j).2.headD ⟨0, 0, 0⟩).st) → S (j + n) = if t.fin = 0 then metP F (S j).2 t else (t, (S j).2)

set_option maxRecDepth 100000 in
set_option maxHeartbeats 2000000 in
theorem runM {w : World} {B mb m : Nat} {F : Nat → PF} {K : Nat → Nat → Bool} {H : Nat → Nat → Int} {MV : Nat → Value} {A : AdM} {L : Bxs} {E0 : List Ev} (h : RSt w B mb m F MV A (startP F) 0 L E0) (hF : Fine m F K H) (hr0 : Rising 0 E0) (hok0 : ∀ e, e ∈ E0 → EvOk m e) (hro0 : Room (startP F) E0) (fuel : Nat) (hfu : fuel ≤ 100000) :
    Calls Tryz.prog 68 #[.pointer (some ⟨mb, 0, none⟩), .int .i64 fuel] w fun e w' => e = .returned (.int .i64 (endP (evS F (startP F) E0 fuel).1)) ∧
      ∃ (A' : AdM) (MV' : Nat → Value), MSt w' B mb m F MV' A' (evS F (startP F) E0 fuel).1 0 ∧ Ch B (fun _ => True) A.tag A'.tag w w' := by
  have hmf : ∀ (fn : Fn) (first cap : Array Value) (w : World), (Instr.makeFunc fn first cap).run Tryz.prog w = .ok (.func fn first cap) w := fun _ _ _ _ => rfl
  have hRd : RoadE m F K H (evS F (startP F) E0) := ⟨run_at hF hr0 hok0, fun n k hz hk => evs_stay hz k hk, fun n j t hz hst h1 hE => evs_steps hF (run_at hF hr0 hok0) n j _ t _ rfl hz hst h1 hE⟩
  have hS0 : evS F (startP F) E0 0 = metP F E0 (startP F) := rfl
  generalize evS F (startP F) E0 = S at *
  have hB := h.st.le
  obtain ⟨A1, m1, t1, c1⟩ := h.box #[.pointer (some ⟨mb, 0, none⟩)] 103
  obtain ⟨A2, m2, t2, c2⟩ := m1.box #[.int .i64 0] 3
  have hz1 : (w.alloc (.cells #[.pointer (some ⟨mb, 0, none⟩)] 103)).heap.size = w.heap.size + 1 := by simp
  rw [hz1] at t2
  have b1 : ((w.alloc (.cells #[.pointer (some ⟨mb, 0, none⟩)] 103)).alloc (.cells #[.int .i64 0] 3)).heap[w.heap.size]? = some (.cells #[.pointer (some ⟨mb, 0, none⟩)] 103 (0, 0)) := (Below.heap_alloc _ _ _ (by simp)).trans (Go.Deep.blk_alloc_new _ _)
  have b2 : ((w.alloc (.cells #[.pointer (some ⟨mb, 0, none⟩)] 103)).alloc (.cells #[.int .i64 0] 3)).heap[w.heap.size + 1]? = some (.cells #[.int .i64 0] 3 (0, 0)) := by
    have := Go.Deep.blk_alloc_new (w.alloc (.cells #[.pointer (some ⟨mb, 0, none⟩)] 103)) (.cells #[.int .i64 0] 3)
    rw [hz1] at this
    exact this
  have t1' : A2.tag w.heap.size = 5 := (c2.tags _ (by omega)).trans t1
  have c12 : Ch B No5 A.tag A2.tag w ((w.alloc (.cells #[.pointer (some ⟨mb, 0, none⟩)] 103)).alloc (.cells #[.int .i64 0] 3)) := (c1.mono (fun _ h => h.elim)).trans (c2.mono (fun _ h => h.elim))
  have HI := hid (And.intro m2 (And.intro t1' (And.intro t2 (And.intro c12 (And.intro b1 b2)))))
  have HG := hid (And.intro hF (And.intro hRd (And.intro hB (And.intro hS0 (And.intro hr0 (And.intro hok0 hro0))))))
  clear h m1 t1 c1 m2 t2 c2 c12 b1 b2 t1' hz1 hF hRd hB hS0 hr0 hok0 hro0
  go_enter_defers Tryz.func68, Tryz.ntmps68
  go_wp2_with fail
  obtain ⟨m2, t1, t2, c2, b1, b2⟩ := HI.out
  clear HI
  generalize (w.alloc (.cells #[.pointer (some ⟨mb, 0, none⟩)] 103)).alloc (.cells #[.int .i64 0] 3) = W at *
  have HX := hid (And.intro m2 (And.intro t1 (And.intro t2 (And.intro c2 (And.intro b1 b2)))))
  clear m2 t1 t2 c2 b1 b2
  refine (show Calls Tryz.prog 90 #[ptr mb] W fun e w' => e = .returned (.tuple #[]) ∧ RunAtM w B mb m F A S fuel fuel w' from ?_).mono ?_
  · obtain ⟨m2, t1, t2, c2, b1, b2⟩ := HX.out
    obtain ⟨hF, hRd, hB, hS0, hr0, hok0, hro0⟩ := HG.out
    refine (meetM m2 hF (start_inv hF).1 hr0 hok0 hro0).mono ?_
    rintro e w' ⟨rfl, hm⟩
    rw [← hS0] at hm
    have hz : (S 0).1.fin = 0 := by rw [hS0]; exact (met_cm (F := F) E0 (startP F) (start_inv hF).1.highs).fin
    exact ⟨rfl, hm.run (Nat.zero_le _) hz t1 t2 c2 b1 b2⟩
  rintro e w1 ⟨rfl, h1⟩
  have H1 := hid h1
  clear h1 HX
  go_wp2
  go_loopg [] fuel (fun gk wr => RunAtM w B mb m F A S fuel gk wr)
  case atStart => exact H1.out
  case round =>
    clear H1
    obtain ⟨j, hj, hz, A1, MV1, L1, m1, ro1, t1, t2, c1, b1, b2⟩ := hrel
    obtain ⟨hF, hRd, hB, _⟩ := HG.out
    have hAt := hRd.at_ j
    obtain ⟨hI, h16, hbd, hsj, hri⟩ := hAt.go hz
    have x7 : wr.cell? ⟨mb, 7, none⟩ = some (.int .i64 j) := by rw [cell_heap m1.st.lay.run]; show some (Value.int .i64 ((S j).1.steps : Int)) = _; rw [hsj]
    have y0 : wr.cell? ⟨w.heap.size, 0, none⟩ = some (.pointer (some ⟨mb, 0, none⟩)) := (cell_heap b1).trans rfl
    by_cases hjf : j < fuel
    · have hd : decide ((j : Int) < (fuel : Int)) = true := by simp; omega
      have HGo := hid (goOnM m1 hF fuel ⟨hI, h16, hbd, hz, by omega, hfu, by rw [hsj]; exact hri, hAt.ok⟩)
      have HX := hid (And.intro ro1 (And.intro t1 (And.intro t2 (And.intro c1 (And.intro b1 (And.intro b2 (And.intro hsj (And.intro hz hj))))))))
      have HY := hid (And.intro hI (And.intro h16 (And.intro hbd (And.intro hri hAt.ok))))
      clear m1 t1 t2 c1 b1 b2 hF hRd hI h16 hbd hsj hz hj hri hAt ro1
      go_wp2_with fail
      refine HGo.out.mono ?_
      rintro e w2 ⟨n, t, n1, hst, hf1, hE1, hend⟩
      obtain ⟨ro1, t1, t2, c1, b1, b2, hsj, hz, hj⟩ := HX.out
      obtain ⟨hI, h16, hbd, hri, hok⟩ := HY.out
      obtain ⟨hF, hRd, _⟩ := HG.out
      rw [hsj] at hf1 hE1
      have hSn := hRd.steps n j t hz hst n1 hE1
      obtain ⟨hbt, htu, htd, htst⟩ := steps_all hF hst hI h16 hbd
      rcases hend with ⟨k1, rfl, A2', m2, s2, c2⟩ | ⟨k1, rfl, u, ⟨A2', m2, s2, c2⟩, hut, f', r', hf', h24⟩
      · obtain ⟨b1', t1'⟩ := blk_keep b1 c2 (by rw [t1]; exact n55)
        obtain ⟨b2', t2'⟩ := blk_keep b2 c2 (by rw [t2]; exact n55)
        obtain ⟨fp, fcap, hfv, _⟩ := m2.st.lay.fr.any
        have x3 : w2.cell? ⟨mb, 3, none⟩ = some (.slice fp t.fr.length fcap) := by rw [cell_heap m2.st.lay.run, ← hfv]; rfl
        have y0' : w2.cell? ⟨w.heap.size, 0, none⟩ = some (.pointer (some ⟨mb, 0, none⟩)) := (cell_heap b1').trans rfl
        have hcN : Ch B No5 A.tag A2'.tag w w2 := c1.trans (c2.mono (fun _ => no5_of))
        by_cases hz1 : t.fin = 0
        · obtain ⟨hIt, h16t⟩ := steps_inv hF hst hI h16 hz1
          have hfr1 : t.fr.length ≠ 0 := fun e => hIt.some (List.length_eq_zero_iff.1 e)
          rw [if_pos hz1] at hSn
          have hrt : Rising t.steps (S j).2 := by
            rw [htst, hsj]
            cases hc : (S j).2 with
            | nil => trivial
            | cons e r =>
              have h1 := hE1 (by rw [hc]; simp)
              rw [hc] at h1 hri
              simp only [List.headD_cons] at h1
              exact ⟨by omega, hri.2⟩
          have hrot : Room t (S j).2 := by unfold Room at ro1 ⊢; rw [htu, htd]; exact ro1
          have HM : Hid (Calls Tryz.prog 90 #[ptr mb] w2 fun e w' => e = .returned (.tuple #[]) ∧ RunAtM w B mb m F A S fuel (fuel - (j + n)) w') := by
            refine (meetM m2 hF hIt hrt hok hrot).mono ?_
            rintro e w' ⟨rfl, hm⟩
            rw [← hSn] at hm
            have hzn : (S (j + n)).1.fin = 0 := by rw [hSn]; exact (met_cm (F := F) (S j).2 t hIt.highs).fin.trans hz1
            exact ⟨rfl, hm.run hf1 hzn (t1'.trans t1) (t2'.trans t2) hcN b1' b2'⟩
          have hgk : fuel - (j + n) < gk := by omega
          generalize t.fr.length = fl at *
          have hne2 : ((fl : Int) == 0) = false := by simp; omega
          clear m2 s2 c2 t1 t2 c1 b1 b2 hsj hz hj b1' t1' b2' t2' hfv hcN k1 hz1 HGo HX HY hIt h16t hrt hrot hSn hI h16 hbd hri hok hF hRd hst hE1 ro1 hbt htu htd htst
          go_wp2_with fail
          refine (lenF w2 mb 3 fl fcap fp x3).mono ?_
          rintro e w6 ⟨rfl, hw6⟩
          rw [hw6]
          clear hw6 w6
          go_wp2_with fail
          refine HM.out.mono ?_
          rintro e w3 ⟨rfl, k3⟩
          have HY3 := hid k3
          clear k3 HM
          go_wp2
          go_roundg (fuel - (j + n))
          case measure => exact hgk
          case rel => exact HY3.out
        · rw [if_neg hz1] at hSn
          have hatn := hRd.at_ (j + n)
          rw [hSn] at hatn
          have hf1' : t.fin = 1 := by have := hatn.fin; dsimp only at this; omega
          have hfr0 : t.fr.length = 0 := by rw [show t.fr = [] from hatn.fr.2 hf1']; rfl
          rw [hfr0] at x3
          have hlast : S fuel = (t, (S j).2) := (hRd.stay (j + n) fuel (by rw [hSn]; exact hz1) hf1).trans hSn
          have hend : endP (S fuel).1 = 1 := by unfold endP; rw [hlast, if_neg hz1]; exact hf1'
          have y2 : w2.cell? ⟨w.heap.size + 1, 0, none⟩ = some (.int .i64 0) := (cell_heap b2').trans rfl
          have z2 : w2.frozen? ⟨w.heap.size + 1, 0, none⟩ = false := frozen_heap b2'
          obtain ⟨m5, c5⟩ := m2.st.set5 (b := w.heap.size + 1) (by omega) (t2'.trans t2) (.int .i64 1)
          have m5' : MSt (w2.setCell ⟨w.heap.size + 1, 0, none⟩ (.int .i64 1)) B mb m F MV1 A2' (S fuel).1 0 := by rw [hlast]; exact m5
          have yr : (w2.setCell ⟨w.heap.size + 1, 0, none⟩ (.int .i64 1)).cell? ⟨w.heap.size + 1, 0, none⟩ = some (.int .i64 1) := by rw [cell_heap (heap_set b2' _)]; rfl
          have HQ := hid (And.intro m5' (And.intro ((hcN.mono (fun _ _ => trivial)).trans (c5.mono (q := fun _ => True) (fun _ _ => trivial))) hend))
          have YR := hid yr
          clear m2 s2 c2 t1 t2 c1 b1 b2 hsj hz hj b1' t1' b2' t2' hfv hcN k1 hz1 HGo HX HY m5 m5' c5 yr hend hlast hf1' hfr0 hatn hSn hI h16 hbd hri hok hF hRd hst hE1 ro1 hbt htu htd htst
          go_wp2_with fail
          refine (lenF w2 mb 3 0 fcap fp x3).mono ?_
          rintro e w6 ⟨rfl, hw6⟩
          rw [hw6]
          clear hw6 w6
          go_wp2
          refine leaves_cons (f := 87) (args := #[.pointer (some ⟨w.heap.size + 1, 0, none⟩), .pointer (some ⟨w.heap.size, 0, none⟩)]) (by simp) (by simp [go_sem]) ?_
          refine (catchIdle ⟨w.heap.size + 1, 0, none⟩ ⟨w.heap.size, 0, none⟩ _).mono ?_
          rintro e u' w'' ⟨rfl, rfl, rfl⟩
          have yr := YR.out
          have hend := HQ.out.2.2
          simp [Leaves, settle, results, Tryz.results68, go_sem, yr, hend]
          exact ⟨_, ⟨_, HQ.out.1⟩, HQ.out.2.1⟩
      · obtain ⟨b1', t1'⟩ := blk_keep b1 c2 (by rw [t1]; exact n55)
        obtain ⟨b2', t2'⟩ := blk_keep b2 c2 (by rw [t2]; exact n55)
        have hust : u.steps + 1 = t.steps := by rw [hut]
        have hucH : u.cH ≤ t.cH := by rw [hut]; exact Nat.le_add_right _ _
        have hct := catchTrap m2.st hf' (by omega) (by omega) (by have := hbt.cH; omega) (w.heap.size + 1) w.heap.size t.fin 0 b2' b1' (by omega) (by omega) (t2'.trans t2) (t1'.trans t1)
        rw [← hut] at hct
        have hzt : ¬ t.fin = 0 := by omega
        rw [if_neg hzt] at hSn
        have hlast : S fuel = (t, (S j).2) := (hRd.stay (j + n) fuel (by rw [hSn]; exact hzt) hf1).trans hSn
        have hend : endP (S fuel).1 = t.fin := by unfold endP; rw [hlast, if_neg hzt]
        have hcw : Ch B (fun _ => True) A.tag A2'.tag w w2 := (c1.mono (fun _ _ => trivial)).trans (c2.mono (fun _ _ => trivial))
        have hl1 : (S fuel).1 = t := by rw [hlast]
        have HQ := hid (And.intro hct (And.intro hend (And.intro hcw hl1)))
        clear HGo HX HY t1 t2 c1 b1 b2 hsj hz hj b1' t1' b2' t2' hct hlast hend hcw hl1 m2 s2 c2 hSn hI h16 hbd hri hok hF hRd hst hE1 ro1 hbt htu htd htst hust hucH hut hf' h24 hzt
        generalize t.fin = tf at *
        refine leaves_cons (f := 87) (args := #[.pointer (some ⟨w.heap.size + 1, 0, none⟩), .pointer (some ⟨w.heap.size, 0, none⟩)]) (by simp) (by simp [go_sem]) ?_
        refine HQ.out.1.mono ?_
        rintro e u' w'' ⟨rfl, rfl, ⟨A9, m9, s9, c9⟩, yr⟩
        obtain ⟨_, hend, hcw, hl1⟩ := HQ.out
        have hfinal : ∃ (A' : AdM) (MV' : Nat → Value), MSt w'' B mb m F MV' A' (S fuel).1 0 ∧ Ch B (fun _ => True) A.tag A'.tag w w'' := by
          rw [hl1]
          exact ⟨A9, _, m9, hcw.trans c9⟩
        clear m9 s9 c9 hcw hl1 HQ
        simp [Leaves, settle, results, Tryz.results68, go_sem, yr, hend]
        obtain ⟨A', MV', k1, k2⟩ := hfinal
        exact ⟨A', ⟨MV', k1⟩, k2⟩
    · obtain rfl : j = fuel := by omega
      have hd : decide ((j : Int) < (j : Int)) = false := by simp
      have y2 : wr.cell? ⟨w.heap.size + 1, 0, none⟩ = some (.int .i64 0) := (cell_heap b2).trans rfl
      have z2 : wr.frozen? ⟨w.heap.size + 1, 0, none⟩ = false := frozen_heap b2
      obtain ⟨m5, c5⟩ := m1.st.set5 (b := w.heap.size + 1) (by omega) t2 (.int .i64 2)
      have yr : (wr.setCell ⟨w.heap.size + 1, 0, none⟩ (.int .i64 2)).cell? ⟨w.heap.size + 1, 0, none⟩ = some (.int .i64 2) := by rw [cell_heap (heap_set b2 _)]; rfl
      have hend : endP (S j).1 = 2 := by unfold endP; rw [if_pos hz]
      have HQ := hid (And.intro m5 (And.intro ((c1.mono (fun _ _ => trivial)).trans (c5.mono (q := fun _ => True) (fun _ _ => trivial))) hend))
      have YR := hid yr
      clear m1 t1 t2 c1 b1 b2 hF hRd hI h16 hbd hsj hri hAt ro1 hz hj m5 c5 yr hend
      go_wp2
      refine leaves_cons (f := 87) (args := #[.pointer (some ⟨w.heap.size + 1, 0, none⟩), .pointer (some ⟨w.heap.size, 0, none⟩)]) (by simp) (by simp [go_sem]) ?_
      refine (catchIdle ⟨w.heap.size + 1, 0, none⟩ ⟨w.heap.size, 0, none⟩ _).mono ?_
      rintro e u' w'' ⟨rfl, rfl, rfl⟩
      have yr := YR.out
      have hend := HQ.out.2.2
      simp [Leaves, settle, results, Tryz.results68, go_sem, yr, hend]
      exact ⟨_, ⟨_, HQ.out.1⟩, HQ.out.2.1⟩
end Go.Proofs.YtkafkipjedpohaaGreatDoor
