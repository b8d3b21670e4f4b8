import Derived.Test.YtkafkipjedpohaaGreatDoorM23
import Derived.Test.YtkafkipjedpohaaGreatDoorPureA

/-
  The project's machine: run.
-/
namespace Go.Proofs.YtkafkipjedpohaaGreatDoor
open Go.RowKit

/-- How a run that has done its steps has ended. -/
def endP (s : Mc) : Int := if s.fin = 0 then 2 else s.fin

/-- Where run stands at the head of its loop. -/
def RunAtM (w : World) (B mb m : Nat) (F : Nat → PF) (A : AdM) (S : Nat → Mc) (fuel gk : Nat) (wr : World) : Prop :=
  ∃ j, j + gk = fuel ∧ (S j).fin = 0 ∧ ∃ A1 : AdM, MSt wr B mb m F A1 (S j) 0 ∧ SameG A A1 ∧ A1.tag w.heap.size = 5 ∧ A1.tag (w.heap.size + 1) = 5 ∧ Ch B N5 A.tag A1.tag w wr ∧ wr.heap[w.heap.size]? = some (.cells #[.pointer (some ⟨mb, 0, none⟩)] 103 (0, 0)) ∧ wr.heap[w.heap.size + 1]? = some (.cells #[.int .i64 0] 3 (0, 0))

theorem RunAtM.below {w : World} {B mb m : Nat} {F : Nat → PF} {A : AdM} {S : Nat → Mc} {fuel gk : Nat} {wr wx : World} (h : RunAtM w B mb m F A S fuel gk wr) (k : Below wr.heap.size wr wx) : RunAtM w B mb m F A S fuel gk wx := by
  obtain ⟨j, h1, h2, A1, m1, s1, t1, t2, c1, b1, b2⟩ := h
  exact ⟨j, h1, h2, A1, m1.below k, s1, t1, t2, c1.trans' k, (k.block _ (heap_lt b1)).trans b1, (k.block _ (heap_lt b2)).trans b2⟩

set_option maxRecDepth 100000 in
set_option maxHeartbeats 2000000 in
theorem runM {w : World} {B mb m : Nat} {F : Nat → PF} {K : Nat → Nat → Bool} {H : Nat → Nat → Int} {A : AdM} {S : Nat → Mc} (hM : MSt w B mb m F A (S 0) 0) (hev : A.g.ev = .slice none 0 0) (hF : Fine m F K H) (hR : Road m F K H S) (fuel : Nat) (hfu : fuel ≤ 100000) :
    Calls Tryz.prog 68 #[.pointer (some ⟨mb, 0, none⟩), .int .i64 fuel] w fun e w' => e = .returned (.int .i64 (endP (S fuel))) ∧
      ∃ A' : AdM, MSt w' B mb m F A' (S fuel) 0 ∧ SameG A A' ∧ Ch B (fun _ => True) A.tag A'.tag w w' := by
  have hmf : ∀ (fn : Fn) (first cap : Array Value) (w : World), (Instr.makeFunc fn first cap).run Tryz.prog w = .ok (.func fn first cap) w := fun _ _ _ _ => rfl
  obtain ⟨A1, m1, g1, t1, c1⟩ := hM.box #[.pointer (some ⟨mb, 0, none⟩)] 103
  obtain ⟨A2, m2, g2, t2, c2⟩ := m1.box #[.int .i64 0] 3
  have hz1 : (w.alloc (.cells #[.pointer (some ⟨mb, 0, none⟩)] 103)).heap.size = w.heap.size + 1 := by simp
  rw [hz1] at t2
  have b1 : ((w.alloc (.cells #[.pointer (some ⟨mb, 0, none⟩)] 103)).alloc (.cells #[.int .i64 0] 3)).heap[w.heap.size]? = some (.cells #[.pointer (some ⟨mb, 0, none⟩)] 103 (0, 0)) := (Below.heap_alloc _ _ _ (by simp)).trans (Go.Deep.blk_alloc_new _ _)
  have b2 : ((w.alloc (.cells #[.pointer (some ⟨mb, 0, none⟩)] 103)).alloc (.cells #[.int .i64 0] 3)).heap[w.heap.size + 1]? = some (.cells #[.int .i64 0] 3 (0, 0)) := by
    have := Go.Deep.blk_alloc_new (w.alloc (.cells #[.pointer (some ⟨mb, 0, none⟩)] 103)) (.cells #[.int .i64 0] 3)
    rw [hz1] at this
    exact this
  have t1' : A2.tag w.heap.size = 5 := (c2.tags _ (by omega)).trans t1
  have ev2 : A2.g.ev = .slice none 0 0 := by rw [g2, g1]; exact hev
  have HI := hid (And.intro m2 (And.intro (SameG.of (g2.trans g1)) (And.intro t1' (And.intro t2 (And.intro (c1.trans c2) (And.intro b1 (And.intro b2 ev2)))))))
  have HG := hid (And.intro hF (And.intro hR (And.intro hM.le hev)))
  clear hM m1 g1 t1 c1 m2 g2 t2 c2 b1 b2 t1' ev2 hz1 hF hR hev
  go_enter_defers Tryz.func68, Tryz.ntmps68
  go_wp2_with fail
  obtain ⟨m2, s2, t1, t2, c2, b1, b2, ev2⟩ := HI.out
  clear HI
  generalize (w.alloc (.cells #[.pointer (some ⟨mb, 0, none⟩)] 103)).alloc (.cells #[.int .i64 0] 3) = W at *
  have x1 : W.cell? ⟨mb, 1, none⟩ = some (.slice none 0 0) := by rw [cell_heap m2.lay.run, ← ev2]; rfl
  have HX := hid (And.intro m2 (And.intro s2 (And.intro t1 (And.intro t2 (And.intro c2 (And.intro b1 (And.intro b2 ev2)))))))
  clear m2 s2 t1 t2 c2 b1 b2 ev2
  refine (meetM W mb x1).mono ?_
  rintro e w1 ⟨rfl, k1⟩
  have H1 : Hid (RunAtM w B mb m F A S fuel fuel w1) := by
    obtain ⟨m2, s2, t1, t2, c2, b1, b2, _⟩ := HX.out
    exact RunAtM.below ⟨0, by omega, HG.out.2.1.first, A2, m2, s2, t1, t2, c2, b1, b2⟩ k1
  clear k1 x1 HX
  go_wp2
  go_loopg [] fuel (fun gk wr => RunAtM w B mb m F A S fuel gk wr)
  case atStart => exact H1.out
  case round =>
    have HRel := hid hrel
    obtain ⟨j, hj, hz, A1, m1, s1, t1, t2, c1, b1, b2⟩ := hrel
    obtain ⟨hF, hR, hB, hev⟩ := HG.out
    obtain ⟨hI, h16, hsj, hoj, haj, hnx⟩ := hR.go j hz
    have x7 : wr.cell? ⟨mb, 7, none⟩ = some (.int .i64 j) := by rw [cell_heap m1.lay.run]; show some (Value.int .i64 ((S j).steps : Int)) = _; rw [hsj]
    have y0 : wr.cell? ⟨w.heap.size, 0, none⟩ = some (.pointer (some ⟨mb, 0, none⟩)) := (cell_heap b1).trans rfl
    by_cases hjf : j < fuel
    · have hd : decide ((j : Int) < (fuel : Int)) = true := by simp; omega
      have HGo := hid (goOnM m1 hF hI h16 hz (by omega) (by omega) (by omega) (fuel : Int))
      have hsf := step_facts (F := F) hz hI.some
      have hT : ∃ rest : List Fr, rest.length + 1 ≤ 24 ∧ (3 ≤ (stepP F (S j)).fin → ∃ f', (stepP F (S j)).fr = f' :: rest) := by
        obtain ⟨f, rest, hs, _, _, hn⟩ := hI.top
        exact ⟨rest, hn, fun h3 => trap_len hs hz h3⟩
      have HT := hid (And.intro hT hsf)
      clear hT hsf
      have HX := hid (And.intro s1 (And.intro t1 (And.intro t2 (And.intro c1 (And.intro b1 (And.intro b2 (And.intro hnx (And.intro hsj (And.intro hz hj)))))))))
      clear m1 s1 t1 t2 c1 b1 b2 hF hR hev hI h16 hsj hoj haj hnx hz hj HRel
      go_wp2_with fail
      refine HGo.out.mono ?_
      rintro e w2 (⟨k1, rfl, A2', m2, s2, c2, f2⟩ | ⟨k1, rfl, A2', m2, s2, c2, f2⟩)
      · obtain ⟨s1, t1, t2, c1, b1, b2, hnx, hsj, hz, hj⟩ := HX.out
        obtain ⟨⟨rest, hn24, htl⟩, hsf⟩ := HT.out
        obtain ⟨f', hf'⟩ := htl k1
        obtain ⟨b1', t1'⟩ := blk_keep b1 c2 (by rw [t1]; exact n55)
        obtain ⟨b2', t2'⟩ := blk_keep b2 c2 (by rw [t2]; exact n55)
        have hct := catchTrap m2 hf' (by omega) (by show (S j).steps ≤ _; omega) (w.heap.size + 1) w.heap.size (stepP F (S j)).fin 0 b2' b1' (by omega) (by omega) (t2'.trans t2) (t1'.trans t1)
        have hfin : (S (j + 1)).fin ≠ 0 := by rw [hnx]; omega
        have hlast : S fuel = stepP F (S j) := (HG.out.2.1.stay (j + 1) fuel hfin (by omega)).trans hnx
        have hend : endP (S fuel) = (stepP F (S j)).fin := by unfold endP; rw [hlast, if_neg (by omega)]
        have hcw : Ch B (fun _ => True) A.tag A2'.tag w w2 := (c1.mono (fun _ _ => trivial)).trans (c2.mono (fun _ _ => trivial))
        have HQ := hid (And.intro hct (And.intro hend (And.intro (s1.trans s2) (And.intro hcw (And.intro hlast (And.intro hsf hsj))))))
        clear HGo HX HT s1 t1 t2 c1 b1 b2 hnx hsj hz hj htl hn24 hsf hf' b1' t1' b2' t2' hct hfin hlast hend hcw m2 s2 c2 f2
        refine leaves_cons (f := 87) (args := #[.pointer (some ⟨w.heap.size + 1, 0, none⟩), .pointer (some ⟨w.heap.size, 0, none⟩)]) (by simp) (by simp [go_sem]) ?_
        refine HQ.out.1.mono ?_
        rintro e u' w'' ⟨rfl, rfl, ⟨A9, m9, s9, c9⟩, yr⟩
        obtain ⟨_, hend, hs12, hcw, hlast, hsf, hsj⟩ := HQ.out
        have hfinal : ∃ A' : AdM, MSt w'' B mb m F A' (S fuel) 0 ∧ SameG A A' ∧ Ch B (fun _ => True) A.tag A'.tag w w'' := by
          rw [hlast]
          exact ⟨A9, ⟨m9.lay.like rfl rfl rfl rfl hsf.steps, m9.low, m9.made, m9.pg, m9.le⟩, hs12.trans s9, hcw.trans c9⟩
        clear m9 s9 c9 hs12 hcw hlast hsf hsj HQ
        simp [Leaves, settle, results, Tryz.results68, go_sem, yr, hend]
        exact hfinal
      · obtain ⟨s1, t1, t2, c1, b1, b2, hnx, hsj, hz, hj⟩ := HX.out
        obtain ⟨b1', t1'⟩ := blk_keep b1 c2 (by rw [t1]; exact n55)
        obtain ⟨b2', t2'⟩ := blk_keep b2 c2 (by rw [t2]; exact n55)
        rw [← hnx] at m2 k1
        obtain ⟨fp, fcap, hfv, _⟩ := m2.lay.fr.any
        have x3 : w2.cell? ⟨mb, 3, none⟩ = some (.slice fp (S (j + 1)).fr.length fcap) := by rw [cell_heap m2.lay.run, ← hfv]; rfl
        have y0' : w2.cell? ⟨w.heap.size, 0, none⟩ = some (.pointer (some ⟨mb, 0, none⟩)) := (cell_heap b1').trans rfl
        have ev2 : w2.cell? ⟨mb, 1, none⟩ = some (.slice none 0 0) := by
          rw [cell_heap m2.lay.run]
          show some A2'.g.ev = _
          rw [s2.ev, s1.ev, HG.out.2.2.2]
        have hcN : Ch B N5 A.tag A2'.tag w w2 := c1.trans c2
        by_cases hz1 : (S (j + 1)).fin = 0
        · have hfr1 : (S (j + 1)).fr.length ≠ 0 := fun e => by
            have := (HG.out.2.1.fr (j + 1)).1 (List.length_eq_zero_iff.1 e)
            omega
          have HY : Hid (∀ X, Below w2.heap.size w2 X → RunAtM w B mb m F A S fuel (gk - 1) X) := fun X hX => RunAtM.below ⟨j + 1, by omega, hz1, A2', m2, s1.trans s2, t1'.trans t1, t2'.trans t2, hcN, b1', b2'⟩ hX
          have hgk : gk - 1 < gk := by omega
          generalize (S (j + 1)).fr.length = fl at *
          have hne2 : ((fl : Int) == 0) = false := by simp; omega
          clear m2 s2 c2 f2 s1 t1 t2 c1 b1 b2 hnx hsj hz hj b1' t1' b2' t2' hfv hcN k1 hz1 HGo HX HT
          go_wp2_with fail
          refine (lenF w2 mb 3 fl fcap fp x3).mono ?_
          rintro e w6 ⟨rfl, hw6⟩
          rw [hw6]
          clear hw6 w6
          go_wp2_with fail
          refine (meetM w2 mb ev2).mono ?_
          rintro e w3 ⟨rfl, k3⟩
          have HY3 := hid (HY.out w3 k3)
          clear k3
          go_wp2
          go_roundg (gk - 1)
          case measure => exact hgk
          case rel => exact HY3.out
        · have hf1 : (S (j + 1)).fin = 1 := by have := HG.out.2.1.fin (j + 1); omega
          have hfr0 : (S (j + 1)).fr.length = 0 := by rw [(HG.out.2.1.fr (j + 1)).2 hf1]; rfl
          rw [hfr0] at x3
          have hlast : S fuel = S (j + 1) := HG.out.2.1.stay (j + 1) fuel (by omega) (by omega)
          have hend : endP (S fuel) = 1 := by unfold endP; rw [hlast, if_neg (by omega)]; exact hf1
          have y2 : w2.cell? ⟨w.heap.size + 1, 0, none⟩ = some (.int .i64 0) := (cell_heap b2').trans rfl
          have z2 : w2.frozen? ⟨w.heap.size + 1, 0, none⟩ = false := frozen_heap b2'
          have c5 : Ch B (fun d => d = 5) A2'.tag A2'.tag w2 (w2.setCell ⟨w.heap.size + 1, 0, none⟩ (.int .i64 1)) := Ch.set w2 _ _ _ (by omega) (t2'.trans t2)
          have m5 : MSt (w2.setCell ⟨w.heap.size + 1, 0, none⟩ (.int .i64 1)) B mb m F A2' (S fuel) 0 := by
            rw [hlast]
            exact ⟨m2.lay.keep5 c5, m2.low, m2.made.keep c5 (by omega), m2.pg.below (c5.below m2.le), by simp [World.setCell]; exact m2.le⟩
          have yr : (w2.setCell ⟨w.heap.size + 1, 0, none⟩ (.int .i64 1)).cell? ⟨w.heap.size + 1, 0, none⟩ = some (.int .i64 1) := by rw [cell_heap (heap_set b2' _)]; rfl
          have HQ := hid (And.intro m5 (And.intro (s1.trans s2) (And.intro ((hcN.mono (fun _ _ => trivial)).trans (c5.mono (q := fun _ => True) (fun _ _ => trivial))) hend)))
          have YR := hid yr
          clear m2 s2 c2 f2 s1 t1 t2 c1 b1 b2 hnx hsj hz hj b1' t1' b2' t2' hfv hcN k1 hz1 HGo HX HT m5 c5 yr hend hlast hf1 hfr0 ev2
          go_wp2_with fail
          refine (lenF w2 mb 3 0 fcap fp x3).mono ?_
          rintro e w6 ⟨rfl, hw6⟩
          rw [hw6]
          clear hw6 w6
          go_wp2
          refine leaves_cons (f := 87) (args := #[.pointer (some ⟨w.heap.size + 1, 0, none⟩), .pointer (some ⟨w.heap.size, 0, none⟩)]) (by simp) (by simp [go_sem]) ?_
          refine (catchIdle ⟨w.heap.size + 1, 0, none⟩ ⟨w.heap.size, 0, none⟩ _).mono ?_
          rintro e u' w'' ⟨rfl, rfl, rfl⟩
          have yr := YR.out
          have hend := HQ.out.2.2.2
          simp [Leaves, settle, results, Tryz.results68, go_sem, yr, hend]
          exact ⟨_, HQ.out.1, HQ.out.2.1, HQ.out.2.2.1⟩
    · obtain rfl : j = fuel := by omega
      have hd : decide ((j : Int) < (j : Int)) = false := by simp
      have y2 : wr.cell? ⟨w.heap.size + 1, 0, none⟩ = some (.int .i64 0) := (cell_heap b2).trans rfl
      have z2 : wr.frozen? ⟨w.heap.size + 1, 0, none⟩ = false := frozen_heap b2
      have c5 : Ch B (fun d => d = 5) A1.tag A1.tag wr (wr.setCell ⟨w.heap.size + 1, 0, none⟩ (.int .i64 2)) := Ch.set wr _ _ _ (by omega) t2
      have m5 : MSt (wr.setCell ⟨w.heap.size + 1, 0, none⟩ (.int .i64 2)) B mb m F A1 (S j) 0 := ⟨m1.lay.keep5 c5, m1.low, m1.made.keep c5 (by omega), m1.pg.below (c5.below m1.le), by simp [World.setCell]; exact m1.le⟩
      have yr : (wr.setCell ⟨w.heap.size + 1, 0, none⟩ (.int .i64 2)).cell? ⟨w.heap.size + 1, 0, none⟩ = some (.int .i64 2) := by rw [cell_heap (heap_set b2 _)]; rfl
      have hend : endP (S j) = 2 := by unfold endP; rw [if_pos hz]
      have HQ := hid (And.intro m5 (And.intro s1 (And.intro ((c1.mono (fun _ _ => trivial)).trans (c5.mono (q := fun _ => True) (fun _ _ => trivial))) hend)))
      have YR := hid yr
      clear m1 s1 t1 t2 c1 b1 b2 hF hR hev hI h16 hsj hoj haj hnx hz hj m5 c5 yr hend HRel
      go_wp2
      refine leaves_cons (f := 87) (args := #[.pointer (some ⟨w.heap.size + 1, 0, none⟩), .pointer (some ⟨w.heap.size, 0, none⟩)]) (by simp) (by simp [go_sem]) ?_
      refine (catchIdle ⟨w.heap.size + 1, 0, none⟩ ⟨w.heap.size, 0, none⟩ _).mono ?_
      rintro e u' w'' ⟨rfl, rfl, rfl⟩
      have yr := YR.out
      have hend := HQ.out.2.2.2
      simp [Leaves, settle, results, Tryz.results68, go_sem, yr, hend]
      exact ⟨_, HQ.out.1, HQ.out.2.1, HQ.out.2.2.1⟩
end Go.Proofs.YtkafkipjedpohaaGreatDoor
