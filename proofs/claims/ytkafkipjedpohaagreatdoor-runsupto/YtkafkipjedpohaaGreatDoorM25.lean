import Derived.Test.YtkafkipjedpohaaGreatDoorM22
import Derived.Test.YtkafkipjedpohaaGreatDoorPureA
import Derived.Test.YtkafkipjedpohaaGreatDoorM16
import Derived.Test.YtkafkipjedpohaaGreatDoorC1

/-
  The project's machine: run.
-/
namespace Go.Proofs.YtkafkipjedpohaaGreatDoor
open Go.RowKit

/-- How a run that has done its steps has ended. -/
def endP (s : Mc) : Int := if s.fin = 0 then 2 else s.fin

/-- Where run stands at the head of its loop. -/
def RunAtM (w : World) (B mb m : Nat) (F : Nat → PF) (A : AdM) (S : Nat → Mc) (fuel gk : Nat) (wr : World) : Prop :=
  ∃ j, j + gk = fuel ∧ (S j).fin = 0 ∧ ∃ A1 : AdM, MSt wr B mb m F A1 (S j) 0 ∧ SameG A A1 ∧ A1.tag w.heap.size = 5 ∧ A1.tag (w.heap.size + 1) = 5 ∧ Ch B N5 A.tag A1.tag w wr ∧ wr.heap[w.heap.size]? = some (.cells #[.pointer (some ⟨mb, 0, none⟩)] 103 (0, 0)) ∧ wr.heap[w.heap.size + 1]? = some (.cells #[.int .i64 0] 3 (0, 0))

theorem RunAtM.below {w : World} {B mb m : Nat} {F : Nat → PF} {A : AdM} {S : Nat → Mc} {fuel gk : Nat} {wr wx : World} (h : RunAtM w B mb m F A S fuel gk wr) (k : Below wr.heap.size wr wx) : RunAtM w B mb m F A S fuel gk wx := by
  obtain ⟨j, h1, h2, A1, m1, s1, t1, t2, c1, b1, b2⟩ := h
  exact ⟨j, h1, h2, A1, m1.below k, s1, t1, t2, c1.trans' k, (k.block _ (heap_lt b1)).trans b1, (k.block _ (heap_lt b2)).trans b2⟩

set_option maxRecDepth 100000 in
set_option maxHeartbeats 2000000 in
theorem runM {w : World} {B mb m : Nat} {F : Nat → PF} {K : Nat → Nat → Bool} {H : Nat → Nat → Int} {A : AdM} {S : Nat → Mc} (hM : MSt w B mb m F A (S 0) 0) (hev : A.g.ev = .slice none 0 0) (hF : Fine m F K H) (hR : Road m F K H S) (fuel : Nat) (hfu : fuel ≤ 100000) :
    Calls Tryz.prog 68 #[.pointer (some ⟨mb, 0, none⟩), .int .i64 fuel] w fun e w' => e = .returned (.int .i64 (endP (S fuel))) ∧
      ∃ A' : AdM, MSt w' B mb m F A' (S fuel) 0 ∧ SameG A A' ∧ Ch B (fun _ => True) A.tag A'.tag w w' := by
  have hmf : ∀ (fn : Fn) (first cap : Array Value) (w : World), (Instr.makeFunc fn first cap).run Tryz.prog w = .ok (.func fn first cap) w := fun _ _ _ _ => rfl
  obtain ⟨A1, m1, g1, t1, c1⟩ := hM.box #[.pointer (some ⟨mb, 0, none⟩)] 103
  obtain ⟨A2, m2, g2, t2, c2⟩ := m1.box #[.int .i64 0] 3
  have hz1 : (w.alloc (.cells #[.pointer (some ⟨mb, 0, none⟩)] 103)).heap.size = w.heap.size + 1 := by simp
  rw [hz1] at t2
  have b1 : ((w.alloc (.cells #[.pointer (some ⟨mb, 0, none⟩)] 103)).alloc (.cells #[.int .i64 0] 3)).heap[w.heap.size]? = some (.cells #[.pointer (some ⟨mb, 0, none⟩)] 103 (0, 0)) := (Below.heap_alloc _ _ _ (by simp)).trans (Go.Deep.blk_alloc_new _ _)
  have b2 : ((w.alloc (.cells #[.pointer (some ⟨mb, 0, none⟩)] 103)).alloc (.cells #[.int .i64 0] 3)).heap[w.heap.size + 1]? = some (.cells #[.int .i64 0] 3 (0, 0)) := by
    have := Go.Deep.blk_alloc_new (w.alloc (.cells #[.pointer (some ⟨mb, 0, none⟩)] 103)) (.cells #[.int .i64 0] 3)
    rw [hz1] at this
    exact this
  have t1' : A2.tag w.heap.size = 5 := (c2.tags _ (by omega)).trans t1
  have ev2 : A2.g.ev = .slice none 0 0 := by rw [g2, g1]; exact hev
  have HI := hid (And.intro m2 (And.intro (SameG.of (g2.trans g1)) (And.intro t1' (And.intro t2 (And.intro (c1.trans c2) (And.intro b1 (And.intro b2 ev2)))))))
  have HG := hid (And.intro hF (And.intro hR (And.intro hM.le hev)))
  clear hM m1 g1 t1 c1 m2 g2 t2 c2 b1 b2 t1' ev2 hz1 hF hR hev
  go_enter_defers Tryz.func68, Tryz.ntmps68
  go_wp2_with fail
  obtain ⟨m2, s2, t1, t2, c2, b1, b2, ev2⟩ := HI.out
  clear HI
  generalize (w.alloc (.cells #[.pointer (some ⟨mb, 0, none⟩)] 103)).alloc (.cells #[.int .i64 0] 3) = W at *
  have x1 : W.cell? ⟨mb, 1, none⟩ = some (.slice none 0 0) := by rw [cell_heap m2.lay.run, ← ev2]; rfl
  have HX := hid (And.intro m2 (And.intro s2 (And.intro t1 (And.intro t2 (And.intro c2 (And.intro b1 (And.intro b2 ev2)))))))
  clear m2 s2 t1 t2 c2 b1 b2 ev2
  refine (meetM W mb x1).mono ?_
  rintro e w1 ⟨rfl, k1⟩
  have H1 : Hid (RunAtM w B mb m F A S fuel fuel w1) := by
    obtain ⟨m2, s2, t1, t2, c2, b1, b2, _⟩ := HX.out
    exact RunAtM.below ⟨0, by omega, HG.out.2.1.first, A2, m2, s2, t1, t2, c2, b1, b2⟩ k1
  clear k1 x1 HX
  go_wp2
  go_loopg [] fuel (fun gk wr => RunAtM w B mb m F A S fuel gk wr)
  case atStart => exact H1.out
  case round =>
    have HRel := hid hrel
    obtain ⟨j, hj, hz, A1, m1, s1, t1, t2, c1, b1, b2⟩ := hrel
    obtain ⟨hF, hR, hB, hev⟩ := HG.out
    obtain ⟨hI, h16, hsj, hoj, haj, hnx⟩ := hR.go j hz
    have x7 : wr.cell? ⟨mb, 7, none⟩ = some (.int .i64 j) := by rw [cell_heap m1.lay.run]; show some (Value.int .i64 ((S j).steps : Int)) = _; rw [hsj]
    have y0 : wr.cell? ⟨w.heap.size, 0, none⟩ = some (.pointer (some ⟨mb, 0, none⟩)) := (cell_heap b1).trans rfl
    by_cases hjf : j < fuel
    · have hd : decide ((j : Int) < (fuel : Int)) = true := by simp; omega
      have HGo := hid (goOnM m1 hF hI h16 hz (by omega) (by omega) (by omega) (fuel : Int))
      have hsf := step_facts (F := F) hz hI.some
      have hT : ∃ rest : List Fr, rest.length + 1 ≤ 24 ∧ (3 ≤ (stepP F (S j)).fin → ∃ f', (stepP F (S j)).fr = f' :: rest) := by
        obtain ⟨f, rest, hs, _, _, hn⟩ := hI.top
        exact ⟨rest, hn, fun h3 => trap_len hs hz h3⟩
      have HT := hid (And.intro hT hsf)
      clear hT hsf
      have HX := hid (And.intro s1 (And.intro t1 (And.intro t2 (And.intro c1 (And.intro b1 (And.intro b2 (And.intro hnx (And.intro hsj (And.intro hz hj)))))))))
      clear m1 s1 t1 t2 c1 b1 b2 hF hR hev hI h16 hsj hoj haj hnx hz hj HRel
      go_wp2_with fail
      refine HGo.out.mono ?_
      rintro e w2 (⟨k1, rfl, A2', m2, s2, c2, f2⟩ | ⟨k1, rfl, A2', m2, s2, c2, f2⟩)
      · obtain ⟨s1, t1, t2, c1, b1, b2, hnx, hsj, hz, hj⟩ := HX.out
        obtain ⟨⟨rest, hn24, htl⟩, hsf⟩ := HT.out
        obtain ⟨f', hf'⟩ := htl k1
        obtain ⟨b1', t1'⟩ := blk_keep b1 c2 (by rw [t1]; exact n55)
        obtain ⟨b2', t2'⟩ := blk_keep b2 c2 (by rw [t2]; exact n55)
        have hct := catchTrap m2 hf' (by omega) (by show (S j).steps ≤ _; omega) (w.heap.size + 1) w.heap.size (stepP F (S j)).fin 0 b2' b1' (by omega) (by omega) (t2'.trans t2) (t1'.trans t1)
        have hfin : (S (j + 1)).fin ≠ 0 := by rw [hnx]; omega
        have hlast : S fuel = stepP F (S j) := (HG.out.2.1.stay (j + 1) fuel hfin (by omega)).trans hnx
        have hend : endP (S fuel) = (stepP F (S j)).fin := by unfold endP; rw [hlast, if_neg (by omega)]
        have hcw : Ch B (fun _ => True) A.tag A2'.tag w w2 := (c1.mono (fun _ _ => trivial)).trans (c2.mono (fun _ _ => trivial))
        have HQ := hid (And.intro hct (And.intro hend (And.intro (s1.trans s2) (And.intro hcw (And.intro hlast (And.intro hsf hsj))))))
        clear HGo HX HT s1 t1 t2 c1 b1 b2 hnx hsj hz hj htl hn24 hsf hf' b1' t1' b2' t2' hct hfin hlast hend hcw m2 s2 c2 f2
        refine leaves_cons (f := 87) (args := #[.pointer (some ⟨w.heap.size + 1, 0, none⟩), .pointer (some ⟨w.heap.size, 0, none⟩)]) (by simp) (by simp [go_sem]) ?_
        refine HQ.out.1.mono ?_
        rintro e u' w'' ⟨rfl, rfl, ⟨A9, m9, s9, c9⟩, yr⟩
        obtain ⟨_, hend, hs12, hcw, hlast, hsf, hsj⟩ := HQ.out
        have hfinal : ∃ A' : AdM, MSt w'' B mb m F A' (S fuel) 0 ∧ SameG A A' ∧ Ch B (fun _ => True) A.tag A'.tag w w'' := by
          rw [hlast]
          exact ⟨A9, ⟨m9.lay.like rfl rfl rfl rfl hsf.steps, m9.low, m9.made, m9.pg, m9.le⟩, hs12.trans s9, hcw.trans c9⟩
        clear m9 s9 c9 hs12 hcw hlast hsf hsj HQ
        simp [Leaves, settle, results, Tryz.results68, go_sem, yr, hend]
        exact hfinal
      · obtain ⟨s1, t1, t2, c1, b1, b2, hnx, hsj, hz, hj⟩ := HX.out
        obtain ⟨b1', t1'⟩ := blk_keep b1 c2 (by rw [t1]; exact n55)
        obtain ⟨b2', t2'⟩ := blk_keep b2 c2 (by rw [t2]; exact n55)
        rw [← hnx] at m2 k1
        obtain ⟨fp, fcap, hfv, _⟩ := m2.lay.fr.any
        have x3 : w2.cell? ⟨mb, 3, none⟩ = some (.slice fp (S (j + 1)).fr.length fcap) := by rw [cell_heap m2.lay.run, ← hfv]; rfl
        have y0' : w2.cell? ⟨w.heap.size, 0, none⟩ = some (.pointer (some ⟨mb, 0, none⟩)) := (cell_heap b1').trans rfl
        have ev2 : w2.cell? ⟨mb, 1, none⟩ = some (.slice none 0 0) := by
          rw [cell_heap m2.lay.run]
          show some A2'.g.ev = _
          rw [s2.ev, s1.ev, HG.out.2.2.2]
        have hcN : Ch B N5 A.tag A2'.tag w w2 := c1.trans c2
        by_cases hz1 : (S (j + 1)).fin = 0
        · have hfr1 : (S (j + 1)).fr.length ≠ 0 := fun e => by
            have := (HG.out.2.1.fr (j + 1)).1 (List.length_eq_zero_iff.1 e)
            omega
          have HY : Hid (∀ X, Below w2.heap.size w2 X → RunAtM w B mb m F A S fuel (gk - 1) X) := fun X hX => RunAtM.below ⟨j + 1, by omega, hz1, A2', m2, s1.trans s2, t1'.trans t1, t2'.trans t2, hcN, b1', b2'⟩ hX
          have hgk : gk - 1 < gk := by omega
          generalize (S (j + 1)).fr.length = fl at *
          have hne2 : ((fl : Int) == 0) = false := by simp; omega
          clear m2 s2 c2 f2 s1 t1 t2 c1 b1 b2 hnx hsj hz hj b1' t1' b2' t2' hfv hcN k1 hz1 HGo HX HT
          go_wp2_with fail
          refine (lenF w2 mb 3 fl fcap fp x3).mono ?_
          rintro e w6 ⟨rfl, hw6⟩
          rw [hw6]
          clear hw6 w6
          go_wp2_with fail
          refine (meetM w2 mb ev2).mono ?_
          rintro e w3 ⟨rfl, k3⟩
          have HY3 := hid (HY.out w3 k3)
          clear k3
          go_wp2
          go_roundg (gk - 1)
          case measure => exact hgk
          case rel => exact HY3.out
        · have hf1 : (S (j + 1)).fin = 1 := by have := HG.out.2.1.fin (j + 1); omega
          have hfr0 : (S (j + 1)).fr.length = 0 := by rw [(HG.out.2.1.fr (j + 1)).2 hf1]; rfl
          rw [hfr0] at x3
          have hlast : S fuel = S (j + 1) := HG.out.2.1.stay (j + 1) fuel (by omega) (by omega)
          have hend : endP (S fuel) = 1 := by unfold endP; rw [hlast, if_neg (by omega)]; exact hf1
          have y2 : w2.cell? ⟨w.heap.size + 1, 0, none⟩ = some (.int .i64 0) := (cell_heap b2').trans rfl
          have z2 : w2.frozen? ⟨w.heap.size + 1, 0, none⟩ = false := frozen_heap b2'
          have c5 : Ch B (fun d => d = 5) A2'.tag A2'.tag w2 (w2.setCell ⟨w.heap.size + 1, 0, none⟩ (.int .i64 1)) := Ch.set w2 _ _ _ (by omega) (t2'.trans t2)
          have m5 : MSt (w2.setCell ⟨w.heap.size + 1, 0, none⟩ (.int .i64 1)) B mb m F A2' (S fuel) 0 := by
            rw [hlast]
            exact ⟨m2.lay.keep5 c5, m2.low, m2.made.keep c5 (by omega), m2.pg.below (c5.below m2.le), by simp [World.setCell]; exact m2.le⟩
          have yr : (w2.setCell ⟨w.heap.size + 1, 0, none⟩ (.int .i64 1)).cell? ⟨w.heap.size + 1, 0, none⟩ = some (.int .i64 1) := by rw [cell_heap (heap_set b2' _)]; rfl
          have HQ := hid (And.intro m5 (And.intro (s1.trans s2) (And.intro ((hcN.mono (fun _ _ => trivial)).trans (c5.mono (q := fun _ => True) (fun _ _ => trivial))) hend)))
          have YR := hid yr
          clear m2 s2 c2 f2 s1 t1 t2 c1 b1 b2 hnx hsj hz hj b1' t1' b2' t2' hfv hcN k1 hz1 HGo HX HT m5 c5 yr hend hlast hf1 hfr0 ev2
          go_wp2_with fail
          refine (lenF w2 mb 3 0 fcap fp x3).mono ?_
          rintro e w6 ⟨rfl, hw6⟩
          rw [hw6]
          clear hw6 w6
          go_wp2
          refine leaves_cons (f := 87) (args := #[.pointer (some ⟨w.heap.size + 1, 0, none⟩), .pointer (some ⟨w.heap.size, 0, none⟩)]) (by simp) (by simp [go_sem]) ?_
          refine (catchIdle ⟨w.heap.size + 1, 0, none⟩ ⟨w.heap.size, 0, none⟩ _).mono ?_
          rintro e u' w'' ⟨rfl, rfl, rfl⟩
          have yr := YR.out
          have hend := HQ.out.2.2.2
          simp [Leaves, settle, results, Tryz.results68, go_sem, yr, hend]
          exact ⟨_, HQ.out.1, HQ.out.2.1, HQ.out.2.2.1⟩
    · obtain rfl : j = fuel := by omega
      have hd : decide ((j : Int) < (j : Int)) = false := by simp
      have y2 : wr.cell? ⟨w.heap.size + 1, 0, none⟩ = some (.int .i64 0) := (cell_heap b2).trans rfl
      have z2 : wr.frozen? ⟨w.heap.size + 1, 0, none⟩ = false := frozen_heap b2
      have c5 : Ch B (fun d => d = 5) A1.tag A1.tag wr (wr.setCell ⟨w.heap.size + 1, 0, none⟩ (.int .i64 2)) := Ch.set wr _ _ _ (by omega) t2
      have m5 : MSt (wr.setCell ⟨w.heap.size + 1, 0, none⟩ (.int .i64 2)) B mb m F A1 (S j) 0 := ⟨m1.lay.keep5 c5, m1.low, m1.made.keep c5 (by omega), m1.pg.below (c5.below m1.le), by simp [World.setCell]; exact m1.le⟩
      have yr : (wr.setCell ⟨w.heap.size + 1, 0, none⟩ (.int .i64 2)).cell? ⟨w.heap.size + 1, 0, none⟩ = some (.int .i64 2) := by rw [cell_heap (heap_set b2 _)]; rfl
      have hend : endP (S j) = 2 := by unfold endP; rw [if_pos hz]
      have HQ := hid (And.intro m5 (And.intro s1 (And.intro ((c1.mono (fun _ _ => trivial)).trans (c5.mono (q := fun _ => True) (fun _ _ => trivial))) hend)))
      have YR := hid yr
      clear m1 s1 t1 t2 c1 b1 b2 hF hR hev hI h16 hsj hoj haj hnx hz hj m5 c5 yr hend HRel
      go_wp2
      refine leaves_cons (f := 87) (args := #[.pointer (some ⟨w.heap.size + 1, 0, none⟩), .pointer (some ⟨w.heap.size, 0, none⟩)]) (by simp) (by simp [go_sem]) ?_
      refine (catchIdle ⟨w.heap.size + 1, 0, none⟩ ⟨w.heap.size, 0, none⟩ _).mono ?_
      rintro e u' w'' ⟨rfl, rfl, rfl⟩
      have yr := YR.out
      have hend := HQ.out.2.2.2
      simp [Leaves, settle, results, Tryz.results68, go_sem, yr, hend]
      exact ⟨_, HQ.out.1, HQ.out.2.1, HQ.out.2.2.1⟩
end Go.Proofs.YtkafkipjedpohaaGreatDoor

/-
  The project's machine: Shift without events, Run.
-/
namespace Go.Proofs.YtkafkipjedpohaaGreatDoor
open Go.RowKit

/-- Ahead of its first frame. -/
def mc0 : Mc := ⟨[], [], [], vnil, 0, 0, [], fun _ => false, 0, 0, 0⟩

theorem Tryz.infoStretches : (Tryz.prog.info? 136).map (fun i => (i.zero, i.size, i.bytes)) = some (some (.slice none 0 0), 1, 24) := by kernel_rfl

def nilArr (n : Nat) : Array Value := madeCells #[.slice none 0 0] (n * 1)
theorem make_made (n : Nat) (hn : n ≤ 1000) (wx : World) : (Instr.makeSlice 125 (.int .i64 n) (.int .i64 n)).run Tryz.prog wx = .ok (.slice (some ⟨wx.heap.size, 0, none⟩) n n) (wx.alloc (.cells (nilArr n) 136)) :=
  run_make_rows (P := Tryz.prog) 125 136 _ _ 1 24 Tryz.underlying125 Tryz.infoStretches rfl .i64 .i64 n (by omega) (by omega) wx

/-- A machine that has no frame yet. -/
theorem MSt.fresh (w : World) (m : Nat) (F : Nat → PF) (pv : Value) (hm : m ≤ 1000) (hPg : Pg w w.heap.size pv m F) :
    ∃ A : AdM, MSt ((w.alloc (.cells (nilArr m) 136)).alloc (.cells #[pv, .slice none 0 0, .slice (some ⟨w.heap.size, 0, none⟩) m m, .slice none 0 0, .slice none 0 0, .int .i64 0, .slice none 0 0, .int .i64 0, .int .i64 0, .int .i64 0, .int .i64 0, .int .i64 0, .int .i64 0, .int .i64 0] 130)) w.heap.size (w.heap.size + 1) m F A mc0 0 ∧ A.g.ev = .slice none 0 0 := by
  have hbl : Below w.heap.size w ((w.alloc (.cells (nilArr m) 136)).alloc (.cells #[pv, .slice none 0 0, .slice (some ⟨w.heap.size, 0, none⟩) m m, .slice none 0 0, .slice none 0 0, .int .i64 0, .slice none 0 0, .int .i64 0, .int .i64 0, .int .i64 0, .int .i64 0, .int .i64 0, .int .i64 0, .int .i64 0] 130)) := ((Below.refl _ _).alloc (Nat.le_refl _) _).alloc (by simp) _
  have hrun : ((w.alloc (.cells (nilArr m) 136)).alloc (.cells #[pv, .slice none 0 0, .slice (some ⟨w.heap.size, 0, none⟩) m m, .slice none 0 0, .slice none 0 0, .int .i64 0, .slice none 0 0, .int .i64 0, .int .i64 0, .int .i64 0, .int .i64 0, .int .i64 0, .int .i64 0, .int .i64 0] 130)).heap[w.heap.size + 1]? = some (.cells #[pv, .slice none 0 0, .slice (some ⟨w.heap.size, 0, none⟩) m m, .slice none 0 0, .slice none 0 0, .int .i64 0, .slice none 0 0, .int .i64 0, .int .i64 0, .int .i64 0, .int .i64 0, .int .i64 0, .int .i64 0, .int .i64 0] 130 (0, 0)) := by
    have := Go.Deep.blk_alloc_new (w.alloc (.cells (nilArr m) 136)) (.cells #[pv, .slice none 0 0, .slice (some ⟨w.heap.size, 0, none⟩) m m, .slice none 0 0, .slice none 0 0, .int .i64 0, .slice none 0 0, .int .i64 0, .int .i64 0, .int .i64 0, .int .i64 0, .int .i64 0, .int .i64 0, .int .i64 0] 130)
    simpa using this
  have hmade : ((w.alloc (.cells (nilArr m) 136)).alloc (.cells #[pv, .slice none 0 0, .slice (some ⟨w.heap.size, 0, none⟩) m m, .slice none 0 0, .slice none 0 0, .int .i64 0, .slice none 0 0, .int .i64 0, .int .i64 0, .int .i64 0, .int .i64 0, .int .i64 0, .int .i64 0, .int .i64 0] 130)).heap[w.heap.size]? = some (.cells (nilArr m) 136 (0, 0)) := (Below.heap_alloc _ _ _ (by simp)).trans (Go.Deep.blk_alloc_new _ _)
  refine ⟨⟨fun b => if b = w.heap.size + 1 then 0 else if b = w.heap.size then 6 else 99, ⟨pv, .slice none 0 0, .slice (some ⟨w.heap.size, 0, none⟩) m m, fun _ => 0, fun _ => .slice none 0 0, 0, 0, 0⟩, .slice none 0 0, .slice none 0 0, .slice none 0 0, fun _ => .slice none 0 0, fun _ => .slice none 0 0, fun _ => .slice none 0 0⟩, ⟨⟨hrun, ⟨Nat.le_succ _, by simp⟩, Row.nil _ _ _ _ _ _ _, fun i hi => ?_, Row.nil _ _ _ _ _ _ _, Row.nil _ _ _ _ _ _ _, fun i hi => ?_, fun i hi => ?_, fun i hi => ?_⟩, fun i hi => ?_, ?_, hPg.below hbl, hbl.size⟩, rfl⟩
  · exact absurd hi (by simp [mc0])
  · exact absurd hi (by simp [mc0])
  · exact absurd hi (by simp [mc0])
  · exact absurd hi (by simp [mc0])
  · exact absurd hi (by simp [mc0])
  · refine Or.inr ⟨w.heap.size, m, nilArr m, rfl, Nat.le_refl _, by simp, hmade, Nat.le_refl _, by unfold maxLen; omega, by simp [nilArr, size_madeCells], fun i hi => ?_⟩
    have hi' : i < m := by omega
    simp [nilArr, madeCells, hi', Nat.mod_one]

/-- How it ended is set down. -/
theorem LayM.ended {w : World} {B mb : Nat} {A : AdM} {s : Mc} {en : Int} (h : LayM w B mb A s en) (e' : Int) :
    LayM (w.setCell ⟨mb, 11, none⟩ (.int .i64 e')) B mb A s e' ∧ Ch B (fun d => d = 0) A.tag A.tag w (w.setCell ⟨mb, 11, none⟩ (.int .i64 e')) := by
  have hc : Ch B (fun d => d = 0) A.tag A.tag w (w.setCell ⟨mb, 11, none⟩ (.int .i64 e')) := Ch.set w _ _ _ h.own.1 h.own.2
  refine ⟨⟨heap_set h.run _, h.own, h.fr.keep hc (by omega), fun i hi => ?_, h.ar.keep hc (by omega), h.out.keep hc (by omega), fun i hi => (h.loc i hi).keep hc (by omega), fun i hi => (h.stk i hi).keep hc (by omega), fun j hj => (h.arr j hj).keep hc (by omega)⟩, hc⟩
  obtain ⟨g1, g2, g3⟩ := h.fb i hi
  obtain ⟨g4, g5⟩ := blk_keep g1 hc (by rw [g3]; omega)
  exact ⟨g4, g2, g5.trans g3⟩


/-- The fuel that counts. -/
def fuelP (n : Int) : Nat := (min (max n 0) 100000).toNat
theorem fuel_is (n : Int) : min (max n 0) 100000 = (fuelP n : Int) := by unfold fuelP; omega
theorem fuel_le (n : Int) : fuelP n ≤ 100000 := by unfold fuelP; omega

/-- The state of a run of at most so much fuel. -/
def atP (F : Nat → PF) (fuel : Int) : Mc := nthP F (startP F) (fuelP fuel)

set_option maxRecDepth 100000 in
set_option maxHeartbeats 1000000 in
theorem shiftM (w : World) (m : Nat) (pv : Value) (F : Nat → PF) (K : Nat → Nat → Bool) (H : Nat → Nat → Int) (fuel : Int) (hPg : Pg w w.heap.size pv m F) (hF : Fine m F K H) :
    Calls Tryz.prog 45 #[pv, .slice none 0 0, .int .i64 fuel] w fun e w' => ∃ mb, e = .returned (.pointer (some ⟨mb, 0, none⟩)) ∧ Below w.heap.size w w' ∧ ∃ A' : AdM, MSt w' w.heap.size mb m F A' (atP F fuel) (endP (atP F fuel)) := by
  obtain ⟨A0, m0, ev0⟩ := MSt.fresh w m F pv (by have := hF.size; omega) hPg
  have hl := (hF.fn 0 hF.size.1).locals
  have hnf := newFrameM _ w.heap.size (w.heap.size + 1) m A0 mc0 0 F 0 [] (.slice none 0 0) m0 hF.size.1 (Or.inl ⟨rfl, none, 0, rfl⟩) hl.1 hl.2 (by simpa using hl.1) (by simp [mc0])
  have hbl : Below w.heap.size w ((w.alloc (.cells (nilArr m) 136)).alloc (.cells #[pv, .slice none 0 0, .slice (some ⟨w.heap.size, 0, none⟩) m m, .slice none 0 0, .slice none 0 0, .int .i64 0, .slice none 0 0, .int .i64 0, .int .i64 0, .int .i64 0, .int .i64 0, .int .i64 0, .int .i64 0, .int .i64 0] 130)) := ((Below.refl _ _).alloc (Nat.le_refl _) _).alloc (by simp) _
  have hmk := make_made m (by have := hF.size; omega)
  have hpvf : ∃ p c, pv = .slice p m c := by obtain ⟨pb, po, pc, CA, CC, h, _⟩ := hPg.at_; exact ⟨_, _, h⟩
  obtain ⟨pp, pcp, rfl⟩ := hpvf
  have HN := hid (And.intro hnf (And.intro hbl (And.intro ev0 hF)))
  have e1 := fuel_is fuel
  have hfl := fuel_le fuel
  generalize hfu : fuelP fuel = fu at *
  have HFU := hid hfu
  clear hnf hbl ev0 hF m0 hPg hl hfu
  obtain ⟨sN, hsN⟩ : ∃ sN, sN = atP F fuel := ⟨_, rfl⟩
  rw [← hsN]
  have hat : sN = nthP F (startP F) fu := by rw [hsN]; unfold atP; rw [HFU.out]
  have HAT := hid hat
  clear hat hsN
  generalize hen : endP sN = en at *
  generalize hmx : max fuel 0 = mx at *
  go_enter Tryz.func45, Tryz.ntmps45
  go_wp2_with fail
  refine HN.out.1.mono ?_
  rintro e w2 ⟨rfl, A2, m2, s2, c2, _⟩
  obtain ⟨_, hbl, ev0, hF⟩ := HN.out
  have hst : ({ mc0 with fr := ⟨0, 0, [] ++ List.replicate ((F 0).locals.toNat - ([] : List V).length) vnil, []⟩ :: mc0.fr } : Mc).fr = (nthP F (startP F) 0).fr := by simp [nthP, startP, mc0]
  have m2' : MSt w2 w.heap.size (w.heap.size + 1) m F A2 (nthP F (startP F) 0) 0 := ⟨m2.lay.like hst.symm rfl rfl rfl rfl, by rw [← hst]; exact m2.low, m2.made, m2.pg, m2.le⟩
  have hrun := runM (S := nthP F (startP F)) m2' (by rw [s2.ev]; exact ev0) hF (road hF) fu hfl
  have hB2 : Below w.heap.size w w2 := hbl.trans (c2.below hbl.size)
  rw [← HAT.out] at hrun
  rw [hen] at hrun
  have hrun2 : ∀ x : Int, (fu : Int) = x → Calls Tryz.prog 68 #[.pointer (some ⟨w.heap.size + 1, 0, none⟩), .int .i64 x] w2 fun e w' => e = .returned (.int .i64 en) ∧ ∃ A' : AdM, MSt w' w.heap.size (w.heap.size + 1) m F A' sN 0 ∧ SameG A2 A' ∧ Ch w.heap.size (fun _ => True) A2.tag A'.tag w2 w' := fun x hx => by rw [← hx]; exact hrun
  have HR := hid (And.intro hrun2 (And.intro hB2 m2.le))
  have HE := hid (And.intro e1 hmx)
  clear hrun hrun2 m2 m2' s2 c2 hbl ev0 hF hst hB2 hmk HN hen e1 hmx HAT
  go_wp2_with fail
  all_goals
    refine (HR.out.1 _ (by have h1 := HE.out.1; have h2 := HE.out.2; omega)).mono ?_
    rintro e w3 ⟨rfl, A3, m3, s3, c3⟩
    obtain ⟨_, hB2, hle2⟩ := HR.out
    have y6 : w3.cell? ⟨w.heap.size + 1, 11, none⟩ = some (.int .i64 0) := by rw [cell_heap m3.lay.run]; rfl
    have z6 : w3.frozen? ⟨w.heap.size + 1, 11, none⟩ = false := frozen_heap m3.lay.run
    obtain ⟨l4, c4⟩ := m3.lay.ended en
    have cN := c4.mono (q := N5) (fun d hd => by unfold N5; omega)
    have m4 := m3.ch l4 m3.low (SameG.refl _) cN
    have hB3 : Below w.heap.size w2 w3 := c3.below hle2
    have hB4 := cN.below (B := w.heap.size) (by have := hB3.size; omega)
    have HQ := hid (And.intro ((hB2.trans hB3).trans hB4) m4)
    clear m3 s3 c3 l4 c4 cN m4 hB3 hB4 hB2 hle2 HR
    go_wp2
    go_ret
    exact ⟨_, rfl, HQ.out.1, A3, HQ.out.2⟩

theorem runsM (w : World) (m : Nat) (pv : Value) (F : Nat → PF) (K : Nat → Nat → Bool) (H : Nat → Nat → Int) (fuel : Int) (hPg : Pg w w.heap.size pv m F) (hF : Fine m F K H) :
    Calls Tryz.prog 40 #[pv, .int .i64 fuel] w fun e w' => ∃ mb, e = .returned (.pointer (some ⟨mb, 0, none⟩)) ∧ Below w.heap.size w w' ∧ ∃ A' : AdM, MSt w' w.heap.size mb m F A' (atP F fuel) (endP (atP F fuel)) := by
  have HS := hid (shiftM w m pv F K H fuel hPg hF)
  clear hPg hF
  go_enter Tryz.func40, Tryz.ntmps40
  go_wp2_with fail
  refine HS.out.mono ?_
  rintro e w2 ⟨mb, rfl, h⟩
  have HQ := hid h
  clear h
  go_wp2
  go_ret
  exact ⟨_, rfl, HQ.out⟩
end Go.Proofs.YtkafkipjedpohaaGreatDoor

/-
  slices.Clone, of values.
-/
namespace Go.Proofs.YtkafkipjedpohaaGreatDoor
open Go.RowKit

/-- A list of values that goes out: new memory. -/
def OutL (w w' : World) (v : Value) (l : List V) : Prop := Row w' w.heap.size (fun _ => 0) 0 43 2 v l.length (vcell l)

def valCells (l : List V) : List Value := (List.range (l.length * 2)).map (vcell l)

set_option maxRecDepth 100000 in
set_option maxHeartbeats 1000000 in
theorem cloneV (w : World) (B : Nat) (tag : Nat → Nat) (c : Nat) (v : Value) (l : List V) (hrow : Row w B tag c 43 2 v l.length (vcell l)) (hl : l.length ≤ 200000) :
    Calls Tryz.prog 63 #[v] w fun e w' => ∃ v', e = .returned v' ∧ Below w.heap.size w w' ∧ OutL w w' v' l := by
  rcases hrow with ⟨rfl, h0⟩ | ⟨b, cap, cur, rfl, hb, ht, hh, hc, hm, hs, hf⟩
  · have hnil := fun wx => Lib.run_eql_slice_nil (P := Tryz.prog) wx 44 43 none 0 0 0 0 Tryz.underlying44
    have HQ : Hid (OutL w w (.slice none 0 0) l) := Or.inl ⟨rfl, h0⟩
    clear h0
    go_enter Tryz.func63, Tryz.ntmps63
    go_wp2
    go_ret
    exact ⟨_, rfl, Below.refl _ _, HQ.out⟩
  · have hnil := fun wx => Lib.run_eql_slice_nil (P := Tryz.prog) wx 44 43 (some ⟨b, 0, none⟩) l.length cap 0 0 Tryz.underlying44
    have hbz := heap_lt hh
    obtain ⟨inf, hi, hz0, hz1, hz2⟩ : ∃ i, Tryz.prog.info? 43 = some i ∧ i.zero = some (.agg #[.int .i64 0, .int .i64 0]) ∧ i.size = 2 ∧ i.bytes = 16 := by
      obtain ⟨i, hi, hzz⟩ := Option.map_eq_some_iff.1 Tryz.info43
      simp only [Prod.mk.injEq] at hzz
      exact ⟨i, hi, hzz.1, hzz.2.1, hzz.2.2⟩
    have hA : Below w.heap.size w (w.alloc (.cells #[] 43)) := (Below.refl _ _).alloc (Nat.le_refl _) _
    by_cases hn : l.length = 0
    · have hrun := run_append_room_src (P := Tryz.prog) (w.alloc (.cells #[] 43)) 44 44 44 43 inf Tryz.underlying44 hi w.heap.size 0 0 0 (.slice (some ⟨b, 0, none⟩) 0 cap) 0 [] (Src.ofSlice _ Tryz.underlying44 ⟨b, 0, none⟩ 0 cap [] (by simp) (by simp) (by simp)) (by omega) (by simp) (by simp)
      have HR := hid hrun
      have HQ : Hid (OutL w (w.alloc (.cells #[] 43)) (.slice (some ⟨w.heap.size, 0, none⟩) 0 0) l) := by
        unfold Hid OutL
        rw [hn]
        exact Or.inr ⟨w.heap.size, 0, #[], rfl, Nat.le_refl _, rfl, Go.Deep.blk_alloc_new _ _, Nat.le_refl _, by unfold maxLen; omega, rfl, fun i hi => by omega⟩
      have HA := hid hA
      clear hrun hA hf hs hm hc hh
      rw [hn] at hnil ⊢
      clear hn
      go_enter Tryz.func63, Tryz.ntmps63
      go_wp2_with (at_builtin; refine wpList_append_run _ rfl _ _ 44 rfl _ _ _ _ rfl rfl HR.out ?_)
      go_ret
      exact ⟨_, rfl, HA.out, HQ.out⟩
    · have hown : (w.alloc (.cells #[] 43)).ownsRow w.heap.size 43 2 (.slice (some ⟨w.heap.size, 0, none⟩) 0 0) 0 [] :=
        ⟨rfl, Or.inr ⟨w.heap.size, 0, #[], rfl, Nat.le_refl _, Go.Deep.blk_alloc_new _ _, Nat.le_refl _, by unfold maxLen; omega, rfl, rfl⟩⟩
      have hnews : ∀ j u, (valCells l)[j]? = some u → (w.alloc (.cells #[] 43)).cell? ((⟨b, 0, none⟩ : Addr).add j) = some u := fun j u hu => by
        have hj : j < l.length * 2 := by have := (List.getElem?_eq_some_iff.1 hu).1; simpa [valCells] using this
        have hu' : vcell l j = u := by simpa [valCells, hj] using hu
        rw [Addr.add_lit, Nat.zero_add, ← hu']
        exact (hA.cell (p := ⟨b, j, none⟩) hbz).trans ((cell_heap hh).trans (hf j hj))
      have HO := hid (And.intro hown (And.intro hnews hA))
      clear hown hnews hA hf hs hm hc hh
      generalize hln : l.length = ln at *
      have HLN := hid hln
      clear hln
      go_enter Tryz.func63, Tryz.ntmps63
      go_wp2_with (at_builtin; refine stopHereM ?_)
      refine ⟨?_, trivial⟩
      refine wpList_append_lies _ rfl _ _ _ rfl w.heap.size 43 inf _ 2 16 Tryz.underlying44 hi hz0 hz1 hz2 rfl (by decide) (.slice (some ⟨w.heap.size, 0, none⟩) 0 0) 0 [] rfl HO.out.1 ⟨b, 0, none⟩ ln cap (valCells l) rfl (by simp [valCells, HLN.out]) HO.out.2.1 (fun u hu => by obtain ⟨j, _, rfl⟩ := List.mem_map.1 hu; exact vcell_one l j) (by omega) (by unfold maxLen; omega) (by omega) (by simp) _ rfl ?_
      intro g cap2 w2 hown2 hgrow hat hlt
      have hB2 : Below w.heap.size w w2 := HO.out.2.2.trans ⟨hgrow.os, hgrow.tape, hgrow.output, hgrow.size, fun k hk => hgrow.block k (by rw [World.size_alloc]; omega) (by intro e; have e' : some k = some w.heap.size := e; injection e' with e'; omega)⟩
      have hQ : OutL w w2 (.slice (some ⟨g, 0, none⟩) ln cap2) l := by
        unfold OutL
        rw [HLN.out]
        have h := Row.of_owns (tag := fun _ => 0) (c := 0) (f := vcell l) hown2 rfl (fun i hi => by
          rw [List.nil_append]
          have hi' : i < l.length * 2 := by rw [HLN.out]; omega
          simp [valCells, hi'])
        rw [Nat.zero_add] at h
        exact h
      have HQ := hid (And.intro hB2 hQ)
      clear hB2 hQ hown2 hgrow hat hlt
      go_wp2
      go_ret
      exact ⟨_, rfl, HQ.out⟩
end Go.Proofs.YtkafkipjedpohaaGreatDoor

/-
  The project's machine: Outcome; upshift's Run.
-/
namespace Go.Proofs.YtkafkipjedpohaaGreatDoor
open Go.RowKit

theorem setCell_far {w : World} {a b : Addr} {u v : Value} (h : w.cell? a = some u) (hne : ¬ a.block = b.block) : (w.setCell b v).cell? a = some u :=
  (World.cell?_of_block (w := w) (Below.heap_setCell _ _ _ _ hne)).trans h

/-- An outcome that goes out. -/
def OutcomeV (en : Int) (s : Mc) (v : Value) : Value := .agg #[.int .i64 en, .int .i64 s.steps, .int .i64 s.gives.k, .int .i64 s.gives.n, v]

theorem below_set {B : Nat} {w v : World} (h : Below B w v) {b o : Nat} (hb : B ≤ b) (x : Value) : Below B w (v.setCell ⟨b, o, none⟩ x) :=
  ⟨h.os, h.tape, h.output, by have := h.size; simp [World.setCell]; omega, fun k hk => by rw [Below.heap_setCell _ _ _ _ (by dsimp only; omega)]; exact h.block k hk⟩

/-- A store into a block that was there is not seen in a list that was made since. -/
theorem OutL.set {w X v : World} {u : Value} {l : List V} (h : OutL X v u l) {b o : Nat} (hw : w.heap.size ≤ X.heap.size) (hb : b < X.heap.size) (x : Value) : OutL w (v.setCell ⟨b, o, none⟩ x) u l ∧ OutL X (v.setCell ⟨b, o, none⟩ x) u l := by
  rcases h with h | ⟨g, cap, cur, hv, hg, ht, hh, hr⟩
  · exact ⟨Or.inl h, Or.inl h⟩
  · have e : (v.setCell ⟨b, o, none⟩ x).heap[g]? = v.heap[g]? := Below.heap_setCell _ _ _ _ (by dsimp only; omega)
    exact ⟨Or.inr ⟨g, cap, cur, hv, by omega, ht, e.trans hh, hr⟩, Or.inr ⟨g, cap, cur, hv, hg, ht, e.trans hh, hr⟩⟩

theorem OutL.later {w w' w2 : World} {v : Value} {l : List V} (h : OutL w w' v l) (k : Below w'.heap.size w' w2) : OutL w w2 v l := Row.below h k

set_option maxRecDepth 100000 in
set_option maxHeartbeats 1000000 in
theorem outcomeM (w : World) (B mb : Nat) (A : AdM) (s : Mc) (en : Int) (hL : LayM w B mb A s en) (hl : s.out.length ≤ 200000) :
    Calls Tryz.prog 41 #[.pointer (some ⟨mb, 0, none⟩)] w fun e w' => ∃ v, e = .returned (OutcomeV en s v) ∧ Below w.heap.size w w' ∧ OutL w w' v s.out := by
  have hW : Below w.heap.size w (w.alloc (.cells #[.int .i64 0, .int .i64 0, .int .i64 0, .int .i64 0, .slice none 0 0] 46)) := (Below.refl _ _).alloc (Nat.le_refl _) _
  have l1 := hL.below hW
  have hz : (w.alloc (.cells #[.int .i64 0, .int .i64 0, .int .i64 0, .int .i64 0, .slice none 0 0] 46)).heap.size = w.heap.size + 1 := by simp
  have x4 : (w.alloc (.cells #[.int .i64 0, .int .i64 0, .int .i64 0, .int .i64 0, .slice none 0 0] 46)).cell? ⟨mb, 6, none⟩ = some A.ov := (cell_heap l1.run).trans rfl
  have x5 : (w.alloc (.cells #[.int .i64 0, .int .i64 0, .int .i64 0, .int .i64 0, .slice none 0 0] 46)).cell? ⟨mb, 7, none⟩ = some (.int .i64 s.steps) := (cell_heap l1.run).trans rfl
  have x6 : (w.alloc (.cells #[.int .i64 0, .int .i64 0, .int .i64 0, .int .i64 0, .slice none 0 0] 46)).cell? ⟨mb, 11, none⟩ = some (.int .i64 en) := (cell_heap l1.run).trans rfl
  have x7 : (w.alloc (.cells #[.int .i64 0, .int .i64 0, .int .i64 0, .int .i64 0, .slice none 0 0] 46)).cell? ⟨mb, 12, none⟩ = some (.int .i64 s.gives.k) := (cell_heap l1.run).trans rfl
  have x8 : (w.alloc (.cells #[.int .i64 0, .int .i64 0, .int .i64 0, .int .i64 0, .slice none 0 0] 46)).cell? ⟨mb, 13, none⟩ = some (.int .i64 s.gives.n) := (cell_heap l1.run).trans rfl
  have hmz := heap_lt hL.run
  have HL := hid (And.intro l1.out (And.intro hW hz))
  have HX := hid (And.intro x4 (And.intro x5 (And.intro x6 (And.intro x7 x8))))
  clear hL l1 hW hz x4 x5 x6 x7 x8
  go_enter Tryz.func41, Tryz.ntmps41
  go_wp2_with fail
  obtain ⟨x4, x5, x6, x7, x8⟩ := HX.out
  clear HX
  have hWz : mb < (w.alloc (.cells #[.int .i64 0, .int .i64 0, .int .i64 0, .int .i64 0, .slice none 0 0] 46)).heap.size := by simp; omega
  have r0 : (w.alloc (.cells #[.int .i64 0, .int .i64 0, .int .i64 0, .int .i64 0, .slice none 0 0] 46)).heap[w.heap.size]? = some (.cells #[.int .i64 0, .int .i64 0, .int .i64 0, .int .i64 0, .slice none 0 0] 46 (0, 0)) := Go.Deep.blk_alloc_new _ _
  have HR := hid r0
  clear r0
  have hne : ¬ mb = w.heap.size := by omega
  generalize w.alloc (.cells #[.int .i64 0, .int .i64 0, .int .i64 0, .int .i64 0, .slice none 0 0] 46) = W at *
  have hrz : w.heap.size < W.heap.size := by have := HL.out.2.2; omega
  obtain ⟨op, oc, hov, _⟩ := HL.out.1.any
  have HCl := hid (fun (X : World) (hX : Below W.heap.size W X) => cloneV X B A.tag 3 A.ov s.out (HL.out.1.below hX) hl)
  rw [hov] at x4 HCl
  clear hov
  go_region_held3 (fun w' => w'.cell? ⟨mb, 6, none⟩ = some (.slice op s.out.length oc) ∧ w'.cell? ⟨mb, 7, none⟩ = some (.int .i64 s.steps) ∧ w'.cell? ⟨mb, 11, none⟩ = some (.int .i64 en) ∧ w'.cell? ⟨mb, 12, none⟩ = some (.int .i64 s.gives.k) ∧ w'.cell? ⟨mb, 13, none⟩ = some (.int .i64 s.gives.n))
    ((refine ⟨?_, ?_, ?_, ?_, ?_⟩ <;> (repeat (with_reducible refine setCell_far ?_ hne)) <;> (first | with_reducible exact q4 | with_reducible exact q5 | with_reducible exact q6 | with_reducible exact q7 | with_reducible exact q8 | exact x4 | exact x5 | exact x6 | exact x7 | exact x8)))
    (first
      | (go_at_call 63; refine (HCl.out _ ?_).mono ?_; exact (Below.refl _ _).drew; rintro e w3 ⟨v3, he, hB3, hO3⟩; obtain ⟨p3, cp3, hv3, hlc3⟩ := Row.any hO3; subst hv3; subst he; have q4 := (hB3.cell (p := ⟨mb, 6, none⟩) hWz).trans x4; have q5 := (hB3.cell (p := ⟨mb, 7, none⟩) hWz).trans x5; have q6 := (hB3.cell (p := ⟨mb, 11, none⟩) hWz).trans x6; have q7 := (hB3.cell (p := ⟨mb, 12, none⟩) hWz).trans x7; have q8 := (hB3.cell (p := ⟨mb, 13, none⟩) hWz).trans x8; have r3 := (hB3.block w.heap.size hrz).trans HR.out; have c0 : w3.cell? ⟨w.heap.size, 0, none⟩ = some (.int .i64 0) := (cell_heap r3).trans rfl; have c1 : w3.cell? ⟨w.heap.size, 1, none⟩ = some (.int .i64 0) := (cell_heap r3).trans rfl; have c2 : w3.cell? ⟨w.heap.size, 2, none⟩ = some (.int .i64 0) := (cell_heap r3).trans rfl; have c3 : w3.cell? ⟨w.heap.size, 3, none⟩ = some (.int .i64 0) := (cell_heap r3).trans rfl; have c4 : w3.cell? ⟨w.heap.size, 4, none⟩ = some (.slice none 0 0) := (cell_heap r3).trans rfl; have z0 := frozen_heap (o := 0) r3; have z1 := frozen_heap (o := 1) r3; have z2 := frozen_heap (o := 2) r3; have z3 := frozen_heap (o := 3) r3; have z4 := frozen_heap (o := 4) r3; clear r3))
  rename_i hheld
  have r3 := (hB3.block w.heap.size hrz).trans HR.out
  have r4 := heap_set (o := 4) (heap_set (o := 3) (heap_set (o := 2) (heap_set (o := 1) (heap_set (o := 0) r3 (.int .i64 en)) (.int .i64 s.steps)) (.int .i64 s.gives.k)) (.int .i64 s.gives.n)) (.slice p3 s.out.length cp3)
  have hbl : Below w.heap.size w (((((w3.setCell ⟨w.heap.size, 0, none⟩ (.int .i64 en)).setCell ⟨w.heap.size, 1, none⟩ (.int .i64 s.steps)).setCell ⟨w.heap.size, 2, none⟩ (.int .i64 s.gives.k)).setCell ⟨w.heap.size, 3, none⟩ (.int .i64 s.gives.n)).setCell ⟨w.heap.size, 4, none⟩ (.slice p3 s.out.length cp3)) :=
    below_set (below_set (below_set (below_set (below_set ((HL.out.2.1.drew).trans (hB3.mono (by show w.heap.size ≤ W.heap.size; omega))) (Nat.le_refl _) _) (Nat.le_refl _) _) (Nat.le_refl _) _) (Nat.le_refl _) _) (Nat.le_refl _) _
  have hwX : w.heap.size ≤ W.drew.heap.size := by show w.heap.size ≤ W.heap.size; omega
  have hbX : w.heap.size < W.drew.heap.size := hrz
  have hout := (OutL.set (OutL.set (OutL.set (OutL.set (OutL.set (o := 0) hO3 hwX hbX (.int .i64 en)).2 (o := 1) hwX hbX (.int .i64 s.steps)).2 (o := 2) hwX hbX (.int .i64 s.gives.k)).2 (o := 3) hwX hbX (.int .i64 s.gives.n)).2 (o := 4) hwX hbX (.slice p3 s.out.length cp3)).1
  have g0 : (((((w3.setCell ⟨w.heap.size, 0, none⟩ (.int .i64 en)).setCell ⟨w.heap.size, 1, none⟩ (.int .i64 s.steps)).setCell ⟨w.heap.size, 2, none⟩ (.int .i64 s.gives.k)).setCell ⟨w.heap.size, 3, none⟩ (.int .i64 s.gives.n)).setCell ⟨w.heap.size, 4, none⟩ (.slice p3 s.out.length cp3)).heap[w.heap.size]? = some (.cells #[.int .i64 en, .int .i64 s.steps, .int .i64 s.gives.k, .int .i64 s.gives.n, .slice p3 s.out.length cp3] 46 (0, 0)) := r4
  clear hheld q4 q5 q6 q7 q8 c0 c1 c2 c3 c4 z0 z1 z2 z3 z4 x4 x5 x6 x7 x8 r3 r4 hB3 hO3
  generalize ((((w3.setCell ⟨w.heap.size, 0, none⟩ (.int .i64 en)).setCell ⟨w.heap.size, 1, none⟩ (.int .i64 s.steps)).setCell ⟨w.heap.size, 2, none⟩ (.int .i64 s.gives.k)).setCell ⟨w.heap.size, 3, none⟩ (.int .i64 s.gives.n)).setCell ⟨w.heap.size, 4, none⟩ (.slice p3 s.out.length cp3) = V5 at *
  have y0 : V5.cell? ⟨w.heap.size, 0, none⟩ = some (.int .i64 en) := (cell_heap g0).trans rfl
  have y1 : V5.cell? ⟨w.heap.size, 1, none⟩ = some (.int .i64 s.steps) := (cell_heap g0).trans rfl
  have y2 : V5.cell? ⟨w.heap.size, 2, none⟩ = some (.int .i64 s.gives.k) := (cell_heap g0).trans rfl
  have y3 : V5.cell? ⟨w.heap.size, 3, none⟩ = some (.int .i64 s.gives.n) := (cell_heap g0).trans rfl
  have y4 : V5.cell? ⟨w.heap.size, 4, none⟩ = some (.slice p3 s.out.length cp3) := (cell_heap g0).trans rfl
  have HQ := hid (And.intro hbl hout)
  clear g0 hbl hout
  go_wp2
  exact bodyPost_ret (v := OutcomeV en s (.slice p3 s.out.length cp3)) (by simp [results, Tryz.results41, go_sem, y0, y1, y2, y3, y4, OutcomeV]) rfl ⟨_, rfl, HQ.out⟩

theorem Pg.of_prog {w : World} {pb po pc m : Nat} {F : Nat → PF} {CA : Nat → Option Addr} {CC : Nat → Nat} (h : ProgAt w pb po m F CA CC) : Pg w w.heap.size (.slice (some ⟨pb, po, none⟩) m pc) m F :=
  ⟨pb, po, pc, CA, CC, w, rfl, rfl, h, Below.refl _ _⟩

set_option maxRecDepth 100000 in
set_option maxHeartbeats 1000000 in
theorem codeRun (w : World) (cb pb po pc m : Nat) (F : Nat → PF) (K : Nat → Nat → Bool) (H : Nat → Nat → Int) (CA : Nat → Option Addr) (CC : Nat → Nat) (fuel : Int) (hc : w.cell? ⟨cb, 0, none⟩ = some (.slice (some ⟨pb, po, none⟩) m pc)) (hP : ProgAt w pb po m F CA CC) (hF : Fine m F K H) (hout : (atP F fuel).out.length ≤ 200000) :
    Calls Tryz.prog 19 #[.pointer (some ⟨cb, 0, none⟩), .int .i64 fuel] w fun e w' => ∃ v, e = .returned (OutcomeV (endP (atP F fuel)) (atP F fuel) v) ∧ Below w.heap.size w w' ∧ OutL w w' v (atP F fuel).out := by
  have hcz := World.block_lt_of_cell? w _ hc
  have hW : Below w.heap.size w (w.alloc (.cells #[.int .i64 0, .int .i64 0, .int .i64 0, .int .i64 0, .slice none 0 0] 46)) := (Below.refl _ _).alloc (Nat.le_refl _) _
  have hP2 := hP.below hW (Nat.le_refl _)
  have hrun := runsM _ m _ F K H fuel (Pg.of_prog (pc := pc) hP2) hF
  have c0 := (hW.cell (p := ⟨cb, 0, none⟩) hcz).trans hc
  have r0 : (w.alloc (.cells #[.int .i64 0, .int .i64 0, .int .i64 0, .int .i64 0, .slice none 0 0] 46)).heap[w.heap.size]? = some (.cells #[.int .i64 0, .int .i64 0, .int .i64 0, .int .i64 0, .slice none 0 0] 46 (0, 0)) := Go.Deep.blk_alloc_new _ _
  have hz : (w.alloc (.cells #[.int .i64 0, .int .i64 0, .int .i64 0, .int .i64 0, .slice none 0 0] 46)).heap.size = w.heap.size + 1 := by simp
  generalize endP (atP F fuel) = en at *
  generalize atP F fuel = sN at *
  have HR := hid hrun
  have HX := hid (And.intro hW (And.intro r0 hz))
  clear hrun hW hP hP2 hc r0 hz hF
  go_enter Tryz.func19, Tryz.ntmps19
  go_wp2_with fail
  refine HR.out.mono ?_
  rintro e w2 ⟨mb, rfl, hB2, A2, m2⟩
  have HO := hid (outcomeM w2 _ mb A2 sN en m2.lay hout)
  have HB2 := hid hB2
  clear hB2 m2 HR
  go_wp2_with fail
  refine HO.out.mono ?_
  rintro e w3 ⟨v, rfl, hB3, hout3⟩
  obtain ⟨p3, cp3, hv3, _⟩ := Row.any hout3
  subst hv3
  obtain ⟨hW, r0, hz⟩ := HX.out
  have hz2 := HB2.out.size
  have r2 := (HB2.out.block w.heap.size (by omega)).trans r0
  have r3 := (hB3.block w.heap.size (by omega)).trans r2
  have y0 : w3.cell? ⟨w.heap.size, 0, none⟩ = some (.int .i64 0) := (cell_heap r3).trans rfl
  have y1 : w3.cell? ⟨w.heap.size, 1, none⟩ = some (.int .i64 0) := (cell_heap r3).trans rfl
  have y2 : w3.cell? ⟨w.heap.size, 2, none⟩ = some (.int .i64 0) := (cell_heap r3).trans rfl
  have y3 : w3.cell? ⟨w.heap.size, 3, none⟩ = some (.int .i64 0) := (cell_heap r3).trans rfl
  have y4 : w3.cell? ⟨w.heap.size, 4, none⟩ = some (.slice none 0 0) := (cell_heap r3).trans rfl
  have z0 := frozen_heap (o := 0) r3
  have z1 := frozen_heap (o := 1) r3
  have z2 := frozen_heap (o := 2) r3
  have z3 := frozen_heap (o := 3) r3
  have z4 := frozen_heap (o := 4) r3
  have hB : Below w.heap.size w w3 := (hW.trans (HB2.out.mono (by omega))).trans (hB3.mono (by omega))
  have g0 : (((((w3.setCell ⟨w.heap.size, 0, none⟩ (.int .i64 en)).setCell ⟨w.heap.size, 1, none⟩ (.int .i64 sN.steps)).setCell ⟨w.heap.size, 2, none⟩ (.int .i64 sN.gives.k)).setCell ⟨w.heap.size, 3, none⟩ (.int .i64 sN.gives.n)).setCell ⟨w.heap.size, 4, none⟩ (.slice p3 sN.out.length cp3)).heap[w.heap.size]? = some (.cells #[.int .i64 en, .int .i64 sN.steps, .int .i64 sN.gives.k, .int .i64 sN.gives.n, .slice p3 sN.out.length cp3] 46 (0, 0)) := heap_set (o := 4) (heap_set (o := 3) (heap_set (o := 2) (heap_set (o := 1) (heap_set (o := 0) r3 (.int .i64 en)) (.int .i64 sN.steps)) (.int .i64 sN.gives.k)) (.int .i64 sN.gives.n)) (.slice p3 sN.out.length cp3)
  have hbl : Below w.heap.size w (((((w3.setCell ⟨w.heap.size, 0, none⟩ (.int .i64 en)).setCell ⟨w.heap.size, 1, none⟩ (.int .i64 sN.steps)).setCell ⟨w.heap.size, 2, none⟩ (.int .i64 sN.gives.k)).setCell ⟨w.heap.size, 3, none⟩ (.int .i64 sN.gives.n)).setCell ⟨w.heap.size, 4, none⟩ (.slice p3 sN.out.length cp3)) :=
    below_set (below_set (below_set (below_set (below_set hB (Nat.le_refl _) _) (Nat.le_refl _) _) (Nat.le_refl _) _) (Nat.le_refl _) _) (Nat.le_refl _) _
  have hwX : w.heap.size ≤ w2.heap.size := by omega
  have hbX : w.heap.size < w2.heap.size := by omega
  have hol := (OutL.set (OutL.set (OutL.set (OutL.set (OutL.set (o := 0) hout3 hwX hbX (.int .i64 en)).2 (o := 1) hwX hbX (.int .i64 sN.steps)).2 (o := 2) hwX hbX (.int .i64 sN.gives.k)).2 (o := 3) hwX hbX (.int .i64 sN.gives.n)).2 (o := 4) hwX hbX (.slice p3 sN.out.length cp3)).1
  have HQ := hid (And.intro g0 (And.intro hbl hol))
  clear hB3 hout3 r0 r2 r3 hW hz hz2 HX HB2 HO g0 hbl hol hB hwX hbX
  unfold OutcomeV
  go_wp2
  obtain ⟨g0, hbl, hol⟩ := HQ.out
  generalize ((((w3.setCell ⟨w.heap.size, 0, none⟩ (.int .i64 en)).setCell ⟨w.heap.size, 1, none⟩ (.int .i64 sN.steps)).setCell ⟨w.heap.size, 2, none⟩ (.int .i64 sN.gives.k)).setCell ⟨w.heap.size, 3, none⟩ (.int .i64 sN.gives.n)).setCell ⟨w.heap.size, 4, none⟩ (.slice p3 sN.out.length cp3) = V5 at *
  have y0 : V5.cell? ⟨w.heap.size, 0, none⟩ = some (.int .i64 en) := (cell_heap g0).trans rfl
  have y1 : V5.cell? ⟨w.heap.size, 1, none⟩ = some (.int .i64 sN.steps) := (cell_heap g0).trans rfl
  have y2 : V5.cell? ⟨w.heap.size, 2, none⟩ = some (.int .i64 sN.gives.k) := (cell_heap g0).trans rfl
  have y3 : V5.cell? ⟨w.heap.size, 3, none⟩ = some (.int .i64 sN.gives.n) := (cell_heap g0).trans rfl
  have y4 : V5.cell? ⟨w.heap.size, 4, none⟩ = some (.slice p3 sN.out.length cp3) := (cell_heap g0).trans rfl
  exact bodyPost_ret (v := OutcomeV en sN (.slice p3 sN.out.length cp3)) (by simp [results, Tryz.results19, go_sem, y0, y1, y2, y3, y4, OutcomeV]) rfl ⟨_, rfl, hbl, hol⟩
end Go.Proofs.YtkafkipjedpohaaGreatDoor
