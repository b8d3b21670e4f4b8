/-
  The project's machine: run, where a run ends by a Return of its last frame.
-/
import Derived.Test.YtnhjjjijeeobbaaDoorM10
import Derived.Defers
import Derived.Recover
import Derived.Laws.Pointers
namespace Go.Proofs.YtnhjjjijeeobbaaDoor
open Go.RowKit

/-- The deferred closure, of a run that returns: nothing is recovered, nothing turned. -/
theorem catchIdle (p : Addr) (w : World) :
    CallsD Tryd.prog 79 #[.pointer (some p)] .returning w fun e u' w' => e = .returned (.tuple #[]) ∧ u' = .returning ∧ w' = w := by
  have hnil : ∀ w : World, (binOp BinOp.eql 20 .nilIface .nilIface).run Tryd.prog w = .ok (.bool true) w := fun _ => by kernel_rfl
  refine callsD_of_wpS Tryd.func79 rfl fun c₀ cs hu => ?_
  apply wpS_seq
  apply wpS_region
  simp [wpOpsS, go_sem, recoverD, hu, Tryd.ntmps79, Exit.thenS]
  refine wpS_of_wp ?_
  go_wp2
  cases c₀
  simp_all [bodyPostS, results, Tryd.results79]

set_option maxRecDepth 100000 in
set_option maxHeartbeats 1000000 in
theorem runHalt (w : World) (B mb m : Nat) (A : AdM) (F : Nat → PF) (S : Nat → Mc) (N fuel : Nat) (hL : LayM w B mb A (S 0) 0) (hPg : Pg w B A.pv m F) (hB : B ≤ w.heap.size) (hst : ∀ j, j ≤ N → (S j).steps = j) (hfr : ∀ j, j < N → 1 ≤ (S j).fr.length) (hend : (S N).fr = []) (hN : 0 < N) (hf : N ≤ fuel) (_hf2 : fuel ≤ 100000)
    (hstep : ∀ j, j < N → ∀ (X : World) (A1 : AdM), LayM X B mb A1 (S j) 0 → Pg X B A1.pv m F → B ≤ X.heap.size → Calls Tryd.prog 80 #[.pointer (some ⟨mb, 0, none⟩)] X (Stepped X B mb A1 (S (j + 1)) 0)) :
    Calls Tryd.prog 57 #[.pointer (some ⟨mb, 0, none⟩), .int .i64 fuel] w fun e w' => e = .returned (.int .i64 1) ∧
      ∃ A' : AdM, LayM w' B mb A' (S N) 0 ∧ A'.pv = A.pv ∧ Ch B (fun d => d ≠ 5) A.tag A'.tag w w' := by
  have hmf : ∀ (fn : Fn) (first cap : Array Value) (w : World), (Instr.makeFunc fn first cap).run Tryd.prog w = .ok (.func fn first cap) w := fun _ _ _ _ => rfl
  have HL := hid (And.intro hL (And.intro hPg (And.intro hst (And.intro hfr (And.intro hend hstep)))))
  clear hL hPg hst hfr hend hstep
  go_enter_defers Tryd.func57, Tryd.ntmps57
  go_wp2
  go_loopg [] N (fun gk wr => ∃ j : Nat, j + gk = N ∧ 1 ≤ gk ∧ ∃ A1 : AdM, LayM wr B mb A1 (S j) 0 ∧ A1.pv = A.pv ∧ A1.tag w.heap.size = 5 ∧ Ch B (fun d => d ≠ 5) A.tag A1.tag w wr ∧ wr.heap[w.heap.size]? = some (.cells #[.int .i64 0] 3 (0, 0)))
  case atStart =>
    refine ⟨0, by omega, by omega, _, HL.out.1.box _, rfl, upd_same _ _ _, Ch.of_tags ((Below.refl _ _).alloc (Nat.le_refl _) _) (fun b hb => upd_other _ _ _ _ (by omega)), Go.Deep.blk_alloc_new _ _⟩
  case round =>
    obtain ⟨j, hj, hg1, A1, l1, p1, t1, c1, r1⟩ := hrel
    obtain ⟨_, hPg, hst, hfr, hend, hstep⟩ := HL.out
    have hjN : j < N := by omega
    have hB1 := c1.below hB
    have hBs : B ≤ wr.heap.size := by have := hB1.size; omega
    have hcon := hstep j hjN wr A1 l1 (by rw [p1]; exact hPg.below hB1) hBs
    have x5 : wr.cell? ⟨mb, 5, none⟩ = some (.int .i64 j) := by rw [cell_heap l1.run]; show some (Value.int .i64 ((S j).steps : Int)) = _; rw [hst j (by omega)]
    have hd : decide ((j : Int) < (fuel : Int)) = true := by simp; omega
    have hrz := heap_lt r1
    have HC := hid hcon
    have HX := hid (And.intro p1 (And.intro t1 (And.intro c1 r1)))
    have hgk : gk - 1 < gk := by omega
    clear hcon l1 p1 t1 c1 r1 hPg hst hstep hB1
    go_wp2_with fail
    refine HC.out.mono ?_
    rintro e w2 ⟨rfl, A2, l2, p2, c2⟩
    obtain ⟨p1, t1, c1, r1⟩ := HX.out
    obtain ⟨r2, t2⟩ := blk_keep r1 c2 (by rw [t1]; omega)
    have y0 : w2.cell? ⟨w.heap.size, 0, none⟩ = some (.int .i64 0) := (cell_heap r2).trans rfl
    have z0 : w2.frozen? ⟨w.heap.size, 0, none⟩ = false := frozen_heap r2
    obtain ⟨fp, fcap, hfv, _⟩ := l2.fr.any
    have x1 : w2.cell? ⟨mb, 1, none⟩ = some (.slice fp (S (j + 1)).fr.length fcap) := by rw [cell_heap l2.run, ← hfv]; rfl
    by_cases hlast : j + 1 = N
    · have hlen : (S (j + 1)).fr.length = 0 := by rw [hlast, hend]; rfl
      rw [hlen] at x1
      rw [hlast] at l2
      have hcs : Ch B (fun d => d = 5) A2.tag A2.tag w2 (w2.setCell ⟨w.heap.size, 0, none⟩ (.int .i64 1)) := Ch.set w2 _ _ _ hB (t2.trans t1)
      have hcw : Ch B (fun d => d ≠ 5) A.tag A2.tag w (w2.setCell ⟨w.heap.size, 0, none⟩ (.int .i64 1)) := (c1.trans c2).setNew (Nat.le_refl _) _
      have yr : (w2.setCell ⟨w.heap.size, 0, none⟩ (.int .i64 1)).cell? ⟨w.heap.size, 0, none⟩ = some (.int .i64 1) := by rw [cell_heap (heap_set r2 _)]; rfl
      have HQ := hid (And.intro (l2.keep5 hcs) (And.intro (p2.trans p1) hcw))
      have YR := hid yr
      clear hcs hcw l2 p2 c2 p1 t1 c1 r1 r2 t2 HC HX hend hfr hfv HL hlen yr
      go_wp2_with fail
      refine (lenF w2 mb 1 0 fcap fp x1).mono ?_
      rintro e w6 ⟨rfl, hw6⟩
      rw [hw6]
      clear hw6 w6
      go_wp2
      refine leaves_cons (f := 79) (args := #[.pointer (some ⟨w.heap.size, 0, none⟩)]) (by simp) (by simp [go_sem]) ?_
      refine (catchIdle ⟨w.heap.size, 0, none⟩ _).mono ?_
      rintro e u' w'' ⟨rfl, rfl, rfl⟩
      have yr := YR.out
      simp [Leaves, settle, results, Tryd.results57, go_sem, yr]
      exact ⟨_, HQ.out⟩
    · have hlen := hfr (j + 1) (by omega)
      have hne : ((S (j + 1)).fr.length == 0) = false := by simp; intro e; rw [e] at hlen; simp at hlen
      have HY : Hid (∃ j' : Nat, j' + (gk - 1) = N ∧ 1 ≤ gk - 1 ∧ ∃ A1 : AdM, LayM w2 B mb A1 (S j') 0 ∧ A1.pv = A.pv ∧ A1.tag w.heap.size = 5 ∧ Ch B (fun d => d ≠ 5) A.tag A1.tag w w2 ∧ w2.heap[w.heap.size]? = some (.cells #[.int .i64 0] 3 (0, 0))) :=
        ⟨j + 1, by omega, by omega, A2, l2, p2.trans p1, t2.trans t1, c1.trans c2, r2⟩
      generalize (S (j + 1)).fr.length = fl at *
      have hne2 : ((fl : Int) == 0) = false := by simp; omega
      clear l2 p2 c2 p1 t1 c1 r1 r2 t2 HC HX hend hfr hfv HL
      go_wp2_with fail
      refine (lenF w2 mb 1 fl fcap fp x1).mono ?_
      rintro e w6 ⟨rfl, hw6⟩
      rw [hw6]
      clear hw6 w6
      go_wp2
      go_roundg (gk - 1)
      case measure => exact hgk
      case rel => exact HY.out
end Go.Proofs.YtnhjjjijeeobbaaDoor
