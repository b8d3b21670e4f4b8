import Derived.Test.YtkafkipjedpohaaGreatDoorM26
import Derived.Test.YtkafkipjedpohaaGreatDoorK5

/-
  Package upshiftkeep: code.
-/
namespace Go.Proofs.YtkafkipjedpohaaGreatDoor
open Go.RowKit

/-- The world in which the fourth example lies. -/
def knownW (w : World) : World :=
  ((((((((w.alloc (.cells #[.int .i64 0, .int .i64 7] 33)).alloc (.cells #[.int .i64 14, .int .i64 0] 33)).alloc
    (.cells #[.int .i64 12, .int .i64 1, .int .i64 0, .int .i64 7, .int .i64 13, .int .i64 1, .int .i64 14, .int .i64 0] 33)).alloc
    (.cells #[.int .i64 2, .int .i64 0] 33)).alloc (.cells #[.int .i64 2, .int .i64 0] 33)).alloc (.cells #[.int .i64 6, .int .i64 0] 33)).alloc (.cells #[.int .i64 14, .int .i64 0] 33)).alloc
    (.cells #[.int .i64 2, .int .i64 0, .int .i64 2, .int .i64 0, .int .i64 6, .int .i64 0, .int .i64 14, .int .i64 0] 33)).alloc
    (.cells #[.int .i64 0, .int .i64 0, .slice (some ⟨w.heap.size + 1 + 1, 0, none⟩) 4 4, .int .i64 1, .int .i64 1, .slice (some ⟨w.heap.size + 1 + 1 + 1 + 1 + 1 + 1 + 1, 0, none⟩) 4 4] 31)

theorem known_below (w : World) : Below w.heap.size w (knownW w) := by
  unfold knownW
  repeat (first | exact Below.refl _ _ | refine Below.alloc ?_ (by first | omega | (simp; done) | (simp; omega)) _)
theorem known_size (w : World) : (knownW w).heap.size = w.heap.size + 9 := by simp [knownW]

theorem known_prog (w : World) : ∃ CA CC, ProgAt (knownW w) (w.heap.size + 1 + 1 + 1 + 1 + 1 + 1 + 1 + 1) 0 2 FK CA CC := by
  have hp : (knownW w).heap[w.heap.size + 1 + 1 + 1 + 1 + 1 + 1 + 1 + 1]? = some (.cells #[.int .i64 0, .int .i64 0, .slice (some ⟨w.heap.size + 1 + 1, 0, none⟩) 4 4, .int .i64 1, .int .i64 1, .slice (some ⟨w.heap.size + 1 + 1 + 1 + 1 + 1 + 1 + 1, 0, none⟩) 4 4] 31 (0, 0)) := blk_at _ _ _ (by simp)
  have h1 : (knownW w).heap[w.heap.size + 1 + 1 + 1 + 1 + 1 + 1 + 1]? = some (.cells #[.int .i64 2, .int .i64 0, .int .i64 2, .int .i64 0, .int .i64 6, .int .i64 0, .int .i64 14, .int .i64 0] 33 (0, 0)) := by
    unfold knownW
    rw [Below.heap_alloc _ _ _ (by simp)]
    exact blk_at _ _ _ (by simp)
  have h2 : (knownW w).heap[w.heap.size + 1 + 1]? = some (.cells #[.int .i64 12, .int .i64 1, .int .i64 0, .int .i64 7, .int .i64 13, .int .i64 1, .int .i64 14, .int .i64 0] 33 (0, 0)) := by
    unfold knownW
    rw [Below.heap_alloc _ _ _ (by simp), Below.heap_alloc _ _ _ (by simp), Below.heap_alloc _ _ _ (by simp), Below.heap_alloc _ _ _ (by simp), Below.heap_alloc _ _ _ (by simp), Below.heap_alloc _ _ _ (by simp)]
    exact blk_at _ _ _ (by simp)
  have hz := known_size w
  refine ⟨fun k => if k = 0 then some ⟨w.heap.size + 1 + 1, 0, none⟩ else some ⟨w.heap.size + 1 + 1 + 1 + 1 + 1 + 1 + 1, 0, none⟩, fun _ => 4, by omega, fun k hk => ?_⟩
  have hc : k = 0 ∨ k = 1 := by omega
  rcases hc with rfl | rfl
  · refine ⟨(cell_heap hp).trans rfl, (cell_heap hp).trans rfl, (cell_heap hp).trans rfl, fun _ => ⟨_, _, rfl, by omega, fun i hi => ?_⟩⟩
    have hi4 : i = 0 ∨ i = 1 ∨ i = 2 ∨ i = 3 := by have : i < 4 := hi; omega
    rcases hi4 with rfl | rfl | rfl | rfl <;> exact ⟨(cell_heap h2).trans rfl, (cell_heap h2).trans rfl⟩
  · refine ⟨(cell_heap hp).trans rfl, (cell_heap hp).trans rfl, (cell_heap hp).trans rfl, fun _ => ⟨_, _, rfl, by omega, fun i hi => ?_⟩⟩
    have hi4 : i = 0 ∨ i = 1 ∨ i = 2 ∨ i = 3 := by have : i < 4 := hi; omega
    rcases hi4 with rfl | rfl | rfl | rfl <;> exact ⟨(cell_heap h1).trans rfl, (cell_heap h1).trans rfl⟩

theorem known_fine : (progP 2 FK).1 = 0 := by decide +kernel

set_option maxRecDepth 100000 in
set_option maxHeartbeats 1000000 in
theorem keepCode (w : World) (pb po pc m : Nat) (F : Nat → PF) (CA : Nat → Option Addr) (CC : Nat → Nat) (hP : ProgAt w pb po m F CA CC) (ht : TabAt w) (h0 : (progP m F).1 = 0) :
    Calls Tryz.prog 13 #[.slice (some ⟨pb, po, none⟩) m pc] w fun e w' => ∃ v w2, e = .returned (.tuple #[v, .bool true]) ∧ Below w.heap.size w w2 ∧ Below w2.heap.size w2 w' ∧ CodeIs w2 w' v m F := by
  have HP := hid (And.intro hP (And.intro ht h0))
  clear hP ht h0
  go_enter Tryz.func13, Tryz.ntmps13
  go_wp2_with (first
    | (go_at_call 15; refine (keepLoad_any _ _).mono ?_; rintro e w' ⟨rfl, hw'⟩; rw [hw']; clear hw' w')
    | (go_at_call 33; refine (keepConst_any _ _).mono ?_; rintro e w' ⟨rfl, hw'⟩; rw [hw']; clear hw' w')
    | (go_at_call 16; refine (keepOp_any _ _).mono ?_; rintro e w' ⟨rfl, hw'⟩; rw [hw']; clear hw' w'))
  obtain ⟨CK, CCK, hK⟩ := known_prog w
  have hKB := known_below w
  have hKZ := known_size w
  have hld := load_fine _ 0 2 2 FK CK CCK (knownW w) hK (HP.out.2.1.below hKB (by have := HP.out.1.lt; omega)) known_fine
  have HLD := hid hld
  have HK := hid (And.intro hKB hKZ)
  clear hld hK hKB hKZ
  refine (show Calls Tryz.prog 17 #[.slice (some ⟨w.heap.size + 1 + 1 + 1 + 1 + 1 + 1 + 1 + 1, 0, none⟩) 2 2] (knownW w) _ from HLD.out.mono ?_)
  rintro e w2 ⟨v, rfl, hB2, b, g, cap, rfl, hb1, hb2, hc0, hg1, hg2, hne, CA2, CC2, hcp⟩
  have hP2 : ProgAt w2 g 0 2 FK CA2 CC2 := ⟨hg2, fun k hk => (hcp k hk).1⟩
  have hrun := knownRun w2 b g 0 cap CA2 CC2 hc0 hb2 hP2
  have HR := hid hrun
  have HB2 := hid (HK.out.1.trans (hB2.mono (by have := HK.out.2; omega)))
  clear hrun hP2 hcp hc0 hB2 HLD HK
  go_wp2_with fail
  refine HR.out.mono ?_
  rintro e w3 ⟨p3, n3, c3, rfl, hB3⟩
  have hB3' : Below w.heap.size w (w3.alloc (.cells #[.int .i64 1, .int .i64 8, .int .i64 1, .int .i64 49, .slice p3 n3 c3] 46)) := (HB2.out.trans (hB3.mono HB2.out.size)).alloc (by have := HB2.out.size; have := hB3.size; omega) _
  have hld := load_fine pb po pc m F CA CC _ (HP.out.1.below hB3' (Nat.le_refl _)) (HP.out.2.1.below hB3' (by have := HP.out.1.lt; omega)) HP.out.2.2
  have HLD := hid hld
  have HB3 := hid hB3'
  clear hld hB3' hB3 HR HB2 HP
  go_wp2_with fail
  refine HLD.out.mono ?_
  rintro e w5 ⟨v5, rfl, hB5, hC5⟩
  obtain ⟨b5, g5, cap5, rfl, h5⟩ := hC5
  have HQ := hid (And.intro HB3.out (And.intro hB5 (⟨b5, g5, cap5, rfl, h5⟩ : CodeIs _ w5 (.pointer (some ⟨b5, 0, none⟩)) m F)))
  clear hB5 h5 HLD HB3
  go_wp2
  go_ret2
  exact ⟨_, _, rfl, HQ.out⟩
end Go.Proofs.YtkafkipjedpohaaGreatDoor
