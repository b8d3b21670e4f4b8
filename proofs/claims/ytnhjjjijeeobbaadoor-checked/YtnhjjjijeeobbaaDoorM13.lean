/-
  The project's machine: Outcome; upshift's Run.
-/
import Derived.Test.YtnhjjjijeeobbaaDoorM12
namespace Go.Proofs.YtnhjjjijeeobbaaDoor
open Go.RowKit

theorem setCell_far {w : World} {a b : Addr} {u v : Value} (h : w.cell? a = some u) (hne : ¬ a.block = b.block) : (w.setCell b v).cell? a = some u :=
  (World.cell?_of_block (w := w) (Below.heap_setCell _ _ _ _ hne)).trans h

/-- An outcome that goes out. -/
def OutcomeV (en : Int) (s : Mc) (v : Value) : Value := .agg #[.int .i64 en, .int .i64 s.steps, .int .i64 s.gives.k, .int .i64 s.gives.n, v]

theorem below_set {B : Nat} {w v : World} (h : Below B w v) {b o : Nat} (hb : B ≤ b) (x : Value) : Below B w (v.setCell ⟨b, o, none⟩ x) :=
  ⟨h.os, h.tape, h.output, by have := h.size; simp [World.setCell]; omega, fun k hk => by rw [Below.heap_setCell _ _ _ _ (by dsimp only; omega)]; exact h.block k hk⟩

/-- A store into a block that was there is not seen in a list that was made since. -/
theorem OutL.set {w X v : World} {u : Value} {l : List V} (h : OutL X v u l) {b o : Nat} (hw : w.heap.size ≤ X.heap.size) (hb : b < X.heap.size) (x : Value) : OutL w (v.setCell ⟨b, o, none⟩ x) u l ∧ OutL X (v.setCell ⟨b, o, none⟩ x) u l := by
  rcases h with h | ⟨g, cap, cur, hv, hg, ht, hh, hr⟩
  · exact ⟨Or.inl h, Or.inl h⟩
  · have e : (v.setCell ⟨b, o, none⟩ x).heap[g]? = v.heap[g]? := Below.heap_setCell _ _ _ _ (by dsimp only; omega)
    exact ⟨Or.inr ⟨g, cap, cur, hv, by omega, ht, e.trans hh, hr⟩, Or.inr ⟨g, cap, cur, hv, hg, ht, e.trans hh, hr⟩⟩

theorem OutL.later {w w' w2 : World} {v : Value} {l : List V} (h : OutL w w' v l) (k : Below w'.heap.size w' w2) : OutL w w2 v l := Row.below h k

set_option maxRecDepth 100000 in
set_option maxHeartbeats 1000000 in
theorem outcomeM (w : World) (B mb : Nat) (A : AdM) (s : Mc) (en : Int) (hL : LayM w B mb A s en) (hl : s.out.length ≤ 200000) :
    Calls Tryd.prog 36 #[.pointer (some ⟨mb, 0, none⟩)] w fun e w' => ∃ v, e = .returned (OutcomeV en s v) ∧ Below w.heap.size w w' ∧ OutL w w' v s.out := by
  have hW : Below w.heap.size w (w.alloc (.cells #[.int .i64 0, .int .i64 0, .int .i64 0, .int .i64 0, .slice none 0 0] 48)) := (Below.refl _ _).alloc (Nat.le_refl _) _
  have l1 := hL.below hW
  have hz : (w.alloc (.cells #[.int .i64 0, .int .i64 0, .int .i64 0, .int .i64 0, .slice none 0 0] 48)).heap.size = w.heap.size + 1 := by simp
  have x4 : (w.alloc (.cells #[.int .i64 0, .int .i64 0, .int .i64 0, .int .i64 0, .slice none 0 0] 48)).cell? ⟨mb, 4, none⟩ = some A.ov := (cell_heap l1.run).trans rfl
  have x5 : (w.alloc (.cells #[.int .i64 0, .int .i64 0, .int .i64 0, .int .i64 0, .slice none 0 0] 48)).cell? ⟨mb, 5, none⟩ = some (.int .i64 s.steps) := (cell_heap l1.run).trans rfl
  have x6 : (w.alloc (.cells #[.int .i64 0, .int .i64 0, .int .i64 0, .int .i64 0, .slice none 0 0] 48)).cell? ⟨mb, 6, none⟩ = some (.int .i64 en) := (cell_heap l1.run).trans rfl
  have x7 : (w.alloc (.cells #[.int .i64 0, .int .i64 0, .int .i64 0, .int .i64 0, .slice none 0 0] 48)).cell? ⟨mb, 7, none⟩ = some (.int .i64 s.gives.k) := (cell_heap l1.run).trans rfl
  have x8 : (w.alloc (.cells #[.int .i64 0, .int .i64 0, .int .i64 0, .int .i64 0, .slice none 0 0] 48)).cell? ⟨mb, 8, none⟩ = some (.int .i64 s.gives.n) := (cell_heap l1.run).trans rfl
  have hmz := heap_lt hL.run
  have HL := hid (And.intro l1.out (And.intro hW hz))
  have HX := hid (And.intro x4 (And.intro x5 (And.intro x6 (And.intro x7 x8))))
  clear hL l1 hW hz x4 x5 x6 x7 x8
  go_enter Tryd.func36, Tryd.ntmps36
  go_wp2_with fail
  obtain ⟨x4, x5, x6, x7, x8⟩ := HX.out
  clear HX
  have hWz : mb < (w.alloc (.cells #[.int .i64 0, .int .i64 0, .int .i64 0, .int .i64 0, .slice none 0 0] 48)).heap.size := by simp; omega
  have r0 : (w.alloc (.cells #[.int .i64 0, .int .i64 0, .int .i64 0, .int .i64 0, .slice none 0 0] 48)).heap[w.heap.size]? = some (.cells #[.int .i64 0, .int .i64 0, .int .i64 0, .int .i64 0, .slice none 0 0] 48 (0, 0)) := Go.Deep.blk_alloc_new _ _
  have HR := hid r0
  clear r0
  have hne : ¬ mb = w.heap.size := by omega
  generalize w.alloc (.cells #[.int .i64 0, .int .i64 0, .int .i64 0, .int .i64 0, .slice none 0 0] 48) = W at *
  have hrz : w.heap.size < W.heap.size := by have := HL.out.2.2; omega
  obtain ⟨op, oc, hov, _⟩ := HL.out.1.any
  have HCl := hid (fun (X : World) (hX : Below W.heap.size W X) => cloneV X B A.tag 3 A.ov s.out (HL.out.1.below hX) hl)
  rw [hov] at x4 HCl
  clear hov
  go_region_held3 (fun w' => w'.cell? ⟨mb, 4, none⟩ = some (.slice op s.out.length oc) ∧ w'.cell? ⟨mb, 5, none⟩ = some (.int .i64 s.steps) ∧ w'.cell? ⟨mb, 6, none⟩ = some (.int .i64 en) ∧ w'.cell? ⟨mb, 7, none⟩ = some (.int .i64 s.gives.k) ∧ w'.cell? ⟨mb, 8, none⟩ = some (.int .i64 s.gives.n))
    ((refine ⟨?_, ?_, ?_, ?_, ?_⟩ <;> (repeat (with_reducible refine setCell_far ?_ hne)) <;> (first | with_reducible exact q4 | with_reducible exact q5 | with_reducible exact q6 | with_reducible exact q7 | with_reducible exact q8 | exact x4 | exact x5 | exact x6 | exact x7 | exact x8)))
    (first
      | (go_at_call 58; refine (HCl.out _ ?_).mono ?_; exact (Below.refl _ _).drew; rintro e w3 ⟨v3, he, hB3, hO3⟩; obtain ⟨p3, cp3, hv3, hlc3⟩ := Row.any hO3; subst hv3; subst he; have q4 := (hB3.cell (p := ⟨mb, 4, none⟩) hWz).trans x4; have q5 := (hB3.cell (p := ⟨mb, 5, none⟩) hWz).trans x5; have q6 := (hB3.cell (p := ⟨mb, 6, none⟩) hWz).trans x6; have q7 := (hB3.cell (p := ⟨mb, 7, none⟩) hWz).trans x7; have q8 := (hB3.cell (p := ⟨mb, 8, none⟩) hWz).trans x8; have r3 := (hB3.block w.heap.size hrz).trans HR.out; have c0 : w3.cell? ⟨w.heap.size, 0, none⟩ = some (.int .i64 0) := (cell_heap r3).trans rfl; have c1 : w3.cell? ⟨w.heap.size, 1, none⟩ = some (.int .i64 0) := (cell_heap r3).trans rfl; have c2 : w3.cell? ⟨w.heap.size, 2, none⟩ = some (.int .i64 0) := (cell_heap r3).trans rfl; have c3 : w3.cell? ⟨w.heap.size, 3, none⟩ = some (.int .i64 0) := (cell_heap r3).trans rfl; have c4 : w3.cell? ⟨w.heap.size, 4, none⟩ = some (.slice none 0 0) := (cell_heap r3).trans rfl; have z0 := frozen_heap (o := 0) r3; have z1 := frozen_heap (o := 1) r3; have z2 := frozen_heap (o := 2) r3; have z3 := frozen_heap (o := 3) r3; have z4 := frozen_heap (o := 4) r3; clear r3))
  rename_i hheld
  have r3 := (hB3.block w.heap.size hrz).trans HR.out
  have r4 := heap_set (o := 4) (heap_set (o := 3) (heap_set (o := 2) (heap_set (o := 1) (heap_set (o := 0) r3 (.int .i64 en)) (.int .i64 s.steps)) (.int .i64 s.gives.k)) (.int .i64 s.gives.n)) (.slice p3 s.out.length cp3)
  have hbl : Below w.heap.size w (((((w3.setCell ⟨w.heap.size, 0, none⟩ (.int .i64 en)).setCell ⟨w.heap.size, 1, none⟩ (.int .i64 s.steps)).setCell ⟨w.heap.size, 2, none⟩ (.int .i64 s.gives.k)).setCell ⟨w.heap.size, 3, none⟩ (.int .i64 s.gives.n)).setCell ⟨w.heap.size, 4, none⟩ (.slice p3 s.out.length cp3)) :=
    below_set (below_set (below_set (below_set (below_set ((HL.out.2.1.drew).trans (hB3.mono (by show w.heap.size ≤ W.heap.size; omega))) (Nat.le_refl _) _) (Nat.le_refl _) _) (Nat.le_refl _) _) (Nat.le_refl _) _) (Nat.le_refl _) _
  have hwX : w.heap.size ≤ W.drew.heap.size := by show w.heap.size ≤ W.heap.size; omega
  have hbX : w.heap.size < W.drew.heap.size := hrz
  have hout := (OutL.set (OutL.set (OutL.set (OutL.set (OutL.set (o := 0) hO3 hwX hbX (.int .i64 en)).2 (o := 1) hwX hbX (.int .i64 s.steps)).2 (o := 2) hwX hbX (.int .i64 s.gives.k)).2 (o := 3) hwX hbX (.int .i64 s.gives.n)).2 (o := 4) hwX hbX (.slice p3 s.out.length cp3)).1
  have g0 : (((((w3.setCell ⟨w.heap.size, 0, none⟩ (.int .i64 en)).setCell ⟨w.heap.size, 1, none⟩ (.int .i64 s.steps)).setCell ⟨w.heap.size, 2, none⟩ (.int .i64 s.gives.k)).setCell ⟨w.heap.size, 3, none⟩ (.int .i64 s.gives.n)).setCell ⟨w.heap.size, 4, none⟩ (.slice p3 s.out.length cp3)).heap[w.heap.size]? = some (.cells #[.int .i64 en, .int .i64 s.steps, .int .i64 s.gives.k, .int .i64 s.gives.n, .slice p3 s.out.length cp3] 48 (0, 0)) := r4
  clear hheld q4 q5 q6 q7 q8 c0 c1 c2 c3 c4 z0 z1 z2 z3 z4 x4 x5 x6 x7 x8 r3 r4 hB3 hO3
  generalize ((((w3.setCell ⟨w.heap.size, 0, none⟩ (.int .i64 en)).setCell ⟨w.heap.size, 1, none⟩ (.int .i64 s.steps)).setCell ⟨w.heap.size, 2, none⟩ (.int .i64 s.gives.k)).setCell ⟨w.heap.size, 3, none⟩ (.int .i64 s.gives.n)).setCell ⟨w.heap.size, 4, none⟩ (.slice p3 s.out.length cp3) = V5 at *
  have y0 : V5.cell? ⟨w.heap.size, 0, none⟩ = some (.int .i64 en) := (cell_heap g0).trans rfl
  have y1 : V5.cell? ⟨w.heap.size, 1, none⟩ = some (.int .i64 s.steps) := (cell_heap g0).trans rfl
  have y2 : V5.cell? ⟨w.heap.size, 2, none⟩ = some (.int .i64 s.gives.k) := (cell_heap g0).trans rfl
  have y3 : V5.cell? ⟨w.heap.size, 3, none⟩ = some (.int .i64 s.gives.n) := (cell_heap g0).trans rfl
  have y4 : V5.cell? ⟨w.heap.size, 4, none⟩ = some (.slice p3 s.out.length cp3) := (cell_heap g0).trans rfl
  have HQ := hid (And.intro hbl hout)
  clear g0 hbl hout
  go_wp2
  exact bodyPost_ret (v := OutcomeV en s (.slice p3 s.out.length cp3)) (by simp [results, Tryd.results36, go_sem, y0, y1, y2, y3, y4, OutcomeV]) rfl ⟨_, rfl, HQ.out⟩
end Go.Proofs.YtnhjjjijeeobbaaDoor
