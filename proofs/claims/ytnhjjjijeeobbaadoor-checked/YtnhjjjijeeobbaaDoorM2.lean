/-
  The project's own stacks, of frames: Push, Pop, Top, Len.
-/
import Derived.Test.YtnhjjjijeeobbaaDoorM1
namespace Go.Proofs.YtnhjjjijeeobbaaDoor
open Go.RowKit

/-- The cells of a list of frames: their addresses. -/
def pcell (FB : Nat → Nat) : Nat → Value := fun i => .pointer (some ⟨FB i, 0, none⟩)

theorem Tryd.infoPtr : (Tryd.prog.info? 123).map (fun i => (i.zero, i.size, i.bytes)) = some (some (.pointer none), 1, 8) := by kernel_rfl

theorem lenF (w : World) (b o n : Nat) (c : Nat) (p : Option Addr) (h : w.cell? ⟨b, o, none⟩ = some (.slice p n c)) :
    Calls Tryd.prog 81 #[.pointer (some ⟨b, o, none⟩)] w fun e w' => e = .returned (.int .i64 n) ∧ w' = w := by
  go_enter Tryd.func81, Tryd.ntmps81
  go_wp2
  go_ret
  exact ⟨rfl, rfl⟩

set_option maxRecDepth 100000 in
theorem topF (w : World) (b o n sb c : Nat) (q : Value) (h : w.cell? ⟨b, o, none⟩ = some (.slice (some ⟨sb, 0, none⟩) (n + 1) c)) (hq : w.cell? ⟨sb, n, none⟩ = some q) (hn : n ≤ 100000) :
    Calls Tryd.prog 91 #[.pointer (some ⟨b, o, none⟩)] w fun e w' => e = .returned q ∧ ∃ k, w' = w.drewN k := by
  go_enter Tryd.func91, Tryd.ntmps91
  go_wp2
  go_quiet (fail)
  go_wp2
  go_ret
  exact ⟨rfl, _, rfl⟩

set_option maxRecDepth 100000 in
set_option maxHeartbeats 1000000 in
theorem popF (w : World) (b o n sb c : Nat) (q : Value) (h : w.cell? ⟨b, o, none⟩ = some (.slice (some ⟨sb, 0, none⟩) (n + 1) c)) (hz : w.frozen? ⟨b, o, none⟩ = false) (hq : w.cell? ⟨sb, n, none⟩ = some q) (hn : n ≤ 100000) (hc : n + 1 ≤ c) :
    Calls Tryd.prog 105 #[.pointer (some ⟨b, o, none⟩)] w fun e w' => e = .returned q ∧ w' = w.setCell ⟨b, o, none⟩ (.slice (some ⟨sb, 0, none⟩) n c) := by
  go_enter Tryd.func105, Tryd.ntmps105
  go_wp2
  go_ret
  exact ⟨rfl, rfl⟩

set_option maxRecDepth 100000 in
set_option maxHeartbeats 1000000 in
theorem pushF (w : World) (B b o c : Nat) (t : TypeId) (tag : Nat → Nat) (cur : Array Value) (sv : Value) (n : Nat) (FB : Nat → Nat) (q : Nat) (hb : w.heap[b]? = some (.cells cur t (0, 0))) (ho : cur[o]? = some sv) (hBb : B ≤ b) (hB : B ≤ w.heap.size) (hne : tag b ≠ c) (hrow : Row w B tag c 123 1 sv n (pcell FB)) (hn : n ≤ 100000) :
    Calls Tryd.prog 78 #[.pointer (some ⟨b, o, none⟩), .pointer (some ⟨q, 0, none⟩)] w fun e w' => e = .returned (.tuple #[]) ∧
      ∃ tag' sv', Row w' B tag' c 123 1 sv' (n + 1) (pcell (upd FB n q)) ∧ w'.heap[b]? = some (.cells (cur.setIfInBounds o sv') t (0, 0)) ∧ Ch B (fun d => d = c ∨ d = tag b) tag tag' w w' := by
  have hbz := heap_lt hb
  obtain ⟨inf, hi, hz0, hz1, hz2⟩ : ∃ i, Tryd.prog.info? 123 = some i ∧ i.zero = some (.pointer none) ∧ i.size = 1 ∧ i.bytes = 8 := by
    obtain ⟨i, hi, hzz⟩ := Option.map_eq_some_iff.1 Tryd.infoPtr
    simp only [Prod.mk.injEq] at hzz
    exact ⟨i, hi, hzz.1, hzz.2.1, hzz.2.2⟩
  have d3 : w.cell? ⟨b, o, none⟩ = some sv := (cell_heap hb).trans ho
  have y3 : w.frozen? ⟨b, o, none⟩ = false := frozen_heap hb
  have hne1 : some b ≠ sv.ownBlock := hrow.other hne
  have HC := hid (And.intro hrow (And.intro hb hne))
  clear hrow hb ho hne
  go_enter Tryd.func78, Tryd.ntmps78
  go_wp2_with (at_builtin; refine stopHereM ?_)
  refine ⟨?_, trivial⟩
  refine wpList_append_lies _ rfl _ _ _ rfl B 123 inf _ 1 8 Tryd.underlying115 hi hz0 hz1 hz2 rfl (by decide) sv n _ rfl (HC.out.1.owns.alloc _) ⟨w.heap.size, 0, none⟩ 1 1 [.pointer (some ⟨q, 0, none⟩)] rfl rfl (World.news_of_block (Go.Deep.blk_alloc_new w _)) (by intro u hu; simp at hu; subst hu; rfl) (by omega) (by unfold maxLen; omega) (by omega) (by simp; omega) (w.heap.size + 1) (by simp) ?_
  intro g cap w1 hown hgrow hat hlt
  have hX : Ch B (fun _ => False) tag tag w (w.alloc (.cells #[.pointer (some ⟨q, 0, none⟩)] 123)) := Ch.of_below ((Below.refl _ _).alloc (Nat.le_refl _) _)
  have hblk : (w.alloc (.cells #[.pointer (some ⟨q, 0, none⟩)] 123)).heap[b]? = w.heap[b]? := Below.heap_alloc w _ b hbz
  obtain ⟨tag', hst, hgc⟩ := (HC.out.1.keep hX (fun h => h)).grew hown hgrow (by rcases hat with h | h; exact Or.inl h; right; rw [h]; simp) rfl
  have hlx : b < (w.alloc (.cells #[.pointer (some ⟨q, 0, none⟩)] 123)).heap.size := by simp; omega
  have htf : tag' b = tag b := hgc.tags b hlx
  have hb1 : w1.heap[b]? = some (.cells cur t (0, 0)) := (hgc.block b hlx (Or.inr HC.out.2.2)).trans (hblk.trans HC.out.2.1)
  have hb2 := heap_set (o := o) hb1 (.slice (some ⟨g, 0, none⟩) (n + 1) cap)
  have hcs : Ch B (fun d => d = tag b) tag' tag' w1 (w1.setCell ⟨b, o, none⟩ (.slice (some ⟨g, 0, none⟩) (n + 1) cap)) := Ch.set w1 b _ _ hBb htf
  have hst2 := (hst.keep hcs (fun h => HC.out.2.2 h.symm)).congr (g := pcell (upd FB n q)) (fun i hi => by
    unfold pcell
    by_cases h : i < n * 1
    · rw [if_pos h, upd_other _ _ _ _ (by omega)]
    · obtain rfl : i = n := by omega
      rw [if_neg h, upd_same]
      simp)
  have hall : Ch B (fun d => d = c ∨ d = tag b) tag tag' w (w1.setCell ⟨b, o, none⟩ (.slice (some ⟨g, 0, none⟩) (n + 1) cap)) :=
    ((hX.mono (fun _ h => h.elim)).trans (hgc.mono (fun _ h => Or.inl h))).trans (hcs.mono (fun _ h => Or.inr h))
  have q0 : w1.cell? ⟨b, o, none⟩ = some sv := (cell_heap hb1).trans ((cell_heap HC.out.2.1).symm.trans d3)
  have q1 : w1.frozen? ⟨b, o, none⟩ = false := frozen_heap hb1
  have HQ := hid (And.intro hst2 (And.intro hb2 hall))
  clear hall hst2 hcs hst hgc hX hown hgrow hb1 hb2 hblk
  go_wp2
  go_end0
  exact ⟨rfl, tag', _, HQ.out⟩
end Go.Proofs.YtnhjjjijeeobbaaDoor
