import Derived.Test.YtkafkipjedpohaaGreatDoorC2
import Derived.ProofKit
import Derived.Deep.SlicePairs
import Derived.Deep.Strs
import Derived.Test.YtkafkipjedpohaaGreatDoorK4
import Derived.Test.YtkafkipjedpohaaGreatDoorW1

/-
  upshiftlaw.lent: the walk.
-/
namespace Go.Proofs.YtkafkipjedpohaaGreatDoor
open Go.RowKit

/-- An argument that is a program: of whatever length, nil too. -/
def Given (w : World) (p : Option Addr) (m : Nat) (F : Nat → PF) (CA : Nat → Option Addr) (CC : Nat → Nat) : Prop :=
  1 ≤ m → ∃ pb po, p = some ⟨pb, po, none⟩ ∧ ProgAt w pb po m F CA CC

end Go.Proofs.YtkafkipjedpohaaGreatDoor

/-
  The argument opened: a program that is handed in, as it lies in memory.
-/
namespace Go.Proofs.YtkafkipjedpohaaGreatDoor
open Go.RowKit Go.Deep Go.ChangeShapes

theorem cell_there {w : World} {a : Addr} {v : Value} (h : w.cell? a = some v) : a.block < w.heap.size ∧ a.spot = none := by
  unfold World.cell? at h
  cases hb : w.heap[a.block]? with
  | none => rw [hb] at h; cases h
  | some o =>
    obtain ⟨hl, _⟩ := Array.getElem?_eq_some_iff.1 hb
    rw [hb] at h
    cases o with
    | cells c e f =>
      refine ⟨hl, ?_⟩
      cases hs : a.spot with
      | none => rfl
      | some s => simp [hs] at h
    | _ => cases h

theorem addr_plain {a : Addr} (h : a.spot = none) : a = ⟨a.block, a.off, none⟩ := by
  cases a with
  | mk b o s => simp only at h; subst h; rfl

theorem Tryz.cells3 : Tryz.prog.cellsOf 3 = 1 := by kernel_rfl
theorem Tryz.cells2 : Tryz.prog.cellsOf 2 = 1 := by kernel_rfl
section
variable {H : Type} {enc : TypeId × Value → H} {w : World}

end
end Go.Proofs.YtkafkipjedpohaaGreatDoor

/-
  The argument opened: lines that are handed in, as they lie in memory.
-/
namespace Go.Proofs.YtkafkipjedpohaaGreatDoor
open Go.RowKit Go.Deep Go.ChangeShapes

theorem Tryz.cells77 : Tryz.prog.cellsOf 77 = 7 := by kernel_rfl
theorem Tryz.bytes77 : Tryz.prog.bytesOf 77 = 56 := by kernel_rfl

theorem wf_i64 {n : Int} (h : (Lit.int .i64 n).wf = true) : I64 n := by
  unfold Lit.wf at h
  simp only [Bool.and_eq_true, decide_eq_true_eq] at h
  have h1 : IntKind.i64.min ≤ n := h.1
  have h2 : n ≤ IntKind.i64.max := h.2
  exact ⟨by have e : IntKind.i64.min = -9223372036854775808 := by decide
            omega, by have e : IntKind.i64.max = 9223372036854775807 := by decide
                      omega⟩

section
variable {H : Type} {enc : TypeId × Value → H} {w : World}

theorem trod_struct7 {P : Program} {base : Nat} {spare : Nat → Bool} {held : Bool} {t : TypeId} {f0 f1 f2 f3 f4 f5 f6 : Field} {fuel : Nat} {cs : List Value} {x : DataW H × List MemPlace} (ht : P.underlying t = some (.struct #[f0, f1, f2, f3, f4, f5, f6])) (h : DataW.trod enc P w base spare held fuel t cs = some x) :
    ∃ y0 y1 y2 y3 y4 y5 y6 n, DataW.trod enc P w base spare held n f0.type ((cs.drop f0.offset).take (P.cellsOf f0.type)) = some y0 ∧ DataW.trod enc P w base spare held n f1.type ((cs.drop f1.offset).take (P.cellsOf f1.type)) = some y1 ∧ DataW.trod enc P w base spare held n f2.type ((cs.drop f2.offset).take (P.cellsOf f2.type)) = some y2 ∧ DataW.trod enc P w base spare held n f3.type ((cs.drop f3.offset).take (P.cellsOf f3.type)) = some y3 ∧ DataW.trod enc P w base spare held n f4.type ((cs.drop f4.offset).take (P.cellsOf f4.type)) = some y4 ∧ DataW.trod enc P w base spare held n f5.type ((cs.drop f5.offset).take (P.cellsOf f5.type)) = some y5 ∧ DataW.trod enc P w base spare held n f6.type ((cs.drop f6.offset).take (P.cellsOf f6.type)) = some y6 := by
  obtain ⟨xs, n, _, rfl, hl, hlen, hf⟩ := DataW.trod_struct ht h
  match xs, hlen with
  | [y0, y1, y2, y3, y4, y5, y6], _ => exact ⟨y0, y1, y2, y3, y4, y5, y6, n, by simpa using hf 0 f0 rfl, by simpa using hf 1 f1 rfl, by simpa using hf 2 f2 rfl, by simpa using hf 3 f3 rfl, by simpa using hf 4 f4 rfl, by simpa using hf 5 f5 rfl, by simpa using hf 6 f6 rfl⟩

set_option maxRecDepth 100000 in
/-- Lines. -/
theorem open_lines {fuel : Nat} {v : Value} {x : DataW H × List MemPlace} (h : DataW.trod enc Tryz.prog w 0 (fun _ => true) true fuel 22 [v] = some x) (hw : ∀ y ∈ x.1.weights Tryz.prog 22, y ≤ reachBytes) :
    ∃ (p : Option Addr) (ls : List Ln) (pc : Nat), v = .slice p ls.length pc ∧ LinesIn w p ls ∧ 56 * ls.length ≤ reachBytes := by
  rcases open_slice Tryz.underlying22 h with ⟨e, rfl⟩ | ⟨a, len, cap, m, n, D, Pl, e, _, hl, _, hm, rfl, hx⟩
  · injection e with e
    exact ⟨none, [], 0, e, fun h => absurd rfl h, by simp⟩
  · injection e with e
    simp only [if_true] at hm
    subst hm
    have hw1 : 56 * len ≤ reachBytes := by
      have := hw ((len + (m - len)) * 56) (by
        simp only [DataW.weights, Tryz.underlying22, List.length_map, List.length_range, Tryz.bytes77]
        exact List.mem_cons_self)
      omega
    have each : ∀ i, i < len → ∃ q : Ln, LnOk q ∧ w.cell? (a.add (i * 7)) = some (.int .i64 q.i) ∧ w.cell? (a.add (i * 7 + 1)) = some (.int .i64 q.kind) ∧ w.cell? (a.add (i * 7 + 2)) = some (.int .i64 q.p) ∧ w.cell? (a.add (i * 7 + 3)) = some (.int .i64 q.q) ∧ w.cell? (a.add (i * 7 + 4)) = some (.int .i64 q.r) ∧ w.cell? (a.add (i * 7 + 5)) = some (.int .i64 q.loop) ∧ w.cell? (a.add (i * 7 + 6)) = some (.int .i64 q.num) := by
      intro i hi
      obtain ⟨cs', h1, h2⟩ := hx i (by omega)
      rw [Tryz.cells77] at h1
      obtain ⟨_, hlen, hcell⟩ := World.cells?_some h1
      obtain ⟨y0, y1, y2, y3, y4, y5, y6, n', g0, g1, g2, g3, g4, g5, g6⟩ := trod_struct7 Tryz.underlying77 h2
      match cs', hlen with
      | [v0, v1, v2, v3, v4, v5, v6], _ =>
        simp only [Tryz.cells3, Tryz.cells2] at g0 g1 g2 g3 g4 g5 g6
        simp at g0 g1 g2 g3 g4 g5 g6
        obtain ⟨z0, e0, _, w0⟩ := DataW.trod_int Tryz.underlying3 g0
        obtain ⟨z1, e1, _, w1⟩ := DataW.trod_int Tryz.underlying3 g1
        obtain ⟨z2, e2, _, w2⟩ := DataW.trod_int Tryz.underlying3 g2
        obtain ⟨z3, e3, _, w3⟩ := DataW.trod_int Tryz.underlying3 g3
        obtain ⟨z4, e4, _, w4⟩ := DataW.trod_int Tryz.underlying3 g4
        obtain ⟨z5, e5, _, w5⟩ := DataW.trod_int Tryz.underlying3 g5
        obtain ⟨z6, e6, _, w6⟩ := DataW.trod_int Tryz.underlying2 g6
        simp at e0 e1 e2 e3 e4 e5 e6
        have k0 := hcell 0 (by omega)
        have k1 := hcell 1 (by omega)
        have k2 := hcell 2 (by omega)
        have k3 := hcell 3 (by omega)
        have k4 := hcell 4 (by omega)
        have k5 := hcell 5 (by omega)
        have k6 := hcell 6 (by omega)
        rw [add_add] at k0 k1 k2 k3 k4 k5 k6
        exact ⟨⟨z0, z1, z2, z3, z4, z5, z6⟩, ⟨wf_i64 w0, wf_i64 w1, wf_i64 w2, wf_i64 w3, wf_i64 w4, wf_i64 w5, wf_i64 w6⟩, by simpa [e0] using k0, by simpa [e1] using k1, by simpa [e2] using k2, by simpa [e3] using k3, by simpa [e4] using k4, by simpa [e5] using k5, by simpa [e6] using k6⟩
    have inh : Inhabited Ln := ⟨⟨0, 0, 0, 0, 0, 0, 0⟩⟩
    obtain ⟨q, hq⟩ := choose_lt (α := Ln) each
    refine ⟨some a, (List.range len).map q, m, by simpa using e, fun hne => ?_, by simpa using hw1⟩
    have hlen1 : 1 ≤ len := by
      cases len with
      | zero => simp at hne
      | succ k => omega
    have h0 := (hq 0 (by omega)).2.1
    obtain ⟨hlt, hsp⟩ := cell_there h0
    have hsp' : a.spot = none := by simpa [Addr.add] using hsp
    have hlt' : a.block < w.heap.size := by simpa [Addr.add] using hlt
    refine ⟨a.block, a.off, by rw [← addr_plain hsp'], hlt', fun i l hl' => ?_⟩
    have hi : i < len := by have := (List.getElem?_eq_some_iff.1 hl').1; simpa using this
    have hql : q i = l := by simpa [hi] using hl'
    subst hql
    obtain ⟨ok, c0, c1, c2, c3, c4, c5, c6⟩ := hq i hi
    rw [addr_plain hsp', Addr.add_lit] at c0 c1 c2 c3 c4 c5 c6
    exact ⟨ok, c0, c1, c2, c3, c4, c5, c6⟩
end
end Go.Proofs.YtkafkipjedpohaaGreatDoor

/-
  The argument opened: events that are handed in, as they lie in memory.
-/
namespace Go.Proofs.YtkafkipjedpohaaGreatDoor
open Go.RowKit Go.Deep Go.ChangeShapes

theorem Tryz.cells65 : Tryz.prog.cellsOf 65 = 3 := by kernel_rfl
theorem Tryz.bytes65 : Tryz.prog.bytesOf 65 = 24 := by kernel_rfl

section
variable {H : Type} {enc : TypeId × Value → H} {w : World}

set_option maxRecDepth 100000 in
/-- Events. -/
theorem open_evs {fuel : Nat} {v : Value} {x : DataW H × List MemPlace} (h : DataW.trod enc Tryz.prog w 0 (fun _ => true) true fuel 57 [v] = some x) (hw : ∀ y ∈ x.1.weights Tryz.prog 57, y ≤ reachBytes) :
    ∃ E : List Ev, EvV w w.heap.size v E ∧ RawOk E ∧ 24 * E.length ≤ reachBytes := by
  rcases open_slice Tryz.underlying57 h with ⟨e, rfl⟩ | ⟨a, len, cap, m, n, D, Pl, e, _, hl, _, hm, rfl, hx⟩
  · injection e with e
    exact ⟨[], ⟨none, 0, e, Nat.le_refl _, fun h => absurd rfl h⟩, fun i hi => absurd hi (by simp), by simp⟩
  · injection e with e
    simp only [if_true] at hm
    subst hm
    have hw1 : 24 * len ≤ reachBytes := by
      have := hw ((len + (m - len)) * 24) (by
        simp only [DataW.weights, Tryz.underlying57, List.length_map, List.length_range, Tryz.bytes65]
        exact List.mem_cons_self)
      omega
    have each : ∀ i, i < len → ∃ q : Int × Int × Int, w.cell? (a.add (i * 3)) = some (.int .i64 q.1) ∧ w.cell? (a.add (i * 3 + 1)) = some (.int .i64 q.2.1) ∧ w.cell? (a.add (i * 3 + 2)) = some (.int .i64 q.2.2) ∧ I64 q.1 ∧ I64 q.2.1 ∧ I64 q.2.2 := by
      intro i hi
      obtain ⟨cs', h1, h2⟩ := hx i (by omega)
      rw [Tryz.cells65] at h1
      obtain ⟨_, hlen, hcell⟩ := World.cells?_some h1
      obtain ⟨y0, y1, y2, n', _, _, g0, g1, g2⟩ := trod_struct3 Tryz.underlying65 h2
      match cs', hlen with
      | [v0, v1, v2], _ =>
        simp only [Tryz.cells3] at g0 g1 g2
        simp at g0 g1 g2
        obtain ⟨z0, e0, _, w0⟩ := DataW.trod_int Tryz.underlying3 g0
        obtain ⟨z1, e1, _, w1⟩ := DataW.trod_int Tryz.underlying3 g1
        obtain ⟨z2, e2, _, w2⟩ := DataW.trod_int Tryz.underlying3 g2
        simp at e0 e1 e2
        have k0 := hcell 0 (by omega)
        have k1 := hcell 1 (by omega)
        have k2 := hcell 2 (by omega)
        rw [add_add] at k0 k1 k2
        exact ⟨(z0, z1, z2), by simpa [e0] using k0, by simpa [e1] using k1, by simpa [e2] using k2, wf_i64 w0, wf_i64 w1, wf_i64 w2⟩
    have inh : Inhabited (Int × Int × Int) := ⟨(0, 0, 0)⟩
    obtain ⟨q, hq⟩ := choose_lt (α := Int × Int × Int) each
    have hgd : ∀ i, i < len → ((List.range len).map fun i => (⟨(q i).1, (q i).2.1, (q i).2.2⟩ : Ev)).getD i ⟨0, 0, 0⟩ = ⟨(q i).1, (q i).2.1, (q i).2.2⟩ := fun i hi => by simp [hi]
    refine ⟨(List.range len).map fun i => ⟨(q i).1, (q i).2.1, (q i).2.2⟩, ⟨some a, m, by simpa using e, by simpa using hl, fun hne => ?_⟩, fun i hi => ?_, by simpa using hw1⟩
    · have hlen1 : 1 ≤ len := by
        cases len with
        | zero => simp at hne
        | succ k => omega
      have h0 := (hq 0 (by omega)).1
      obtain ⟨hlt, hsp⟩ := cell_there h0
      have hsp' : a.spot = none := by simpa [Addr.add] using hsp
      have hlt' : a.block < w.heap.size := by simpa [Addr.add] using hlt
      refine ⟨a.block, a.off, by rw [← addr_plain hsp'], hlt', fun i hi => ?_⟩
      have hi' : i < len := by simpa using hi
      rw [hgd i hi']
      obtain ⟨c0, c1, c2, _⟩ := hq i hi'
      rw [addr_plain hsp', Addr.add_lit] at c0 c1 c2
      exact ⟨c0, c1, c2⟩
    · have hi' : i < len := by simpa using hi
      rw [hgd i hi']
      exact (hq i hi').2.2.2
end
end Go.Proofs.YtkafkipjedpohaaGreatDoor
