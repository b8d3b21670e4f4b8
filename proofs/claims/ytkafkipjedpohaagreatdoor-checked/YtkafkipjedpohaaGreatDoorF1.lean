import Derived.Test.YtkafkipjedpohaaGreatDoorD2
import Derived.ProofKit
import Derived.Deep.SlicePairs
import Derived.Deep.Strs

/-
  The argument opened: a program that is handed in, as it lies in memory.
-/
namespace Go.Proofs.YtkafkipjedpohaaGreatDoor
open Go.RowKit Go.Deep Go.ChangeShapes

theorem cell_there {w : World} {a : Addr} {v : Value} (h : w.cell? a = some v) : a.block < w.heap.size ∧ a.spot = none := by
  unfold World.cell? at h
  cases hb : w.heap[a.block]? with
  | none => rw [hb] at h; cases h
  | some o =>
    obtain ⟨hl, _⟩ := Array.getElem?_eq_some_iff.1 hb
    rw [hb] at h
    cases o with
    | cells c e f =>
      refine ⟨hl, ?_⟩
      cases hs : a.spot with
      | none => rfl
      | some s => simp [hs] at h
    | _ => cases h

theorem addr_plain {a : Addr} (h : a.spot = none) : a = ⟨a.block, a.off, none⟩ := by
  cases a with
  | mk b o s => simp only at h; subst h; rfl

theorem Tryz.cells33 : Tryz.prog.cellsOf 33 = 2 := by kernel_rfl
theorem Tryz.cells31 : Tryz.prog.cellsOf 31 = 3 := by kernel_rfl
theorem Tryz.cells3 : Tryz.prog.cellsOf 3 = 1 := by kernel_rfl
theorem Tryz.cells2 : Tryz.prog.cellsOf 2 = 1 := by kernel_rfl
theorem Tryz.cells29 : Tryz.prog.cellsOf 29 = 1 := by kernel_rfl
theorem Tryz.bytes33 : Tryz.prog.bytesOf 33 = 16 := by kernel_rfl
theorem Tryz.bytes31 : Tryz.prog.bytesOf 31 = 40 := by kernel_rfl

section
variable {H : Type} {enc : TypeId × Value → H} {w : World}

set_option maxRecDepth 100000 in
/-- A slice of instructions. -/
theorem open_code {fuel : Nat} {v : Value} {x : DataW H × List MemPlace} (h : DataW.trod enc Tryz.prog w 0 (fun _ => true) true fuel 29 [v] = some x) :
    ∃ (ca : Option Addr) (cn cc : Nat) (op ar : Nat → Int), v = .slice ca cn cc ∧ (1 ≤ cn → ∃ cb co, ca = some ⟨cb, co, none⟩ ∧ cb < w.heap.size ∧ CodeAt w cb co cn op ar) ∧
      ((∀ y ∈ x.1.weights Tryz.prog 29, y ≤ reachBytes) → 16 * cn ≤ reachBytes) := by
  rcases open_slice_pairs Tryz.underlying29 Tryz.underlying33 Tryz.cells33 rfl rfl Tryz.cells3 Tryz.cells2 h with ⟨e, rfl⟩ | ⟨a, len, cap, m, n, V0, V1, D0, D1, P0, P1, e, _, hl, _, hm, rfl, hx⟩
  · injection e with e
    refine ⟨none, 0, 0, fun _ => 0, fun _ => 0, e, fun h => by omega, fun _ => by simp⟩
  · injection e with e
    simp only [if_true] at hm
    subst hm
    have hint : ∀ i, i < m → ∃ q : Int × Int, V0 i = .int .i64 q.1 ∧ V1 i = .int .i64 q.2 := fun i hi => by
      obtain ⟨_, _, g0, g1⟩ := hx i hi
      obtain ⟨z0, e0, _, _⟩ := DataW.trod_int Tryz.underlying3 g0
      obtain ⟨z1, e1, _, _⟩ := DataW.trod_int Tryz.underlying2 g1
      simp at e0 e1
      exact ⟨(z0, z1), e0, e1⟩
    obtain ⟨q, hq⟩ := choose_lt hint
    refine ⟨some a, len, m, fun i => (q i).1, fun i => (q i).2, e, fun h1 => ?_, fun hw => ?_⟩
    · have h0 := (hx 0 (by omega)).1
      obtain ⟨hlt, hsp⟩ := cell_there h0
      have hsp' : a.spot = none := by simpa [Addr.add] using hsp
      have hlt' : a.block < w.heap.size := by simpa [Addr.add] using hlt
      refine ⟨a.block, a.off, by rw [← addr_plain hsp'], hlt', fun i hi => ?_⟩
      obtain ⟨c0, c1, _, _⟩ := hx i (by omega)
      rw [(hq i (by omega)).1, addr_plain hsp', Addr.add_lit] at c0
      rw [(hq i (by omega)).2, addr_plain hsp', Addr.add_lit] at c1
      exact ⟨c0, c1⟩
    · have := hw ((len + (m - len)) * 16) (by
        simp only [DataW.weights, Tryz.underlying29, List.length_map, List.length_range, Tryz.bytes33]
        exact List.mem_cons_self)
      omega

theorem mem_weightsAll {P : Program} {e : TypeId} {d : DataW H} {y : Nat} : ∀ {l : List (DataW H)}, d ∈ l → y ∈ d.weights P e → y ∈ DataW.weightsAll P e l := by
  intro l
  induction l with
  | nil => intro h; cases h
  | cons b r ih =>
    intro hd hy
    unfold DataW.weightsAll
    rcases List.mem_cons.1 hd with rfl | hd
    · exact List.mem_append_left _ hy
    · exact List.mem_append_right _ (ih hd hy)

set_option maxRecDepth 100000 in
/-- A program. -/
theorem open_prog {fuel : Nat} {v : Value} {x : DataW H × List MemPlace} (h : DataW.trod enc Tryz.prog w 0 (fun _ => true) true fuel 23 [v] = some x) (hw : ∀ y ∈ x.1.weights Tryz.prog 23, y ≤ reachBytes) :
    ∃ (p : Option Addr) (m pc : Nat) (F : Nat → PF) (CA : Nat → Option Addr) (CC : Nat → Nat), v = .slice p m pc ∧ Given w p m F CA CC ∧ 40 * m ≤ reachBytes ∧ ∀ k, k < m → 16 * (F k).cn ≤ reachBytes := by
  rcases open_slice Tryz.underlying23 h with ⟨e, rfl⟩ | ⟨a, len, cap, m, n, D, Pl, e, _, hl, _, hm, rfl, hx⟩
  · injection e with e
    exact ⟨none, 0, 0, fun _ => ⟨0, 0, 0, fun _ => 0, fun _ => 0⟩, fun _ => none, fun _ => 0, e, fun h => by omega, by simp, fun k hk => by omega⟩
  · injection e with e
    simp only [if_true] at hm
    subst hm
    have hw1 : 40 * len ≤ reachBytes := by
      have := hw ((len + (m - len)) * 40) (by
        simp only [DataW.weights, Tryz.underlying23, List.length_map, List.length_range, Tryz.bytes31]
        exact List.mem_cons_self)
      omega
    have each : ∀ i, i < len → ∃ q : PF × Option Addr × Nat, w.cell? (a.add (i * 3)) = some (.int .i64 q.1.args) ∧ w.cell? (a.add (i * 3 + 1)) = some (.int .i64 q.1.locals) ∧ w.cell? (a.add (i * 3 + 2)) = some (.slice q.2.1 q.1.cn q.2.2) ∧
        (1 ≤ q.1.cn → ∃ cb co, q.2.1 = some ⟨cb, co, none⟩ ∧ cb < w.heap.size ∧ CodeAt w cb co q.1.cn q.1.op q.1.ar) ∧ 16 * q.1.cn ≤ reachBytes := by
      intro i hi
      obtain ⟨cs', h1, h2⟩ := hx i (by omega)
      rw [Tryz.cells31] at h1
      obtain ⟨_, hlen, hcell⟩ := World.cells?_some h1
      obtain ⟨y0, y1, y2, n', hxy, _, g0, g1, g2⟩ := trod_struct3 Tryz.underlying31 h2
      match cs', hlen with
      | [v0, v1, v2], _ =>
        simp only [Tryz.cells3, Tryz.cells29] at g0 g1 g2
        simp at g0 g1 g2
        obtain ⟨z0, e0, _, _⟩ := DataW.trod_int Tryz.underlying3 g0
        obtain ⟨z1, e1, _, _⟩ := DataW.trod_int Tryz.underlying3 g1
        simp at e0 e1
        obtain ⟨ca, cn, cc, op, ar, rfl, hcode, hwt⟩ := open_code g2
        have k0 := hcell 0 (by omega)
        have k1 := hcell 1 (by omega)
        have k2 := hcell 2 (by omega)
        rw [add_add] at k0 k1 k2
        refine ⟨(⟨z0, z1, cn, op, ar⟩, ca, cc), by simpa [e0] using k0, by simpa [e1] using k1, by simpa using k2, hcode, hwt fun y hy => hw y ?_⟩
        have hD : D i = .agg [y0.1, y1.1, y2.1] := (Prod.mk.inj hxy).1
        simp only [DataW.weights, Tryz.underlying23]
        refine List.mem_cons_of_mem _ (List.mem_append_left _ (mem_weightsAll (d := D i) (List.mem_map.2 ⟨i, List.mem_range.2 hi, rfl⟩) ?_))
        rw [hD]
        simp only [DataW.weights, Tryz.underlying31, List.map_cons, List.map_nil, DataW.weightsEach]
        exact List.mem_append_right _ (List.mem_append_right _ (List.mem_append_left _ hy))
    have inh : Inhabited (PF × Option Addr × Nat) := ⟨(⟨0, 0, 0, fun _ => 0, fun _ => 0⟩, none, 0)⟩
    obtain ⟨q, hq⟩ := choose_lt (α := PF × Option Addr × Nat) each
    refine ⟨some a, len, m, fun i => (q i).1, fun i => (q i).2.1, fun i => (q i).2.2, e, fun h1 => ?_, hw1, fun k hk => (hq k hk).2.2.2.2⟩
    have h0 := (hq 0 (by omega)).1
    obtain ⟨hlt, hsp⟩ := cell_there h0
    have hsp' : a.spot = none := by simpa [Addr.add] using hsp
    have hlt' : a.block < w.heap.size := by simpa [Addr.add] using hlt
    refine ⟨a.block, a.off, by rw [← addr_plain hsp'], hlt', fun k hk => ?_⟩
    obtain ⟨c0, c1, c2, hcode, _⟩ := hq k hk
    rw [addr_plain hsp', Addr.add_lit] at c0 c1 c2
    exact ⟨c0, c1, c2, hcode⟩
end
end Go.Proofs.YtkafkipjedpohaaGreatDoor
