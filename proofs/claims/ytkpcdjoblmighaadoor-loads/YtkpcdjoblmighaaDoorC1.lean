/-
  slices.Clone, twice; upshift.copied; upshift.Load.
-/
import Derived.Test.YtkpcdjoblmighaaDoorA7
import Derived.Test.YtkpcdjoblmighaaDoorB2
import Derived.Deep.AppendSrc
namespace Go.Proofs.YtkpcdjoblmighaaDoor
open Go.RowKit

/-- append of n elements to an empty slice: a new block that begins with their cells. -/
theorem append_clone {P : Program} (t e : TypeId) (z : Value) (size bytes : Nat) (ht : P.underlying t = some (.slice e)) (hinfo : (P.info? e).map (fun i => (i.zero, i.size, i.bytes)) = some (some z, size, bytes))
    (g : Option Addr) (a : Addr) (n c : Nat) (news : List Value) (hl : news.length = n * size) (h1 : ∀ u ∈ news, u.oneCell' = true) (hn : 1 ≤ n) (hb : n * bytes ≤ 281474976710656) (h63 : n ≤ 9223372036854775807)
    (w : World) (hnews : ∀ j u, news[j]? = some u → w.cell? (a.add j) = some u) :
    ∃ (cap : Nat) (w' : World), (Builtin.append_ #[t, t] t #[.slice g 0 0, .slice (some a) n c]).run P w = .ok (.slice (some ⟨w.heap.size, 0, none⟩) n cap) w' ∧ Below w.heap.size w w' ∧ w'.heap.size = w.heap.size + 1 ∧
      (∀ j u, news[j]? = some u → w'.cell? ⟨w.heap.size, j, none⟩ = some u) ∧ (∀ j, w'.frozen? ⟨w.heap.size, j, none⟩ = false) := by
  obtain ⟨i, hi, hzz⟩ := Option.map_eq_some_iff.1 hinfo
  simp only [Prod.mk.injEq] at hzz
  obtain ⟨hz, hs, hby⟩ := hzz
  subst hs
  have hsrc : Src P i.size t (.slice (some a) n c) n news w := Src.ofSlice w ht a n c news hl hnews h1
  have hold : (Builtin.firstCells i.size 0 (.slice g 0 0)).run P w.drew = .ok ([] : List Value).toArray w.drew := by
    cases g with
    | none => exact run_firstCells_none w.drew i.size 0 0 0
    | some g => exact run_firstCells_some w.drew i.size 0 g 0 0 [] (by simp) (by simp)
  have hr := run_append_grow_src w t t t e i z ht hi hz g 0 0 [] hold (.slice (some a) n c) n news hsrc (by omega) (by omega) (by
    unfold Builtin.nextslicecap; rw [if_pos (by omega), hby]; simpa using hb)
  simp only [Nat.zero_add, List.nil_append] at hr
  refine ⟨_, _, hr, ?_, ?_, ?_, ?_⟩
  · exact (Below.refl _ _).drew.alloc (Nat.le_refl _) _
  · simp
  · intro j u hu
    have hj : j < news.length := by
      rw [List.getElem?_eq_some_iff] at hu
      exact hu.1
    rw [cell_new w.drew _ _ w.heap.size _ rfl, Array.getElem?_append_left (by simpa using hj)]
    simpa using hu
  · intro j
    unfold World.frozen?
    have : (w.drew.alloc (.cells (news.toArray ++ Builtin.zeroCells z.cells (grownCap w n 0 e - n)) e)).heap[w.heap.size]? = some (.cells (news.toArray ++ Builtin.zeroCells z.cells (grownCap w n 0 e - n)) e) := Go.Deep.blk_alloc_new _ _
    rw [this]
    simp

/-- A builtin append whose run is known. -/
theorem wpList_append_run {P : Program} (w : World) {ops : Array Oper} {rest : List Oper} {o : Oper} {a : Act} {Q : Exit → Act → World → Prop}
    (hg : o.guard = none) (x y : Operand) (t : TypeId) (hop : o.op = Op.call { callee := Callee.builtin Builtin.append, args := #[x, y], argTypes := #[t, t] })
    (vx vy v : Value) (w' : World) (hx : a.eval x = vx) (hy : a.eval y = vy) (hrun : (Builtin.append_ #[t, t] o.type #[vx, vy]).run P w = .ok v w')
    (hK : wpList P ops Q rest (a.put o.dst v) w') : wpList P ops Q (o :: rest) a w := by
  refine wpList_plain hg fun K hK' => ?_
  unfold Oper.wp
  simp [execOp, hop, resolve, invoke, builtin, hx, hy, hrun, Result.andThen]
  exact hK' _ _ hK

theorem Tryd.info41 : (Tryd.prog.info? 41).map (fun i => (i.zero, i.size, i.bytes)) = some (some (.agg #[.int .i64 0, .int .i64 0, .slice none 0 0]), 3, 40) := by kernel_rfl
theorem Tryd.info38 : (Tryd.prog.info? 38).map (fun i => (i.zero, i.size, i.bytes)) = some (some (.agg #[.int .i64 0, .int .i64 0]), 2, 16) := by kernel_rfl

set_option maxHeartbeats 400000 in
theorem clone18_any (pb po pc m : Nat) (news : List Value) (w : World) (hm : 1 ≤ m) (hm8 : m ≤ 8) (hl : news.length = m * 3) (h1 : ∀ u ∈ news, u.oneCell' = true) (hpb : pb < w.heap.size) (hnews : ∀ j u, news[j]? = some u → w.cell? ⟨pb, po + j, none⟩ = some u) :
    Calls Tryd.prog 18 #[.slice (some ⟨pb, po, none⟩) m pc] w fun e w' => ∃ g cap, e = .returned (.slice (some ⟨g, 0, none⟩) m cap) ∧ Below w.heap.size w w' ∧ w.heap.size ≤ g ∧ g < w'.heap.size ∧
      (∀ j u, news[j]? = some u → w'.cell? ⟨g, j, none⟩ = some u) ∧ (∀ j, w'.frozen? ⟨g, j, none⟩ = false) := by
  have hnil := fun wx => Lib.run_eql_slice_nil (P := Tryd.prog) wx 22 41 (some ⟨pb, po, none⟩) m pc 0 0 Tryd.underlying22
  obtain ⟨cap, w2, hrun, hB, hz, hcells, hfz⟩ := append_clone (P := Tryd.prog) 22 41 _ 3 40 Tryd.underlying22 Tryd.info41 (some ⟨w.heap.size, 0, none⟩) ⟨pb, po, none⟩ m pc news hl h1 hm (by omega) (by omega) (w.alloc (.cells #[] 41))
    (fun j u hu => by rw [Addr.add_lit]; exact ((Below.cell ((Below.refl w.heap.size w).alloc (Nat.le_refl _) (.cells #[] 41)) (p := ⟨pb, po + j, none⟩) hpb)).trans (hnews j u hu))
  rw [World.size_alloc] at hrun hB hz hcells hfz
  have HX := hid (And.intro hB (And.intro hz (And.intro hcells hfz)))
  have HR := hid hrun
  clear hB hz hcells hfz hnews h1 hl hrun
  go_enter Tryd.func18, Tryd.ntmps18
  go_wp2_with (at_builtin; refine wpList_append_run _ rfl _ _ 22 rfl _ _ _ _ rfl rfl HR.out ?_)
  go_ret
  obtain ⟨hB, hz, hcells, hfz⟩ := HX.out
  exact ⟨_, _, rfl, ((Below.refl _ _).alloc (Nat.le_refl _) _).trans (hB.mono (by omega)), by omega, by omega, hcells, hfz⟩
end Go.Proofs.YtkpcdjoblmighaaDoor
