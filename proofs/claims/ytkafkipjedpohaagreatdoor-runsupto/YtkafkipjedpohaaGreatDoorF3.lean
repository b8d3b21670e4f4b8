import Derived.Test.YtkafkipjedpohaaGreatDoorD1
import Derived.Test.YtkafkipjedpohaaGreatDoorU15
import Derived.Test.YtkafkipjedpohaaGreatDoorCards
import Derived.Test.YtkafkipjedpohaaGreatDoorTie
import Derived.OpenShut
import Derived.Deep.DeepHandedRow
import Derived.Lib.LaidTab

/-
  The argument opened: a script that is handed in, as it lies in memory.
-/
namespace Go.Proofs.YtkafkipjedpohaaGreatDoor
open Go.RowKit Go.Deep Go.ChangeShapes

theorem Tryz.cells65 : Tryz.prog.cellsOf 65 = 3 := by kernel_rfl
theorem Tryz.bytes65 : Tryz.prog.bytesOf 65 = 24 := by kernel_rfl
theorem Tryz.cells100 : Tryz.prog.cellsOf 100 = 5 := by kernel_rfl
theorem Tryz.cells57 : Tryz.prog.cellsOf 57 = 1 := by kernel_rfl
theorem Tryz.cells23 : Tryz.prog.cellsOf 23 = 1 := by kernel_rfl

theorem wf_in64 {n : Int} (h : (Lit.int .i64 n).wf = true) : In64 n := by
  unfold Lit.wf at h
  simp only [Bool.and_eq_true, decide_eq_true_eq] at h
  have h1 : IntKind.i64.min ≤ n := h.1
  have h2 : n ≤ IntKind.i64.max := h.2
  exact ⟨by have e : IntKind.i64.min = -9223372036854775808 := by decide
            omega, by have e : IntKind.i64.max = 9223372036854775807 := by decide
                      omega⟩

section
variable {H : Type} {enc : TypeId × Value → H} {w : World}

theorem trod_struct5 {P : Program} {base : Nat} {spare : Nat → Bool} {held : Bool} {t : TypeId} {f0 f1 f2 f3 f4 : Field} {fuel : Nat} {cs : List Value} {x : DataW H × List MemPlace} (ht : P.underlying t = some (.struct #[f0, f1, f2, f3, f4])) (h : DataW.trod enc P w base spare held fuel t cs = some x) :
    ∃ y0 y1 y2 y3 y4 n, x.1 = .agg [y0.1, y1.1, y2.1, y3.1, y4.1] ∧ DataW.trod enc P w base spare held n f0.type ((cs.drop f0.offset).take (P.cellsOf f0.type)) = some y0 ∧ DataW.trod enc P w base spare held n f1.type ((cs.drop f1.offset).take (P.cellsOf f1.type)) = some y1 ∧ DataW.trod enc P w base spare held n f2.type ((cs.drop f2.offset).take (P.cellsOf f2.type)) = some y2 ∧ DataW.trod enc P w base spare held n f3.type ((cs.drop f3.offset).take (P.cellsOf f3.type)) = some y3 ∧ DataW.trod enc P w base spare held n f4.type ((cs.drop f4.offset).take (P.cellsOf f4.type)) = some y4 := by
  obtain ⟨xs, n, _, rfl, hl, hlen, hf⟩ := DataW.trod_struct ht h
  match xs, hlen with
  | [y0, y1, y2, y3, y4], _ => exact ⟨y0, y1, y2, y3, y4, n, by simp, by simpa using hf 0 f0 rfl, by simpa using hf 1 f1 rfl, by simpa using hf 2 f2 rfl, by simpa using hf 3 f3 rfl, by simpa using hf 4 f4 rfl⟩

set_option maxRecDepth 100000 in
/-- Events. -/
theorem open_events {fuel : Nat} {v : Value} {x : DataW H × List MemPlace} (h : DataW.trod enc Tryz.prog w 0 (fun _ => true) true fuel 57 [v] = some x) (hw : ∀ y ∈ x.1.weights Tryz.prog 57, y ≤ reachBytes) :
    ∃ (p : Option Addr) (el ec : Nat) (ev : Nat → Int × Int × Int), v = .slice p el ec ∧ EvIn w p el ev ∧ 24 * el ≤ reachBytes := by
  rcases open_slice Tryz.underlying57 h with ⟨e, rfl⟩ | ⟨a, len, cap, m, n, D, Pl, e, _, hl, _, hm, rfl, hx⟩
  · injection e with e
    exact ⟨none, 0, 0, fun _ => (0, 0, 0), e, fun h => absurd h (by omega), by simp⟩
  · injection e with e
    simp only [if_true] at hm
    subst hm
    have hw1 : 24 * len ≤ reachBytes := by
      have := hw ((len + (m - len)) * 24) (by
        simp only [DataW.weights, Tryz.underlying57, List.length_map, List.length_range, Tryz.bytes65]
        exact List.mem_cons_self)
      omega
    have each : ∀ i, i < len → ∃ q : Int × Int × Int, w.cell? (a.add (i * 3)) = some (.int .i64 q.1) ∧ w.cell? (a.add (i * 3 + 1)) = some (.int .i64 q.2.1) ∧ w.cell? (a.add (i * 3 + 2)) = some (.int .i64 q.2.2) ∧ In64 q.1 ∧ In64 q.2.1 ∧ In64 q.2.2 := by
      intro i hi
      obtain ⟨cs', h1, h2⟩ := hx i (by omega)
      rw [Tryz.cells65] at h1
      obtain ⟨_, hlen, hcell⟩ := World.cells?_some h1
      obtain ⟨y0, y1, y2, n', _, _, g0, g1, g2⟩ := trod_struct3 Tryz.underlying65 h2
      match cs', hlen with
      | [v0, v1, v2], _ =>
        simp only [Tryz.cells3] at g0 g1 g2
        simp at g0 g1 g2
        obtain ⟨z0, e0, _, w0⟩ := DataW.trod_int Tryz.underlying3 g0
        obtain ⟨z1, e1, _, w1⟩ := DataW.trod_int Tryz.underlying3 g1
        obtain ⟨z2, e2, _, w2⟩ := DataW.trod_int Tryz.underlying3 g2
        simp at e0 e1 e2
        have k0 := hcell 0 (by omega)
        have k1 := hcell 1 (by omega)
        have k2 := hcell 2 (by omega)
        rw [add_add] at k0 k1 k2
        exact ⟨(z0, z1, z2), by simpa [e0] using k0, by simpa [e1] using k1, by simpa [e2] using k2, wf_in64 w0, wf_in64 w1, wf_in64 w2⟩
    have inh : Inhabited (Int × Int × Int) := ⟨(0, 0, 0)⟩
    obtain ⟨q, hq⟩ := choose_lt (α := Int × Int × Int) each
    refine ⟨some a, len, m, q, e, fun h1 => ?_, hw1⟩
    have h0 := (hq 0 (by omega)).1
    obtain ⟨hlt, hsp⟩ := cell_there h0
    have hsp' : a.spot = none := by simpa [Addr.add] using hsp
    have hlt' : a.block < w.heap.size := by simpa [Addr.add] using hlt
    refine ⟨a.block, a.off, by rw [← addr_plain hsp'], hlt', fun k hk => ?_⟩
    obtain ⟨c0, c1, c2, r⟩ := hq k hk
    rw [addr_plain hsp', Addr.add_lit] at c0 c1 c2
    exact ⟨c0, c1, c2, r⟩

theorem reach_le {n : Nat} (h : n ≤ reachBytes) : n ≤ 140737488355328 := Nat.le_trans h (by unfold reachBytes; omega)

set_option maxRecDepth 100000 in
/-- A script. -/
theorem open_script {fuel : Nat} {v : Value} {x : DataW H × List MemPlace} (h : DataW.trod enc Tryz.prog w 0 (fun _ => true) true fuel 39 [v] = some x) (hw : ∀ y ∈ x.1.weights Tryz.prog 39, y ≤ reachBytes) :
    ∃ (p : Option Addr) (sl sc : Nat) (OP : Nat → OpD), v = .slice p sl sc ∧ ScriptIn w p sl OP ∧ (sl = 0 ∨ ∃ l r, x.1 = .slice l r ∧ l.length = sl) := by
  rcases open_slice Tryz.underlying39 h with ⟨e, rfl⟩ | ⟨a, len, cap, m, n, D, Pl, e, _, hl, _, hm, rfl, hx⟩
  · injection e with e
    exact ⟨none, 0, 0, fun _ => ⟨0, 0, 0, none, 0, 0, fun _ => (0, 0, 0), none, 0, 0, fun _ => ⟨0, 0, 0, fun _ => 0, fun _ => 0⟩, fun _ => none, fun _ => 0⟩, e, fun h => absurd h (by omega), Or.inl rfl⟩
  · injection e with e
    simp only [if_true] at hm
    subst hm
    have each : ∀ i, i < len → ∃ q : OpD, w.cell? (a.add (i * 5)) = some (.int .i64 q.kd) ∧ w.cell? (a.add (i * 5 + 1)) = some (.int .i64 q.at_) ∧ w.cell? (a.add (i * 5 + 2)) = some (.int .i64 q.num) ∧ w.cell? (a.add (i * 5 + 3)) = some (.slice q.ep q.el q.ec) ∧ w.cell? (a.add (i * 5 + 4)) = some (.slice q.pp q.pl q.pc) ∧ OpOk w q := by
      intro i hi
      obtain ⟨cs', h1, h2⟩ := hx i (by omega)
      rw [Tryz.cells100] at h1
      obtain ⟨_, hlen, hcell⟩ := World.cells?_some h1
      obtain ⟨y0, y1, y2, y3, y4, n', hD, g0, g1, g2, g3, g4⟩ := trod_struct5 Tryz.underlying100 h2
      match cs', hlen with
      | [v0, v1, v2, v3, v4], _ =>
        simp only [Tryz.cells3, Tryz.cells57, Tryz.cells23] at g0 g1 g2 g3 g4
        simp at g0 g1 g2 g3 g4
        obtain ⟨z0, e0, _, w0⟩ := DataW.trod_int Tryz.underlying3 g0
        obtain ⟨z1, e1, _, w1⟩ := DataW.trod_int Tryz.underlying3 g1
        obtain ⟨z2, e2, _, w2⟩ := DataW.trod_int Tryz.underlying3 g2
        simp at e0 e1 e2
        have hD' : D i = .agg [y0.1, y1.1, y2.1, y3.1, y4.1] := hD
        have hmem : ∀ y, y ∈ y3.1.weights Tryz.prog 57 ∨ y ∈ y4.1.weights Tryz.prog 23 → y ≤ reachBytes := by
          intro y hy
          refine hw y ?_
          simp only [DataW.weights, Tryz.underlying39]
          refine List.mem_cons_of_mem _ (List.mem_append_left _ (mem_weightsAll (d := D i) (List.mem_map.2 ⟨i, List.mem_range.2 hi, rfl⟩) ?_))
          rw [hD']
          simp only [DataW.weights, Tryz.underlying100, List.map_cons, List.map_nil, DataW.weightsEach]
          rcases hy with hy | hy
          · exact List.mem_append_right _ (List.mem_append_right _ (List.mem_append_right _ (List.mem_append_left _ hy)))
          · exact List.mem_append_right _ (List.mem_append_right _ (List.mem_append_right _ (List.mem_append_right _ (List.mem_append_left _ hy))))
        obtain ⟨ep, el, ec, ev, rfl, hev, hel⟩ := open_events (x := y3) g3 (fun y hy => hmem y (Or.inl hy))
        obtain ⟨pp, pl, pc, F, CA, CC, rfl, hG, hpl, hcn⟩ := open_prog (x := y4) g4 (fun y hy => hmem y (Or.inr hy))
        have k0 := hcell 0 (by omega)
        have k1 := hcell 1 (by omega)
        have k2 := hcell 2 (by omega)
        have k3 := hcell 3 (by omega)
        have k4 := hcell 4 (by omega)
        rw [add_add] at k0 k1 k2 k3 k4
        exact ⟨⟨z0, z1, z2, ep, el, ec, ev, pp, pl, pc, F, CA, CC⟩, by simpa [e0] using k0, by simpa [e1] using k1, by simpa [e2] using k2, by simpa using k3, by simpa using k4, ⟨wf_in64 w0, wf_in64 w1, wf_in64 w2, hev, reach_le hel, hG, reach_le hpl, fun k hk => reach_le (hcn k hk)⟩⟩
    have inh : Inhabited OpD := ⟨⟨0, 0, 0, none, 0, 0, fun _ => (0, 0, 0), none, 0, 0, fun _ => ⟨0, 0, 0, fun _ => 0, fun _ => 0⟩, fun _ => none, fun _ => 0⟩⟩
    obtain ⟨q, hq⟩ := choose_lt (α := OpD) each
    refine ⟨some a, len, m, q, e, fun h1 => ?_, Or.inr ⟨_, _, rfl, by simp⟩⟩
    have h0 := (hq 0 (by omega)).1
    obtain ⟨hlt, hsp⟩ := cell_there h0
    have hsp' : a.spot = none := by simpa [Addr.add] using hsp
    have hlt' : a.block < w.heap.size := by simpa [Addr.add] using hlt
    refine ⟨a.block, a.off, by rw [← addr_plain hsp'], hlt', fun k hk => ?_⟩
    obtain ⟨c0, c1, c2, c3, c4, ok⟩ := hq k hk
    rw [addr_plain hsp', Addr.add_lit] at c0 c1 c2 c3 c4
    exact ⟨c0, c1, c2, c3, c4, ok⟩
end
end Go.Proofs.YtkafkipjedpohaaGreatDoor

/-
  upshiftlaw.Runs: the second form's row and card.
-/
namespace Go.Proofs.YtkafkipjedpohaaGreatDoor
open Go.ChangeShapes Go.WideShapes Go.ChangeAt Go.RowKit

theorem Tryz.own : ownKnob Tryz.prog.godebug = none := by kernel_rfl
theorem Tryz.laidOut : laidOutB Tryz.prog = true := by kernel_rfl
theorem gTab : Tryz.prog.globalNamed "upshift/check.effects" = some 0 := by kernel_rfl
theorem gTabType : (Tryz.prog.globals[0]?).map (·.type) = some 194 := by kernel_rfl
theorem Tryz.cells185 : Tryz.prog.cellsOf 185 = 2 := by kernel_rfl
theorem Tryz.cells194 : Tryz.prog.cellsOf 194 = 44 := by kernel_rfl

/-- One row of the table of effects, as a datum. -/
def effD {H : Type} (i : Nat) : DataW H := .agg [.lit (.int .i64 (popsT i)), .lit (.int .i64 (pushesP i))]
theorem effects_eq {H : Type} : (Rows.laid_upshift_check_effects : DataW H) = .agg ((List.range 22).map effD) := by rfl

/-- What the row's list gives: the table's cells. -/
theorem table {W : World} (h : laidMetH Tryz.prog Rows.runsUptoRow.laid W) : TabAt W := by
  have h' : laidMet Tryz.prog [("upshift/check.effects", Rows.laid_upshift_check_effects)] W := h
  obtain ⟨ps, ⟨g', t', cs, fuel, p, q, hg', ht', hvar, hd, _, _⟩, _⟩ := h'
  obtain rfl := Option.some.inj (gTab.symm.trans hg')
  obtain rfl := Option.some.inj (gTabType.symm.trans ht')
  rw [effects_eq] at hd
  obtain ⟨xs, m, _, hx, hl, hxl, hf⟩ := DataW.trod_array Tryz.underlying194 hd
  rw [Tryz.cells194] at hl
  have hxs : xs.map (·.1) = (List.range 22).map effD := by
    have := (Prod.mk.inj hx).1
    injection this with this
    exact this.symm
  intro o ho
  have h1 := hf o ho
  rw [Tryz.cells185, List.getElem?_eq_getElem (by omega)] at h1
  obtain ⟨y0, y1, n', hy, hlen, g0, g1⟩ := trod_struct2 Tryz.underlying185 h1
  simp only [Tryz.cells3] at g0 g1
  obtain ⟨z0, e0, d0, _⟩ := DataW.trod_int Tryz.underlying3 g0
  obtain ⟨z1, e1, d1, _⟩ := DataW.trod_int Tryz.underlying3 g1
  have hxo : (xs[o]'(by omega)).1 = effD o := by
    have := congrArg (·[o]?) hxs
    simp only [List.getElem?_map, List.getElem?_range ho, List.getElem?_eq_getElem (show o < xs.length by omega), Option.map_some, Option.some.injEq] at this
    exact this
  rw [hy] at hxo
  subst d0
  subst d1
  unfold effD at hxo
  simp only [DataW.agg.injEq, List.cons.injEq, DataW.lit.injEq, Lit.int.injEq, true_and, and_true] at hxo
  obtain ⟨q0, q1⟩ := hxo
  have k0 : cs.toList[o * 2]? = some (.int .i64 z0) := by
    have := congrArg (·[0]?) e0
    simpa [List.getElem?_take, List.getElem?_drop] using this
  have k1 : cs.toList[o * 2 + 1]? = some (.int .i64 z1) := by
    have := congrArg (·[0]?) e1
    simpa [List.getElem?_take, List.getElem?_drop] using this
  have v0 := World.var?_cell gTab hvar (o * 2)
  have v1 := World.var?_cell gTab hvar (o * 2 + 1)
  rw [Array.getElem?_toList] at k0 k1
  rw [k0, q0] at v0
  rw [k1, q1] at v1
  exact ⟨v0, v1⟩

/-- What the bound gives: how long the script is. -/
theorem bulk_one {H : Type} (d : DataW H) : 1 ≤ Rows.uptoBulk d := by
  cases d with
  | lit l => cases l <;> simp [Rows.uptoBulk]
  | nil => simp [Rows.uptoBulk]
  | ptr d => simp [Rows.uptoBulk]
  | slice elems spare => simp [Rows.uptoBulk]
  | agg parts => simp [Rows.uptoBulk]
  | iface t d => simp [Rows.uptoBulk]
  | map entries => simp [Rows.uptoBulk]
  | held h => simp [Rows.uptoBulk]
theorem bulk_len {H : Type} (l : List (DataW H)) : l.length ≤ Rows.uptoBulkAll l := by
  induction l with
  | nil => simp [Rows.uptoBulkAll]
  | cons x r ih => have := bulk_one x; simp only [Rows.uptoBulkAll, List.length_cons]; omega
theorem bulk_script {H : Type} {d : DataW H} {sl : Nat} (hd : sl = 0 ∨ ∃ l r, d = .slice l r ∧ l.length = sl) (hk : Rows.uptoSmall H [d] = true) : sl ≤ 1048576 := by
  rcases hd with rfl | ⟨l, r, rfl, rfl⟩
  · omega
  · have h : Rows.uptoBulkAll [DataW.slice l r] ≤ 1048576 := of_decide_eq_true hk
    simp only [Rows.uptoBulkAll, Rows.uptoBulk] at h
    have := bulk_len l
    omega

set_option maxRecDepth 100000 in
/-- What the walks give, for every argument within the bound and every world that holds the table. -/
theorem contract (H : Type) (enc : TypeId × Value → H) (W : World) (base : Nat) (args : Array Value) (ds gs : List (DataW H)) (before : List MemPlace)
    (hval : ∀ (j : Nat) t v, Tryz.f4.params[j]? = some t → args[j]? = some v → Value.okWide Tryz.prog W .any base t v)
    (hW : DataW.Whole enc Tryz.prog Tryz.f4.params.toList Rows.runsSpec.vars false W args.toList ds gs before) (hL : laidMetH Tryz.prog Rows.runsUptoRow.laid W)
    (hsz : (DataW.weightsEach Tryz.prog (Tryz.f4.params.toList ++ Rows.runsSpec.plain.varTypes Tryz.prog) (ds ++ gs)).all (· ≤ reachBytes) = true) (hk : Rows.uptoSmall H (ds ++ gs) = true) :
    Calls Tryz.prog 4 args W fun e W' => ∃ v, e = .returned v ∧ Rows.runsSpec.post enc Tryz.prog Tryz.f4 false true false false W args v W' := by
  have hW' := hW
  obtain ⟨p, q, hA0, hV, rfl, hfz, hnd⟩ := hW
  have hA : DataW.TrodAll enc Tryz.prog W 0 (fun _ => true) true Tryz.f4.params.toList args.toList ds p := hA0
  rw [Tryz.params4] at hA hval hsz
  obtain ⟨v0, vs0, d0, ds0, p0, q0, hargs, rfl, rfl, h0, r0⟩ := trodAll_cons hA
  obtain ⟨rfl, rfl, rfl⟩ := trodAll_nil r0
  obtain rfl : args = #[v0] := by cases args; simp_all
  obtain ⟨rfl, rfl⟩ := trodVars_none hV
  clear hA0
  simp only [List.append_nil] at hW' hk
  have h0k := h0
  obtain ⟨fuel, hf⟩ := h0
  have hsz1 : (DataW.weightsEach Tryz.prog [39] [d0]).all (fun x => decide (x ≤ reachBytes)) = true := hsz
  have hwt : ∀ y ∈ d0.weights Tryz.prog 39, y ≤ reachBytes := by
    simp only [DataW.weightsEach, List.append_nil, List.all_eq_true, decide_eq_true_eq] at hsz1
    exact fun y hy => hsz1 y hy
  obtain ⟨a0, sl, sc, rfl⟩ := okWide_slice Tryz.underlying39 (hval 0 39 v0 rfl rfl)
  obtain ⟨pa, sl2, sc2, OP, hv, hin, hd⟩ := open_script (x := (d0, p0)) hf hwt
  injection hv with e1 e2 e3
  subst e1
  subst e2
  subst e3
  have hsl := bulk_script hd hk
  have ht := table hL
  have hw : 0 < W.heap.size := (cell_there (ht 0 (by omega)).1).1
  have hlt : ∀ x ∈ p0, x.block < W.heap.size := fun x hx => by simpa using hW'.lt x (by simpa using hx)
  refine (runs_any W a0 sl sc OP hin hsl ht hw).mono fun e W' ⟨he, hb⟩ => ?_
  subst he
  refine ⟨_, rfl, _, _, _, [], p0 ++ [], [], hW', ?_, ?_, rfl, hb.frame _, fun h => by cases h⟩
  · exact trodAll_cons_mk (shut_bool Tryz.underlying4 _) trodAll_mk0
  · exact trodAll_cons_mk (Below.trod Tryz.laidOut (by kernel_rfl) (of_decide_eq_true (by kernel_rfl)) h0k hb hlt) trodAll_mk0

/-- A world for the witness: the settled one, the table (block 0) holding what its initialiser lays. -/
noncomputable def laidWorld (os : Os) : World :=
  { World.holding Tryz.prog os ⟨#[], #[], []⟩ with heap := (World.holding Tryz.prog os ⟨#[], #[], []⟩).heap.modify 0 fun
      | .cells _ t frozen => .cells #[.int .i64 0, .int .i64 1, .int .i64 0, .int .i64 1, .int .i64 0, .int .i64 1, .int .i64 1, .int .i64 0, .int .i64 2, .int .i64 1, .int .i64 2, .int .i64 1, .int .i64 2, .int .i64 1, .int .i64 2, .int .i64 1, .int .i64 2, .int .i64 1, .int .i64 2, .int .i64 1, .int .i64 0, .int .i64 0, .int .i64 1, .int .i64 0, .int .i64 0, .int .i64 1, .int .i64 1, .int .i64 1, .int .i64 1, .int .i64 0, .int .i64 1, .int .i64 1, .int .i64 2, .int .i64 1, .int .i64 3, .int .i64 0, .int .i64 1, .int .i64 1, .int .i64 1, .int .i64 0, .int .i64 1, .int .i64 0, .int .i64 1, .int .i64 2] t frozen
      | o => o }
theorem laid_met (os : Os) : laidMet Tryz.prog Rows.runsUptoRow.laid ((laidWorld os).forCall (fun _ _ => 0) ⟨#[], #[.slice none 0 0], []⟩).memory :=
  laidMet_of_run' 8 (by kernel_rfl) (by kernel_rfl)
theorem reads (os : Os) {H : Type} (enc : TypeId × Value → H) : ∃ places, DataW.whole enc Tryz.prog ((laidWorld os).forCall (fun _ _ => 0) ⟨#[], #[.slice none 0 0], []⟩).memory Tryz.f4.params.toList Rows.runsSpec.vars false #[Value.slice none 0 0].toList 8 = some ([.nil], [], places) :=
  ⟨[], by kernel_rfl⟩

set_option maxRecDepth 100000 in
theorem lifted (os : Os) (started : os.Started) (H : Type) (enc : TypeId × Value → H) (F : Stop.Interp) :
    ReturnsInHanded {} Tryz.checked os 4 .any ((Rows.OpenSpec.upto Rows.runsSpec).preRow enc Tryz.prog Tryz.f4 Rows.runsUptoRow.domain false Rows.runsUptoRow.laid) (((Rows.OpenSpec.upto Rows.runsSpec).at F).post enc Tryz.prog Tryz.f4 false true false false) := by
  obtain ⟨places, hx⟩ := reads os enc
  refine returnsInHanded_of_row (C := Tryz.checked) (s := Rows.OpenSpec.upto Rows.runsSpec) Tryz.own started (by kernel_rfl) Tryz.func4
    (witness_row_at (enc := enc) (C := Tryz.checked) false (laidWorld os) #[.slice none 0 0] rfl (by kernel_rfl) (by kernel_rfl) (by kernel_rfl)
      (OpenSpec.preRow_of_cond 8 hx (by kernel_rfl) (fun k hk => by cases hk; kernel_rfl) (by kernel_rfl) (laid_met os))) ?_
  intro W base args ds gs before hval hW _ hcond hsz hL _ _
  exact contract H enc W base args ds gs before hval hW hL hsz (hcond _ rfl)

theorem said : Rows.RunsUptoSaid :=
  OpenClaim.holds_of_cond 4 Tryz.f4 rfl rfl rfl rfl rfl rfl rfl ⟨rfl, rfl, rfl, rfl, rfl⟩ rfl rfl rfl rfl rfl (by kernel_rfl) Tryz.func4 (by kernel_rfl)
    (of_decide_eq_true (by kernel_rfl)) (by unfold Func.isWrapper; first | (rw [if_pos (by decide +kernel)]; kernel_rfl) | (rw [if_neg (by decide +kernel)]; exact ⟨rfl, rfl⟩))
    (fun os started H enc _ F => by rw [OpenClaim.pre_eq_preRow]; exact lifted os started H enc F)

/-- No parameter wants a stand-in; the program's own looks are off. -/
theorem plainCard (f : FuncId) (fn : Func) (hf : Tryz.pinned.checked.prog.funcNamed "upshift/upshiftlaw.Runs" = some f) (hfn : Tryz.pinned.checked.prog.funcs[f]? = some fn) :
    Rows.runsUptoCard.stood.looks = Tryz.pinned.checked.prog.looks [] ∧ ∀ (j : Nat) t, fn.params[j]? = some t → Tryz.pinned.checked.prog.wantsStandIn t = false := by
  obtain rfl : f = 4 := Option.some.inj ((show Tryz.prog.funcNamed "upshift/upshiftlaw.Runs" = some 4 by kernel_rfl).symm.trans hf) |>.symm
  obtain rfl : fn = Tryz.f4 := (Option.some.inj (Tryz.func4.symm.trans hfn)).symm
  refine ⟨by kernel_rfl, fun j t ht => ?_⟩
  rw [Tryz.params4] at ht
  obtain rfl : t = 39 := by simpa using Array.mem_of_getElem? ht
  exact (show Tryz.prog.wantsStandIn 39 = false by kernel_rfl)

/-- The card. -/
theorem runs_upto_card : Rows.RunsUptoCardSaid :=
  Claim7.holds_tied_plain_at .later [] _ _ _ _ said (fun _ h => by cases h) (by kernel_rfl) (fun _ h => by cases h) runsUpto_row_tie rfl ⟨rfl, rfl⟩ (by kernel_rfl) rfl plainCard (by kernel_rfl)
#print axioms runs_upto_card
end Go.Proofs.YtkafkipjedpohaaGreatDoor
