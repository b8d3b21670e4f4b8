import Derived.Test.YtkafkipjedpohaaGreatDoorC2
import Derived.ProofKit
import Derived.Deep.SlicePairs
import Derived.Deep.Strs
import Derived.Test.YtkafkipjedpohaaGreatDoorM29
import Derived.Test.YtkafkipjedpohaaGreatDoorK11
import Derived.Test.YtkafkipjedpohaaGreatDoorCards
import Derived.Test.YtkafkipjedpohaaGreatDoorTie
import Derived.Test.YtkafkipjedpohaaGreatDoorSb
import Derived.OpenShut
import Derived.Deep.DeepHandedRow
import Derived.Lib.LaidTab

/-
  upshiftlaw.lent: the walk.
-/
namespace Go.Proofs.YtkafkipjedpohaaGreatDoor
open Go.RowKit

/-- An argument that is a program: of whatever length, nil too. -/
def Given (w : World) (p : Option Addr) (m : Nat) (F : Nat → PF) (CA : Nat → Option Addr) (CC : Nat → Nat) : Prop :=
  1 ≤ m → ∃ pb po, p = some ⟨pb, po, none⟩ ∧ ProgAt w pb po m F CA CC

end Go.Proofs.YtkafkipjedpohaaGreatDoor

/-
  The argument opened: a program that is handed in, as it lies in memory.
-/
namespace Go.Proofs.YtkafkipjedpohaaGreatDoor
open Go.RowKit Go.Deep Go.ChangeShapes

theorem cell_there {w : World} {a : Addr} {v : Value} (h : w.cell? a = some v) : a.block < w.heap.size ∧ a.spot = none := by
  unfold World.cell? at h
  cases hb : w.heap[a.block]? with
  | none => rw [hb] at h; cases h
  | some o =>
    obtain ⟨hl, _⟩ := Array.getElem?_eq_some_iff.1 hb
    rw [hb] at h
    cases o with
    | cells c e f =>
      refine ⟨hl, ?_⟩
      cases hs : a.spot with
      | none => rfl
      | some s => simp [hs] at h
    | _ => cases h

theorem addr_plain {a : Addr} (h : a.spot = none) : a = ⟨a.block, a.off, none⟩ := by
  cases a with
  | mk b o s => simp only at h; subst h; rfl

theorem Tryz.cells3 : Tryz.prog.cellsOf 3 = 1 := by kernel_rfl
section
variable {H : Type} {enc : TypeId × Value → H} {w : World}

end
end Go.Proofs.YtkafkipjedpohaaGreatDoor

/-
  The argument opened: lines that are handed in, as they lie in memory.
-/
namespace Go.Proofs.YtkafkipjedpohaaGreatDoor
open Go.RowKit Go.Deep Go.ChangeShapes

theorem wf_i64 {n : Int} (h : (Lit.int .i64 n).wf = true) : I64 n := by
  unfold Lit.wf at h
  simp only [Bool.and_eq_true, decide_eq_true_eq] at h
  have h1 : IntKind.i64.min ≤ n := h.1
  have h2 : n ≤ IntKind.i64.max := h.2
  exact ⟨by have e : IntKind.i64.min = -9223372036854775808 := by decide
            omega, by have e : IntKind.i64.max = 9223372036854775807 := by decide
                      omega⟩

section
variable {H : Type} {enc : TypeId × Value → H} {w : World}

end
end Go.Proofs.YtkafkipjedpohaaGreatDoor

/-
  The argument opened: events that are handed in, as they lie in memory.
-/
namespace Go.Proofs.YtkafkipjedpohaaGreatDoor
open Go.RowKit Go.Deep Go.ChangeShapes

theorem Tryz.cells65 : Tryz.prog.cellsOf 65 = 3 := by kernel_rfl
theorem Tryz.bytes65 : Tryz.prog.bytesOf 65 = 24 := by kernel_rfl

section
variable {H : Type} {enc : TypeId × Value → H} {w : World}

set_option maxRecDepth 100000 in
/-- Events. -/
theorem open_evs {fuel : Nat} {v : Value} {x : DataW H × List MemPlace} (h : DataW.trod enc Tryz.prog w 0 (fun _ => true) true fuel 57 [v] = some x) (hw : ∀ y ∈ x.1.weights Tryz.prog 57, y ≤ reachBytes) :
    ∃ E : List Ev, EvV w w.heap.size v E ∧ RawOk E ∧ 24 * E.length ≤ reachBytes := by
  rcases open_slice Tryz.underlying57 h with ⟨e, rfl⟩ | ⟨a, len, cap, m, n, D, Pl, e, _, hl, _, hm, rfl, hx⟩
  · injection e with e
    exact ⟨[], ⟨none, 0, e, Nat.le_refl _, fun h => absurd rfl h⟩, fun i hi => absurd hi (by simp), by simp⟩
  · injection e with e
    simp only [if_true] at hm
    subst hm
    have hw1 : 24 * len ≤ reachBytes := by
      have := hw ((len + (m - len)) * 24) (by
        simp only [DataW.weights, Tryz.underlying57, List.length_map, List.length_range, Tryz.bytes65]
        exact List.mem_cons_self)
      omega
    have each : ∀ i, i < len → ∃ q : Int × Int × Int, w.cell? (a.add (i * 3)) = some (.int .i64 q.1) ∧ w.cell? (a.add (i * 3 + 1)) = some (.int .i64 q.2.1) ∧ w.cell? (a.add (i * 3 + 2)) = some (.int .i64 q.2.2) ∧ I64 q.1 ∧ I64 q.2.1 ∧ I64 q.2.2 := by
      intro i hi
      obtain ⟨cs', h1, h2⟩ := hx i (by omega)
      rw [Tryz.cells65] at h1
      obtain ⟨_, hlen, hcell⟩ := World.cells?_some h1
      obtain ⟨y0, y1, y2, n', _, _, g0, g1, g2⟩ := trod_struct3 Tryz.underlying65 h2
      match cs', hlen with
      | [v0, v1, v2], _ =>
        simp only [Tryz.cells3] at g0 g1 g2
        simp at g0 g1 g2
        obtain ⟨z0, e0, _, w0⟩ := DataW.trod_int Tryz.underlying3 g0
        obtain ⟨z1, e1, _, w1⟩ := DataW.trod_int Tryz.underlying3 g1
        obtain ⟨z2, e2, _, w2⟩ := DataW.trod_int Tryz.underlying3 g2
        simp at e0 e1 e2
        have k0 := hcell 0 (by omega)
        have k1 := hcell 1 (by omega)
        have k2 := hcell 2 (by omega)
        rw [add_add] at k0 k1 k2
        exact ⟨(z0, z1, z2), by simpa [e0] using k0, by simpa [e1] using k1, by simpa [e2] using k2, wf_i64 w0, wf_i64 w1, wf_i64 w2⟩
    have inh : Inhabited (Int × Int × Int) := ⟨(0, 0, 0)⟩
    obtain ⟨q, hq⟩ := choose_lt (α := Int × Int × Int) each
    have hgd : ∀ i, i < len → ((List.range len).map fun i => (⟨(q i).1, (q i).2.1, (q i).2.2⟩ : Ev)).getD i ⟨0, 0, 0⟩ = ⟨(q i).1, (q i).2.1, (q i).2.2⟩ := fun i hi => by simp [hi]
    refine ⟨(List.range len).map fun i => ⟨(q i).1, (q i).2.1, (q i).2.2⟩, ⟨some a, m, by simpa using e, by simpa using hl, fun hne => ?_⟩, fun i hi => ?_, by simpa using hw1⟩
    · have hlen1 : 1 ≤ len := by
        cases len with
        | zero => simp at hne
        | succ k => omega
      have h0 := (hq 0 (by omega)).1
      obtain ⟨hlt, hsp⟩ := cell_there h0
      have hsp' : a.spot = none := by simpa [Addr.add] using hsp
      have hlt' : a.block < w.heap.size := by simpa [Addr.add] using hlt
      refine ⟨a.block, a.off, by rw [← addr_plain hsp'], hlt', fun i hi => ?_⟩
      have hi' : i < len := by simpa using hi
      rw [hgd i hi']
      obtain ⟨c0, c1, c2, _⟩ := hq i hi'
      rw [addr_plain hsp', Addr.add_lit] at c0 c1 c2
      exact ⟨c0, c1, c2⟩
    · have hi' : i < len := by simpa using hi
      rw [hgd i hi']
      exact (hq i hi').2.2.2
end
end Go.Proofs.YtkafkipjedpohaaGreatDoor

/-
  upshiftkeep.Summed: the row and the card.
-/
namespace Go.Proofs.YtkafkipjedpohaaGreatDoor
open Go.ChangeShapes Go.WideShapes Go.ChangeAt Go.RowKit

theorem Tryz.own : ownKnob Tryz.prog.godebug = none := by kernel_rfl
theorem Tryz.laidOut : laidOutB Tryz.prog = true := by kernel_rfl
theorem gTab : Tryz.prog.globalNamed "upshift/check.effects" = some 0 := by kernel_rfl
theorem gTabType : (Tryz.prog.globals[0]?).map (·.type) = some 194 := by kernel_rfl
theorem Tryz.cells185 : Tryz.prog.cellsOf 185 = 2 := by kernel_rfl
theorem Tryz.cells194 : Tryz.prog.cellsOf 194 = 44 := by kernel_rfl

/-- One row of the table of effects, as a datum. -/
def effD {H : Type} (i : Nat) : DataW H := .agg [.lit (.int .i64 (popsT i)), .lit (.int .i64 (pushesP i))]
theorem effects_eq {H : Type} : (Rows.laid_upshift_check_effects : DataW H) = .agg ((List.range 22).map effD) := by rfl

/-- What the row's list gives: the table's cells. -/
theorem table {W : World} (h : laidMetH Tryz.prog Rows.summedRow.laid W) : TabAt W := by
  have h' : laidMet Tryz.prog [("upshift/check.effects", Rows.laid_upshift_check_effects)] W := h
  obtain ⟨ps, ⟨g', t', cs, fuel, p, q, hg', ht', hvar, hd, _, _⟩, _⟩ := h'
  obtain rfl := Option.some.inj (gTab.symm.trans hg')
  obtain rfl := Option.some.inj (gTabType.symm.trans ht')
  rw [effects_eq] at hd
  obtain ⟨xs, m, _, hx, hl, hxl, hf⟩ := DataW.trod_array Tryz.underlying194 hd
  rw [Tryz.cells194] at hl
  have hxs : xs.map (·.1) = (List.range 22).map effD := by
    have := (Prod.mk.inj hx).1
    injection this with this
    exact this.symm
  intro o ho
  have h1 := hf o ho
  rw [Tryz.cells185, List.getElem?_eq_getElem (by omega)] at h1
  obtain ⟨y0, y1, n', hy, hlen, g0, g1⟩ := trod_struct2 Tryz.underlying185 h1
  simp only [Tryz.cells3] at g0 g1
  obtain ⟨z0, e0, d0, _⟩ := DataW.trod_int Tryz.underlying3 g0
  obtain ⟨z1, e1, d1, _⟩ := DataW.trod_int Tryz.underlying3 g1
  have hxo : (xs[o]'(by omega)).1 = effD o := by
    have := congrArg (·[o]?) hxs
    simp only [List.getElem?_map, List.getElem?_range ho, List.getElem?_eq_getElem (show o < xs.length by omega), Option.map_some, Option.some.injEq] at this
    exact this
  rw [hy] at hxo
  subst d0
  subst d1
  unfold effD at hxo
  simp only [DataW.agg.injEq, List.cons.injEq, DataW.lit.injEq, Lit.int.injEq, true_and, and_true] at hxo
  obtain ⟨q0, q1⟩ := hxo
  have k0 : cs.toList[o * 2]? = some (.int .i64 z0) := by
    have := congrArg (·[0]?) e0
    simpa [List.getElem?_take, List.getElem?_drop] using this
  have k1 : cs.toList[o * 2 + 1]? = some (.int .i64 z1) := by
    have := congrArg (·[0]?) e1
    simpa [List.getElem?_take, List.getElem?_drop] using this
  have v0 := World.var?_cell gTab hvar (o * 2)
  have v1 := World.var?_cell gTab hvar (o * 2 + 1)
  rw [Array.getElem?_toList] at k0 k1
  rw [k0, q0] at v0
  rw [k1, q1] at v1
  exact ⟨v0, v1⟩

set_option maxRecDepth 100000 in
/-- What the walks give, for every argument and every world that holds the table. -/
theorem contract (H : Type) (enc : TypeId × Value → H) (W : World) (base : Nat) (args : Array Value) (ds gs : List (DataW H)) (before : List MemPlace)
    (hval : ∀ (j : Nat) t v, Tryz.f7.params[j]? = some t → args[j]? = some v → Value.okWide Tryz.prog W .any base t v)
    (hW : DataW.Whole enc Tryz.prog Tryz.f7.params.toList Rows.summedSpec.vars false W args.toList ds gs before) (hL : laidMetH Tryz.prog Rows.summedRow.laid W)
    (hsz : (DataW.weightsEach Tryz.prog (Tryz.f7.params.toList ++ Rows.summedSpec.plain.varTypes Tryz.prog) (ds ++ gs)).all (· ≤ reachBytes) = true) :
    Calls Tryz.prog 7 args W fun e W' => ∃ v, e = .returned v ∧ Rows.summedSpec.post enc Tryz.prog Tryz.f7 false true false false W args v W' := by
  have hW' := hW
  obtain ⟨p, q, hA0, hV, rfl, hfz, hnd⟩ := hW
  have hA : DataW.TrodAll enc Tryz.prog W 0 (fun _ => true) true Tryz.f7.params.toList args.toList ds p := hA0
  rw [Tryz.params7] at hA hval hsz
  obtain ⟨v0, vs0, d0, ds0, p0, q0, hargs, rfl, rfl, h0, r0⟩ := trodAll_cons hA
  obtain ⟨v1, vs1, d1, ds1, p1, q1, hargs1, rfl, rfl, h1, r1⟩ := trodAll_cons r0
  obtain ⟨rfl, rfl, rfl⟩ := trodAll_nil r1
  obtain rfl : args = #[v0, v1] := by cases args; simp_all
  obtain ⟨rfl, rfl⟩ := trodVars_none hV
  clear hA0
  simp only [List.append_nil] at hW'
  have h0k := h0
  have h1k := h1
  obtain ⟨fuel1, hf1⟩ := h1
  have hsz1 : (DataW.weightsEach Tryz.prog [3, 57] [d0, d1]).all (fun x => decide (x ≤ reachBytes)) = true := hsz
  have hwt1 : ∀ y ∈ d1.weights Tryz.prog 57, y ≤ reachBytes := by
    simp only [DataW.weightsEach, List.append_nil, List.all_eq_true, decide_eq_true_eq] at hsz1
    exact fun y hy => hsz1 y (List.mem_append_right _ hy)
  obtain ⟨z2, rfl, rfl, rfl, hwf2⟩ := open_int Tryz.underlying3 (hval 0 3 v0 rfl rfl) h0
  obtain ⟨a1, len1, cap1, rfl⟩ := okWide_slice Tryz.underlying57 (hval 1 57 v1 rfl rfl)
  obtain ⟨E0, hE0, hR0, hm0⟩ := open_evs (x := (d1, p1)) hf1 hwt1
  have ht := table hL
  have hw : 0 < W.heap.size := (cell_there (ht 0 (by omega)).1).1
  have hlt1 : ∀ x ∈ p1, x.block < W.heap.size := fun x hx => by simpa using hW'.lt x (by simp [hx])
  refine (summed_any z2 _ E0 W hE0 hR0 (by unfold reachBytes at hm0; omega) (wf_i64 hwf2) ht hw).mono fun e W' ⟨he, hb⟩ => ?_
  subst he
  refine ⟨_, rfl, _, _, _, [], [] ++ (p1 ++ []), [], hW', ?_, ?_, rfl, hb.frame _, fun h => by cases h⟩
  · exact trodAll_cons_mk (shut_bool Tryz.underlying4 _) trodAll_mk0
  · exact trodAll_cons_mk (Below.trod Tryz.laidOut (by kernel_rfl) (of_decide_eq_true (by kernel_rfl)) h0k hb (fun x hx => by cases hx)) (trodAll_cons_mk (Below.trod Tryz.laidOut (by kernel_rfl) (of_decide_eq_true (by kernel_rfl)) h1k hb hlt1) trodAll_mk0)

/-- A world for the witness: the settled one, the table (block 0) holding what its initialiser lays. -/
noncomputable def laidWorld (os : Os) : World :=
  { World.holding Tryz.prog os ⟨#[], #[], []⟩ with heap := (World.holding Tryz.prog os ⟨#[], #[], []⟩).heap.modify 0 fun
      | .cells _ t frozen => .cells #[.int .i64 0, .int .i64 1, .int .i64 0, .int .i64 1, .int .i64 0, .int .i64 1, .int .i64 1, .int .i64 0, .int .i64 2, .int .i64 1, .int .i64 2, .int .i64 1, .int .i64 2, .int .i64 1, .int .i64 2, .int .i64 1, .int .i64 2, .int .i64 1, .int .i64 2, .int .i64 1, .int .i64 0, .int .i64 0, .int .i64 1, .int .i64 0, .int .i64 0, .int .i64 1, .int .i64 1, .int .i64 1, .int .i64 1, .int .i64 0, .int .i64 1, .int .i64 1, .int .i64 2, .int .i64 1, .int .i64 3, .int .i64 0, .int .i64 1, .int .i64 1, .int .i64 1, .int .i64 0, .int .i64 1, .int .i64 0, .int .i64 1, .int .i64 2] t frozen
      | o => o }
theorem laid_met (os : Os) : laidMet Tryz.prog Rows.summedRow.laid ((laidWorld os).forCall (fun _ _ => 0) ⟨#[], #[.int .i64 0, .slice none 0 0], []⟩).memory :=
  laidMet_of_run' 8 (by kernel_rfl) (by kernel_rfl)
theorem reads (os : Os) {H : Type} (enc : TypeId × Value → H) : ∃ places, DataW.whole enc Tryz.prog ((laidWorld os).forCall (fun _ _ => 0) ⟨#[], #[.int .i64 0, .slice none 0 0], []⟩).memory Tryz.f7.params.toList Rows.summedSpec.vars false #[Value.int .i64 0, .slice none 0 0].toList 8 = some ([.lit (.int .i64 0), .nil], [], places) :=
  ⟨[], by kernel_rfl⟩

set_option maxRecDepth 100000 in
theorem lifted (os : Os) (started : os.Started) (H : Type) (enc : TypeId × Value → H) (F : Stop.Interp) :
    ReturnsInHanded {} Tryz.checked os 7 .any ((OpenSpec.ofChange Rows.summedSpec).preRow enc Tryz.prog Tryz.f7 Rows.summedRow.domain false Rows.summedRow.laid) (((OpenSpec.ofChange Rows.summedSpec).at F).post enc Tryz.prog Tryz.f7 false true false false) := by
  obtain ⟨places, hx⟩ := reads os enc
  refine returnsInHanded_of_row (C := Tryz.checked) (s := OpenSpec.ofChange Rows.summedSpec) Tryz.own started (by kernel_rfl) Tryz.func7
    (witness_row_at (enc := enc) (C := Tryz.checked) false (laidWorld os) #[.int .i64 0, .slice none 0 0] rfl (by kernel_rfl) (by kernel_rfl) (by kernel_rfl)
      (OpenSpec.preRow_of_cond 8 hx (by kernel_rfl) (fun k hk => by cases hk) (by kernel_rfl) (laid_met os))) ?_
  intro W base args ds gs before hval hW _ _ hsz hL _ _
  exact contract H enc W base args ds gs before hval hW hL hsz

theorem said : Rows.SummedSaid :=
  OpenClaim.holds_of_cond 7 Tryz.f7 rfl rfl rfl rfl rfl rfl rfl ⟨rfl, rfl, rfl, rfl, rfl⟩ rfl rfl rfl rfl rfl (by kernel_rfl) Tryz.func7 (by kernel_rfl)
    (of_decide_eq_true (by kernel_rfl)) (by unfold Func.isWrapper; first | (rw [if_pos (by decide +kernel)]; kernel_rfl) | (rw [if_neg (by decide +kernel)]; exact ⟨rfl, rfl⟩))
    (fun os started H enc _ F => by rw [OpenClaim.pre_eq_preRow]; exact lifted os started H enc F)

/-- No parameter wants a stand-in; the program's own looks are off. -/
theorem plainCard (f : FuncId) (fn : Func) (hf : Tryz.pinned.checked.prog.funcNamed "upshift/upshiftkeep.Summed" = some f) (hfn : Tryz.pinned.checked.prog.funcs[f]? = some fn) :
    Rows.summedCard.stood.looks = Tryz.pinned.checked.prog.looks [] ∧ ∀ (j : Nat) t, fn.params[j]? = some t → Tryz.pinned.checked.prog.wantsStandIn t = false := by
  obtain rfl : f = 7 := Option.some.inj ((show Tryz.prog.funcNamed "upshift/upshiftkeep.Summed" = some 7 by kernel_rfl).symm.trans hf) |>.symm
  obtain rfl : fn = Tryz.f7 := (Option.some.inj (Tryz.func7.symm.trans hfn)).symm
  refine ⟨by kernel_rfl, fun j t ht => ?_⟩
  rw [Tryz.params7] at ht
  have hm : t = 3 ∨ t = 57 := by simpa using Array.mem_of_getElem? ht
  rcases hm with rfl | rfl
  · exact (show Tryz.prog.wantsStandIn 3 = false by kernel_rfl)
  · exact (show Tryz.prog.wantsStandIn 57 = false by kernel_rfl)

/-- The card. -/
theorem summed_card : Rows.SummedCardSaid :=
  Claim7.holds_tied_plain_at .later [] _ _ _ _ said (fun _ h => by cases h) (by kernel_rfl) (fun _ h => by cases h) summed_row_tie rfl ⟨rfl, rfl⟩ (by kernel_rfl) rfl plainCard (by kernel_rfl)
#print axioms summed_card
end Go.Proofs.YtkafkipjedpohaaGreatDoor
