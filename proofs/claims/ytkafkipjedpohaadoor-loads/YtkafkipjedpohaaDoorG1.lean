import Derived.Test.YtkafkipjedpohaaDoorCards
import Derived.Test.YtkafkipjedpohaaDoorTie
import Derived.Test.YtkafkipjedpohaaDoorE3
import Derived.Test.YtkafkipjedpohaaDoorF1
import Derived.OpenShut
import Derived.Deep.DeepHandedRow
import Derived.Lib.LaidTab

/-
  upshiftlaw.Loads: the row and the card.
-/
namespace Go.Proofs.YtkafkipjedpohaaDoor
open Go.ChangeShapes Go.WideShapes Go.ChangeAt Go.RowKit

theorem Tryd.own : ownKnob Tryd.prog.godebug = none := by kernel_rfl
theorem Tryd.laidOut : laidOutB Tryd.prog = true := by kernel_rfl
theorem gTab : Tryd.prog.globalNamed "upshift/check.effects" = some 0 := by kernel_rfl
theorem gTabType : (Tryd.prog.globals[0]?).map (·.type) = some 71 := by kernel_rfl
theorem Tryd.cells68 : Tryd.prog.cellsOf 68 = 2 := by kernel_rfl
theorem Tryd.cells71 : Tryd.prog.cellsOf 71 = 44 := by kernel_rfl

/-- One row of the table of effects, as a datum. -/
def effD {H : Type} (i : Nat) : DataW H := .agg [.lit (.int .i64 (popsT i)), .lit (.int .i64 (pushesP i))]
theorem effects_eq {H : Type} : (Rows.laid_upshift_check_effects : DataW H) = .agg ((List.range 22).map effD) := by rfl

/-- What the row's list gives: the table's cells. -/
theorem table {W : World} (h : laidMetH Tryd.prog Rows.loadsRow.laid W) : TabAt W := by
  have h' : laidMet Tryd.prog [("upshift/check.effects", Rows.laid_upshift_check_effects)] W := h
  obtain ⟨ps, ⟨g', t', cs, fuel, p, q, hg', ht', hvar, hd, _, _⟩, _⟩ := h'
  obtain rfl := Option.some.inj (gTab.symm.trans hg')
  obtain rfl := Option.some.inj (gTabType.symm.trans ht')
  rw [effects_eq] at hd
  obtain ⟨xs, m, _, hx, hl, hxl, hf⟩ := DataW.trod_array Tryd.underlying71 hd
  rw [Tryd.cells71] at hl
  have hxs : xs.map (·.1) = (List.range 22).map effD := by
    have := (Prod.mk.inj hx).1
    injection this with this
    exact this.symm
  intro o ho
  have h1 := hf o ho
  rw [Tryd.cells68, List.getElem?_eq_getElem (by omega)] at h1
  obtain ⟨y0, y1, n', hy, hlen, g0, g1⟩ := trod_struct2 Tryd.underlying68 h1
  simp only [Tryd.cells3] at g0 g1
  obtain ⟨z0, e0, d0, _⟩ := DataW.trod_int Tryd.underlying3 g0
  obtain ⟨z1, e1, d1, _⟩ := DataW.trod_int Tryd.underlying3 g1
  have hxo : (xs[o]'(by omega)).1 = effD o := by
    have := congrArg (·[o]?) hxs
    simp only [List.getElem?_map, List.getElem?_range ho, List.getElem?_eq_getElem (show o < xs.length by omega), Option.map_some, Option.some.injEq] at this
    exact this
  rw [hy] at hxo
  subst d0
  subst d1
  unfold effD at hxo
  simp only [DataW.agg.injEq, List.cons.injEq, DataW.lit.injEq, Lit.int.injEq, true_and, and_true] at hxo
  obtain ⟨q0, q1⟩ := hxo
  have k0 : cs.toList[o * 2]? = some (.int .i64 z0) := by
    have := congrArg (·[0]?) e0
    simpa [List.getElem?_take, List.getElem?_drop] using this
  have k1 : cs.toList[o * 2 + 1]? = some (.int .i64 z1) := by
    have := congrArg (·[0]?) e1
    simpa [List.getElem?_take, List.getElem?_drop] using this
  have v0 := World.var?_cell gTab hvar (o * 2)
  have v1 := World.var?_cell gTab hvar (o * 2 + 1)
  rw [Array.getElem?_toList] at k0 k1
  rw [k0, q0] at v0
  rw [k1, q1] at v1
  exact ⟨v0, v1⟩

set_option maxRecDepth 100000 in
/-- What the walks give, for every argument and every world that holds the table. -/
theorem contract (H : Type) (enc : TypeId × Value → H) (W : World) (base : Nat) (args : Array Value) (ds gs : List (DataW H)) (before : List MemPlace)
    (hval : ∀ (j : Nat) t v, Tryd.f3.params[j]? = some t → args[j]? = some v → Value.okWide Tryd.prog W .any base t v)
    (hW : DataW.Whole enc Tryd.prog Tryd.f3.params.toList Rows.loadsSpec.vars false W args.toList ds gs before) (hL : laidMetH Tryd.prog Rows.loadsRow.laid W)
    (hsz : (DataW.weightsEach Tryd.prog (Tryd.f3.params.toList ++ Rows.loadsSpec.plain.varTypes Tryd.prog) (ds ++ gs)).all (· ≤ reachBytes) = true) :
    Calls Tryd.prog 3 args W fun e W' => ∃ v, e = .returned v ∧ Rows.loadsSpec.post enc Tryd.prog Tryd.f3 false true false false W args v W' := by
  have hW' := hW
  obtain ⟨p, q, hA0, hV, rfl, hfz, hnd⟩ := hW
  have hA : DataW.TrodAll enc Tryd.prog W 0 (fun _ => true) true Tryd.f3.params.toList args.toList ds p := hA0
  rw [Tryd.params3] at hA hval hsz
  obtain ⟨v0, vs0, d0, ds0, p0, q0, hargs, rfl, rfl, h0, r0⟩ := trodAll_cons hA
  obtain ⟨rfl, rfl, rfl⟩ := trodAll_nil r0
  obtain rfl : args = #[v0] := by cases args; simp_all
  obtain ⟨rfl, rfl⟩ := trodVars_none hV
  clear hA0
  simp only [List.append_nil] at hW'
  have h0k := h0
  obtain ⟨fuel, hf⟩ := h0
  have hsz1 : (DataW.weightsEach Tryd.prog [22] [d0]).all (fun x => decide (x ≤ reachBytes)) = true := hsz
  have hwt : ∀ y ∈ d0.weights Tryd.prog 22, y ≤ reachBytes := by
    simp only [DataW.weightsEach, List.append_nil, List.all_eq_true, decide_eq_true_eq] at hsz1
    exact hsz1
  obtain ⟨a0, len, cap, rfl⟩ := okWide_slice Tryd.underlying22 (hval 0 22 v0 rfl rfl)
  obtain ⟨pa, m, pc, F, CA, CC, hv, hG, hm, hcn⟩ := open_prog (x := (d0, p0)) hf hwt
  injection hv with e1 e2 e3
  subst e1
  subst e2
  subst e3
  have ht := table hL
  have hw : 0 < W.heap.size := (cell_there (ht 0 (by omega)).1).1
  have hlt : ∀ x ∈ p0, x.block < W.heap.size := fun x hx => by simpa using hW'.lt x (by simpa using hx)
  refine (loads_any a0 cap len F CA CC W hG (by unfold reachBytes at hm; omega) (fun k hk => by have := hcn k hk; unfold reachBytes at this; omega) ht hw).mono fun e W' ⟨he, hb⟩ => ?_
  subst he
  refine ⟨_, rfl, _, _, _, [], p0 ++ [], [], hW', ?_, ?_, rfl, hb.frame _, fun h => by cases h⟩
  · exact trodAll_cons_mk (shut_bool Tryd.underlying4 _) trodAll_mk0
  · exact trodAll_cons_mk (Below.trod Tryd.laidOut (by kernel_rfl) (of_decide_eq_true (by kernel_rfl)) h0k hb hlt) trodAll_mk0

/-- A world for the witness: the settled one, the table (block 0) holding what its initialiser lays. -/
noncomputable def laidWorld (os : Os) : World :=
  { World.holding Tryd.prog os ⟨#[], #[], []⟩ with heap := (World.holding Tryd.prog os ⟨#[], #[], []⟩).heap.modify 0 fun
      | .cells _ t frozen => .cells #[.int .i64 0, .int .i64 1, .int .i64 0, .int .i64 1, .int .i64 0, .int .i64 1, .int .i64 1, .int .i64 0, .int .i64 2, .int .i64 1, .int .i64 2, .int .i64 1, .int .i64 2, .int .i64 1, .int .i64 2, .int .i64 1, .int .i64 2, .int .i64 1, .int .i64 2, .int .i64 1, .int .i64 0, .int .i64 0, .int .i64 1, .int .i64 0, .int .i64 0, .int .i64 1, .int .i64 1, .int .i64 1, .int .i64 1, .int .i64 0, .int .i64 1, .int .i64 1, .int .i64 2, .int .i64 1, .int .i64 3, .int .i64 0, .int .i64 1, .int .i64 1, .int .i64 1, .int .i64 0, .int .i64 1, .int .i64 0, .int .i64 1, .int .i64 2] t frozen
      | o => o }
theorem laid_met (os : Os) : laidMet Tryd.prog Rows.loadsRow.laid ((laidWorld os).forCall (fun _ _ => 0) ⟨#[], #[.slice none 0 0], []⟩).memory :=
  laidMet_of_run' 8 (by kernel_rfl) (by kernel_rfl)
theorem reads (os : Os) {H : Type} (enc : TypeId × Value → H) : ∃ places, DataW.whole enc Tryd.prog ((laidWorld os).forCall (fun _ _ => 0) ⟨#[], #[.slice none 0 0], []⟩).memory Tryd.f3.params.toList Rows.loadsSpec.vars false #[Value.slice none 0 0].toList 8 = some ([.nil], [], places) :=
  ⟨[], by kernel_rfl⟩

set_option maxRecDepth 100000 in
theorem lifted (os : Os) (started : os.Started) (H : Type) (enc : TypeId × Value → H) (F : Stop.Interp) :
    ReturnsInHanded {} Tryd.checked os 3 .any ((OpenSpec.ofChange Rows.loadsSpec).preRow enc Tryd.prog Tryd.f3 Rows.loadsRow.domain false Rows.loadsRow.laid) (((OpenSpec.ofChange Rows.loadsSpec).at F).post enc Tryd.prog Tryd.f3 false true false false) := by
  obtain ⟨places, hx⟩ := reads os enc
  refine returnsInHanded_of_row (C := Tryd.checked) (s := OpenSpec.ofChange Rows.loadsSpec) Tryd.own started (by kernel_rfl) Tryd.func3
    (witness_row_at (enc := enc) (C := Tryd.checked) false (laidWorld os) #[.slice none 0 0] rfl (by kernel_rfl) (by kernel_rfl) (by kernel_rfl)
      (OpenSpec.preRow_of_cond 8 hx (by kernel_rfl) (fun k hk => by cases hk) (by kernel_rfl) (laid_met os))) ?_
  intro W base args ds gs before hval hW _ _ hsz hL _ _
  exact contract H enc W base args ds gs before hval hW hL hsz

theorem said : Rows.LoadsSaid :=
  OpenClaim.holds_of_cond 3 Tryd.f3 rfl rfl rfl rfl rfl rfl rfl ⟨rfl, rfl, rfl, rfl, rfl⟩ rfl rfl rfl rfl rfl (by kernel_rfl) Tryd.func3 (by kernel_rfl)
    (of_decide_eq_true (by kernel_rfl)) (by unfold Func.isWrapper; first | (rw [if_pos (by decide +kernel)]; kernel_rfl) | (rw [if_neg (by decide +kernel)]; exact ⟨rfl, rfl⟩))
    (fun os started H enc _ F => by rw [OpenClaim.pre_eq_preRow]; exact lifted os started H enc F)

/-- No parameter wants a stand-in; the program's own looks are off. -/
theorem plainCard (f : FuncId) (fn : Func) (hf : Tryd.pinned.checked.prog.funcNamed "upshift/upshiftlaw.Loads" = some f) (hfn : Tryd.pinned.checked.prog.funcs[f]? = some fn) :
    Rows.loadsCard.stood.looks = Tryd.pinned.checked.prog.looks [] ∧ ∀ (j : Nat) t, fn.params[j]? = some t → Tryd.pinned.checked.prog.wantsStandIn t = false := by
  obtain rfl : f = 3 := Option.some.inj ((show Tryd.prog.funcNamed "upshift/upshiftlaw.Loads" = some 3 by kernel_rfl).symm.trans hf) |>.symm
  obtain rfl : fn = Tryd.f3 := (Option.some.inj (Tryd.func3.symm.trans hfn)).symm
  refine ⟨by kernel_rfl, fun j t ht => ?_⟩
  rw [Tryd.params3] at ht
  obtain rfl : t = 22 := by simpa using Array.mem_of_getElem? ht
  exact (show Tryd.prog.wantsStandIn 22 = false by kernel_rfl)

/-- The card. -/
theorem loads_card : Rows.LoadsCardSaid :=
  Claim7.holds_tied_plain_at .later [] _ _ _ _ said (fun _ h => by cases h) (by kernel_rfl) (fun _ h => by cases h) loads_row_tie rfl ⟨rfl, rfl⟩ (by kernel_rfl) rfl plainCard (by kernel_rfl)
#print axioms loads_card
end Go.Proofs.YtkafkipjedpohaaDoor
