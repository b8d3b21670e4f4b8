/-
  NARROWER THAN 'FOR EVERY INPUT', by the rows' own cells (each row's printed sentence says how): Loads: laid · Checked: laid · Runs: laid · Steps: laid.
  DERIVED. THE GIVEN ROWS OF THIS SEAT. 4 by the template 'for every input the law returns true; each argument reads behind the call as it read before'; 0 by the template 'total and deterministic' (their statements: YtnhjjjijeeobbaaDoorTotals.lean).
  GIVEN WITH THE SEED: the statements are not yours to turn. If you find one false, say at which input.
  Laid BY PROGRAM, IN A SANDBOX (cutbox-rows.mjs): the forced cells as the released guide's own fill.sh prints them over the translation 937cf4bb372792cc… (all of the seat's roots in one cut). By AI agents, Wed Nov 11 2026. No macro, syntax, notation, axiom, sorry.
-/
import Derived.Test.YtnhjjjijeeobbaaDoorChecked
import GoSem.Claim
import GoSem.ClaimJoined
import GoSem.ClaimMapViews
import Derived.JoinedTies
import Derived.KernelRfl
namespace Go.Proofs.YtnhjjjijeeobbaaDoor
/- THE CELL 'sum', in the pinned program and in every row, IS THE sha256 OF THE DUMP (.gsa) THAT YtnhjjjijeeobbaaDoorProg.lean LOADS. Nothing in Lean hashes anything: it is a label: what it is worth is what the hold of that sum in a sandbox is worth. -/
noncomputable def Tryd.pinned : Pinned := { name := "ytnhjjjijeeobbaadoor", sum := "937cf4bb372792cc34934bf787b938e9258b5ad8ad1e6e6c6400a46d31c53c7d", checked := Tryd.checked }
namespace Rows
def none {H : Type} : Left H := { results := [], args := [] }

/- WHAT THE LISTED PACKAGE-LEVEL VARIABLES READ AS WHEN THE CALL BEGINS. Each datum BY PROGRAM (the guide's laid-datum.mjs) off the statement by which the dump's own 'gosem.cut.vars' lays the variable. In a bare row this is a premise. The card (YtnhjjjijeeobbaaDoorCards.lean) ties it to the program's text. -/
def laid_upshift_check_effects {H : Type} : DataW H := .agg [.agg [.lit (.int .i64 0), .lit (.int .i64 1)], .agg [.lit (.int .i64 0), .lit (.int .i64 1)], .agg [.lit (.int .i64 0), .lit (.int .i64 1)], .agg [.lit (.int .i64 1), .lit (.int .i64 0)], .agg [.lit (.int .i64 2), .lit (.int .i64 1)], .agg [.lit (.int .i64 2), .lit (.int .i64 1)], .agg [.lit (.int .i64 2), .lit (.int .i64 1)], .agg [.lit (.int .i64 2), .lit (.int .i64 1)], .agg [.lit (.int .i64 2), .lit (.int .i64 1)], .agg [.lit (.int .i64 2), .lit (.int .i64 1)], .agg [.lit (.int .i64 0), .lit (.int .i64 0)], .agg [.lit (.int .i64 1), .lit (.int .i64 0)], .agg [.lit (.int .i64 0), .lit (.int .i64 1)], .agg [.lit (.int .i64 1), .lit (.int .i64 1)], .agg [.lit (.int .i64 1), .lit (.int .i64 0)], .agg [.lit (.int .i64 1), .lit (.int .i64 1)], .agg [.lit (.int .i64 2), .lit (.int .i64 1)], .agg [.lit (.int .i64 3), .lit (.int .i64 0)], .agg [.lit (.int .i64 1), .lit (.int .i64 1)], .agg [.lit (.int .i64 1), .lit (.int .i64 0)], .agg [.lit (.int .i64 1), .lit (.int .i64 0)], .agg [.lit (.int .i64 1), .lit (.int .i64 2)]]

/-- 'upshiftlaw.Loads': WHATEVER THE INPUT: true; the input reads as it did. -/
def loadsSpec : ChangeSpec := { name := "loads", fn := fun _ => fun
  | [d] => { results := [.lit (.bool true)], args := [d] }
  | _ => none }
def loadsRow : OpenClaim := { program := "ytnhjjjijeeobbaadoor", sum := "937cf4bb372792cc34934bf787b938e9258b5ad8ad1e6e6c6400a46d31c53c7d", func := "upshift/upshiftlaw.Loads", spec := "loads", named := ["upshift/check.effects"], apart := false, laid := [("upshift/check.effects", laid_upshift_check_effects)] }
def LoadsSaid : Prop := loadsRow.holds Tryd.pinned (OpenSpec.ofChange loadsSpec)

/-- ITS FALSE NEIGHBOUR: 'it returns false'. Refute it at one input. -/
def loadsWrong : ChangeSpec := { name := "loads", fn := fun _ => fun
  | [d] => { results := [.lit (.bool false)], args := [d] }
  | _ => none }
def LoadsWrongFalsely : Prop := loadsRow.holds Tryd.pinned (OpenSpec.ofChange loadsWrong)

/-- 'upshiftkeep.Checked': WHATEVER THE INPUT: true; the input reads as it did. -/
def checkedSpec : ChangeSpec := { name := "checked", fn := fun _ => fun
  | [d1, d2] => { results := [.lit (.bool true)], args := [d1, d2] }
  | _ => none }
def checkedRow : OpenClaim := { program := "ytnhjjjijeeobbaadoor", sum := "937cf4bb372792cc34934bf787b938e9258b5ad8ad1e6e6c6400a46d31c53c7d", func := "upshift/upshiftkeep.Checked", spec := "checked", unfollowed := true, recurses := true, named := ["upshift/check.effects"], apart := false, laid := [("upshift/check.effects", laid_upshift_check_effects)] }
def CheckedSaid : Prop := checkedRow.holds Tryd.pinned (OpenSpec.ofChange checkedSpec)

/-- ITS FALSE NEIGHBOUR: 'it returns false'. Refute it at one input. -/
def checkedWrong : ChangeSpec := { name := "checked", fn := fun _ => fun
  | [d1, d2] => { results := [.lit (.bool false)], args := [d1, d2] }
  | _ => none }
def CheckedWrongFalsely : Prop := checkedRow.holds Tryd.pinned (OpenSpec.ofChange checkedWrong)

/-- 'upshiftlaw.Runs': WHATEVER THE INPUT: true; the input reads as it did. -/
def runsSpec : ChangeSpec := { name := "runs", fn := fun _ => fun
  | [d] => { results := [.lit (.bool true)], args := [d] }
  | _ => none }
def runsRow : OpenClaim := { program := "ytnhjjjijeeobbaadoor", sum := "937cf4bb372792cc34934bf787b938e9258b5ad8ad1e6e6c6400a46d31c53c7d", func := "upshift/upshiftlaw.Runs", spec := "runs", unfollowed := true, recurses := true, named := ["upshift/check.effects"], apart := false, laid := [("upshift/check.effects", laid_upshift_check_effects)] }
def RunsSaid : Prop := runsRow.holds Tryd.pinned (OpenSpec.ofChange runsSpec)

/-- ITS FALSE NEIGHBOUR: 'it returns false'. Refute it at one input. -/
def runsWrong : ChangeSpec := { name := "runs", fn := fun _ => fun
  | [d] => { results := [.lit (.bool false)], args := [d] }
  | _ => none }
def RunsWrongFalsely : Prop := runsRow.holds Tryd.pinned (OpenSpec.ofChange runsWrong)

/-- 'upshiftkeep.Steps': WHATEVER THE INPUT: true; the input reads as it did. -/
def stepsSpec : ChangeSpec := { name := "steps", fn := fun _ => fun
  | [d1, d2, d3] => { results := [.lit (.bool true)], args := [d1, d2, d3] }
  | _ => none }
def stepsRow : OpenClaim := { program := "ytnhjjjijeeobbaadoor", sum := "937cf4bb372792cc34934bf787b938e9258b5ad8ad1e6e6c6400a46d31c53c7d", func := "upshift/upshiftkeep.Steps", spec := "steps", unfollowed := true, recurses := true, named := ["upshift/check.effects"], apart := false, laid := [("upshift/check.effects", laid_upshift_check_effects)] }
def StepsSaid : Prop := stepsRow.holds Tryd.pinned (OpenSpec.ofChange stepsSpec)

/-- ITS FALSE NEIGHBOUR: 'it returns false'. Refute it at one input. -/
def stepsWrong : ChangeSpec := { name := "steps", fn := fun _ => fun
  | [d1, d2, d3] => { results := [.lit (.bool false)], args := [d1, d2, d3] }
  | _ => none }
def StepsWrongFalsely : Prop := stepsRow.holds Tryd.pinned (OpenSpec.ofChange stepsWrong)

/- THE SECOND FORM. 'bulk': how many values and letters a reading holds, each counted each time it is reached (what is shared counts as often as it is met; a slice's spare places count too). A statement '..UptoSaid' is the law's where the arguments, and the package variables that the reading takes, are together of bulk at most 1048576: NARROWER than '..Said'. Prove '..Said' where nothing that the law and all that it calls make is longer than what came in: it says more and counts as full. Else prove '..UptoSaid'. A law counts once. -/
mutual
def uptoBulk {H : Type} : DataW H → Nat
  | .lit (.string bytes) => bytes.length + 1
  | .lit _ => 1
  | .nil => 1
  | .ptr d => uptoBulk d + 1
  | .slice elems spare => uptoBulkAll elems + uptoBulkAll spare + 1
  | .agg parts => uptoBulkAll parts + 1
  | .iface _ d => uptoBulk d + 1
  | .map entries => uptoBulkEntries entries + 1
  | .held _ => 1
def uptoBulkAll {H : Type} : List (DataW H) → Nat
  | [] => 0
  | d :: r => uptoBulk d + uptoBulkAll r
def uptoBulkEntries {H : Type} : List (Lit × DataW H) → Nat
  | [] => 0
  | x :: r => uptoBulkEntry x + uptoBulkEntries r
def uptoBulkEntry {H : Type} : Lit × DataW H → Nat
  | (.string bytes, d) => bytes.length + uptoBulk d + 1
  | (_, d) => uptoBulk d + 1
 end
def uptoSmall : (H : Type) → List (DataW H) → Bool := fun _ ds => decide (uptoBulkAll ds ≤ 1048576)
def OpenSpec.upto (s : _root_.Go.ChangeSpec) : _root_.Go.OpenSpec := { _root_.Go.OpenSpec.ofChange s with cond := some uptoSmall }

/-- 'upshiftlaw.Loads', WHERE WHAT IT READS IS OF BULK AT MOST 1048576: true; the input reads as it did. -/
def loadsUptoRow : OpenClaim := { program := "ytnhjjjijeeobbaadoor", sum := "937cf4bb372792cc34934bf787b938e9258b5ad8ad1e6e6c6400a46d31c53c7d", func := "upshift/upshiftlaw.Loads", spec := "loads", named := ["upshift/check.effects"], apart := false, laid := [("upshift/check.effects", laid_upshift_check_effects)], narrowed := true }
def LoadsUptoSaid : Prop := loadsUptoRow.holds Tryd.pinned (OpenSpec.upto loadsSpec)

/-- 'upshiftkeep.Checked', WHERE WHAT IT READS IS OF BULK AT MOST 1048576: true; the input reads as it did. -/
def checkedUptoRow : OpenClaim := { program := "ytnhjjjijeeobbaadoor", sum := "937cf4bb372792cc34934bf787b938e9258b5ad8ad1e6e6c6400a46d31c53c7d", func := "upshift/upshiftkeep.Checked", spec := "checked", unfollowed := true, recurses := true, named := ["upshift/check.effects"], apart := false, laid := [("upshift/check.effects", laid_upshift_check_effects)], narrowed := true }
def CheckedUptoSaid : Prop := checkedUptoRow.holds Tryd.pinned (OpenSpec.upto checkedSpec)

/-- 'upshiftlaw.Runs', WHERE WHAT IT READS IS OF BULK AT MOST 1048576: true; the input reads as it did. -/
def runsUptoRow : OpenClaim := { program := "ytnhjjjijeeobbaadoor", sum := "937cf4bb372792cc34934bf787b938e9258b5ad8ad1e6e6c6400a46d31c53c7d", func := "upshift/upshiftlaw.Runs", spec := "runs", unfollowed := true, recurses := true, named := ["upshift/check.effects"], apart := false, laid := [("upshift/check.effects", laid_upshift_check_effects)], narrowed := true }
def RunsUptoSaid : Prop := runsUptoRow.holds Tryd.pinned (OpenSpec.upto runsSpec)

/-- 'upshiftkeep.Steps', WHERE WHAT IT READS IS OF BULK AT MOST 1048576: true; the input reads as it did. -/
def stepsUptoRow : OpenClaim := { program := "ytnhjjjijeeobbaadoor", sum := "937cf4bb372792cc34934bf787b938e9258b5ad8ad1e6e6c6400a46d31c53c7d", func := "upshift/upshiftkeep.Steps", spec := "steps", unfollowed := true, recurses := true, named := ["upshift/check.effects"], apart := false, laid := [("upshift/check.effects", laid_upshift_check_effects)], narrowed := true }
def StepsUptoSaid : Prop := stepsUptoRow.holds Tryd.pinned (OpenSpec.upto stepsSpec)

end Rows
end Go.Proofs.YtnhjjjijeeobbaaDoor
