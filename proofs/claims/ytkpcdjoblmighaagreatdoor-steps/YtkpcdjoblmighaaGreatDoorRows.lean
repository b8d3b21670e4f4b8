/-
  NARROWER THAN 'FOR EVERY INPUT', by the rows' own cells (each row's printed sentence says how): Checked: laid · Runs: laid · Steps: laid · Shifts: laid · Summed: laid · Apart: laid.
  DERIVED. THE GIVEN ROWS OF THIS SEAT. 6 by the template 'for every input the law returns true; each argument reads behind the call as it read before'; 0 by the template 'total and deterministic' (their statements: YtkpcdjoblmighaaGreatDoorTotals.lean).
  GIVEN WITH THE SEED: the statements are not yours to turn. If you find one false, say at which input.
  Laid BY PROGRAM, IN A SANDBOX (cutbox-rows.mjs): the forced cells as the released guide's own fill.sh prints them over the translation ac5400e5eacd5ce4… (all of the seat's roots in one cut). By AI agents, Wed Nov 11 2026. No macro, syntax, notation, axiom, sorry.
-/
import Derived.Test.YtkpcdjoblmighaaGreatDoorChecked
import GoSem.Claim
import GoSem.ClaimJoined
import GoSem.ClaimMapViews
import Derived.JoinedTies
import Derived.KernelRfl
namespace Go.Proofs.YtkpcdjoblmighaaGreatDoor
/- THE CELL 'sum', in the pinned program and in every row, IS THE sha256 OF THE DUMP (.gsa) THAT YtkpcdjoblmighaaGreatDoorProg.lean LOADS. Nothing in Lean hashes anything: it is a label: what it is worth is what the hold of that sum in a sandbox is worth. -/
noncomputable def Tryz.pinned : Pinned := { name := "ytkpcdjoblmighaagreatdoor", sum := "ac5400e5eacd5ce45a95af45aa1447331bfc7c5804a59457d40a62fb925f5d8e", checked := Tryz.checked }
namespace Rows
def none {H : Type} : Left H := { results := [], args := [] }

/- WHAT THE LISTED PACKAGE-LEVEL VARIABLES READ AS WHEN THE CALL BEGINS. Each datum BY PROGRAM (the guide's laid-datum.mjs) off the statement by which the dump's own 'gosem.cut.vars' lays the variable. In a bare row this is a premise. The card (YtkpcdjoblmighaaGreatDoorCards.lean) ties it to the program's text. -/
def laid_upshift_check_effects {H : Type} : DataW H := .agg [.agg [.lit (.int .i64 0), .lit (.int .i64 1)], .agg [.lit (.int .i64 0), .lit (.int .i64 1)], .agg [.lit (.int .i64 0), .lit (.int .i64 1)], .agg [.lit (.int .i64 1), .lit (.int .i64 0)], .agg [.lit (.int .i64 2), .lit (.int .i64 1)], .agg [.lit (.int .i64 2), .lit (.int .i64 1)], .agg [.lit (.int .i64 2), .lit (.int .i64 1)], .agg [.lit (.int .i64 2), .lit (.int .i64 1)], .agg [.lit (.int .i64 2), .lit (.int .i64 1)], .agg [.lit (.int .i64 2), .lit (.int .i64 1)], .agg [.lit (.int .i64 0), .lit (.int .i64 0)], .agg [.lit (.int .i64 1), .lit (.int .i64 0)], .agg [.lit (.int .i64 0), .lit (.int .i64 1)], .agg [.lit (.int .i64 1), .lit (.int .i64 1)], .agg [.lit (.int .i64 1), .lit (.int .i64 0)], .agg [.lit (.int .i64 1), .lit (.int .i64 1)], .agg [.lit (.int .i64 2), .lit (.int .i64 1)], .agg [.lit (.int .i64 3), .lit (.int .i64 0)], .agg [.lit (.int .i64 1), .lit (.int .i64 1)], .agg [.lit (.int .i64 1), .lit (.int .i64 0)], .agg [.lit (.int .i64 1), .lit (.int .i64 0)], .agg [.lit (.int .i64 1), .lit (.int .i64 2)]]

/-- 'upshiftkeep.Checked': WHATEVER THE INPUT: true; the input reads as it did. -/
def checkedSpec : ChangeSpec := { name := "checked", fn := fun _ => fun
  | [d1, d2] => { results := [.lit (.bool true)], args := [d1, d2] }
  | _ => none }
def checkedRow : OpenClaim := { program := "ytkpcdjoblmighaagreatdoor", sum := "ac5400e5eacd5ce45a95af45aa1447331bfc7c5804a59457d40a62fb925f5d8e", func := "upshift/upshiftkeep.Checked", spec := "checked", unfollowed := true, recurses := true, named := ["upshift/check.effects"], apart := false, laid := [("upshift/check.effects", laid_upshift_check_effects)] }
def CheckedSaid : Prop := checkedRow.holds Tryz.pinned (OpenSpec.ofChange checkedSpec)

/-- ITS FALSE NEIGHBOUR: 'it returns false'. Refute it at one input. -/
def checkedWrong : ChangeSpec := { name := "checked", fn := fun _ => fun
  | [d1, d2] => { results := [.lit (.bool false)], args := [d1, d2] }
  | _ => none }
def CheckedWrongFalsely : Prop := checkedRow.holds Tryz.pinned (OpenSpec.ofChange checkedWrong)

/-- 'upshiftlaw.Runs': WHATEVER THE INPUT: true; the input reads as it did. -/
def runsSpec : ChangeSpec := { name := "runs", fn := fun _ => fun
  | [d] => { results := [.lit (.bool true)], args := [d] }
  | _ => none }
def runsRow : OpenClaim := { program := "ytkpcdjoblmighaagreatdoor", sum := "ac5400e5eacd5ce45a95af45aa1447331bfc7c5804a59457d40a62fb925f5d8e", func := "upshift/upshiftlaw.Runs", spec := "runs", unfollowed := true, recurses := true, named := ["upshift/check.effects"], apart := false, laid := [("upshift/check.effects", laid_upshift_check_effects)] }
def RunsSaid : Prop := runsRow.holds Tryz.pinned (OpenSpec.ofChange runsSpec)

/-- ITS FALSE NEIGHBOUR: 'it returns false'. Refute it at one input. -/
def runsWrong : ChangeSpec := { name := "runs", fn := fun _ => fun
  | [d] => { results := [.lit (.bool false)], args := [d] }
  | _ => none }
def RunsWrongFalsely : Prop := runsRow.holds Tryz.pinned (OpenSpec.ofChange runsWrong)

/-- 'upshiftkeep.Steps': WHATEVER THE INPUT: true; the input reads as it did. -/
def stepsSpec : ChangeSpec := { name := "steps", fn := fun _ => fun
  | [d1, d2, d3] => { results := [.lit (.bool true)], args := [d1, d2, d3] }
  | _ => none }
def stepsRow : OpenClaim := { program := "ytkpcdjoblmighaagreatdoor", sum := "ac5400e5eacd5ce45a95af45aa1447331bfc7c5804a59457d40a62fb925f5d8e", func := "upshift/upshiftkeep.Steps", spec := "steps", unfollowed := true, recurses := true, named := ["upshift/check.effects"], apart := false, laid := [("upshift/check.effects", laid_upshift_check_effects)] }
def StepsSaid : Prop := stepsRow.holds Tryz.pinned (OpenSpec.ofChange stepsSpec)

/-- ITS FALSE NEIGHBOUR: 'it returns false'. Refute it at one input. -/
def stepsWrong : ChangeSpec := { name := "steps", fn := fun _ => fun
  | [d1, d2, d3] => { results := [.lit (.bool false)], args := [d1, d2, d3] }
  | _ => none }
def StepsWrongFalsely : Prop := stepsRow.holds Tryz.pinned (OpenSpec.ofChange stepsWrong)

/-- 'upshiftlaw.Shifts': WHATEVER THE INPUT: true; the input reads as it did. -/
def shiftsSpec : ChangeSpec := { name := "shifts", fn := fun _ => fun
  | [d] => { results := [.lit (.bool true)], args := [d] }
  | _ => none }
def shiftsRow : OpenClaim := { program := "ytkpcdjoblmighaagreatdoor", sum := "ac5400e5eacd5ce45a95af45aa1447331bfc7c5804a59457d40a62fb925f5d8e", func := "upshift/upshiftlaw.Shifts", spec := "shifts", unfollowed := true, recurses := true, named := ["upshift/check.effects"], apart := false, laid := [("upshift/check.effects", laid_upshift_check_effects)] }
def ShiftsSaid : Prop := shiftsRow.holds Tryz.pinned (OpenSpec.ofChange shiftsSpec)

/-- ITS FALSE NEIGHBOUR: 'it returns false'. Refute it at one input. -/
def shiftsWrong : ChangeSpec := { name := "shifts", fn := fun _ => fun
  | [d] => { results := [.lit (.bool false)], args := [d] }
  | _ => none }
def ShiftsWrongFalsely : Prop := shiftsRow.holds Tryz.pinned (OpenSpec.ofChange shiftsWrong)

/-- 'upshiftkeep.Summed': WHATEVER THE INPUT: true; the input reads as it did. -/
def summedSpec : ChangeSpec := { name := "summed", fn := fun _ => fun
  | [d1, d2] => { results := [.lit (.bool true)], args := [d1, d2] }
  | _ => none }
def summedRow : OpenClaim := { program := "ytkpcdjoblmighaagreatdoor", sum := "ac5400e5eacd5ce45a95af45aa1447331bfc7c5804a59457d40a62fb925f5d8e", func := "upshift/upshiftkeep.Summed", spec := "summed", unfollowed := true, recurses := true, named := ["upshift/check.effects"], apart := false, laid := [("upshift/check.effects", laid_upshift_check_effects)] }
def SummedSaid : Prop := summedRow.holds Tryz.pinned (OpenSpec.ofChange summedSpec)

/-- ITS FALSE NEIGHBOUR: 'it returns false'. Refute it at one input. -/
def summedWrong : ChangeSpec := { name := "summed", fn := fun _ => fun
  | [d1, d2] => { results := [.lit (.bool false)], args := [d1, d2] }
  | _ => none }
def SummedWrongFalsely : Prop := summedRow.holds Tryz.pinned (OpenSpec.ofChange summedWrong)

/-- 'upshiftkeep.Apart': WHATEVER THE INPUT: true; the input reads as it did. -/
def apartSpec : ChangeSpec := { name := "apart", fn := fun _ => fun
  | [d1, d2, d3, d4] => { results := [.lit (.bool true)], args := [d1, d2, d3, d4] }
  | _ => none }
def apartRow : OpenClaim := { program := "ytkpcdjoblmighaagreatdoor", sum := "ac5400e5eacd5ce45a95af45aa1447331bfc7c5804a59457d40a62fb925f5d8e", func := "upshift/upshiftkeep.Apart", spec := "apart", unfollowed := true, recurses := true, named := ["upshift/check.effects"], apart := false, laid := [("upshift/check.effects", laid_upshift_check_effects)] }
def ApartSaid : Prop := apartRow.holds Tryz.pinned (OpenSpec.ofChange apartSpec)

/-- ITS FALSE NEIGHBOUR: 'it returns false'. Refute it at one input. -/
def apartWrong : ChangeSpec := { name := "apart", fn := fun _ => fun
  | [d1, d2, d3, d4] => { results := [.lit (.bool false)], args := [d1, d2, d3, d4] }
  | _ => none }
def ApartWrongFalsely : Prop := apartRow.holds Tryz.pinned (OpenSpec.ofChange apartWrong)

/- THE SECOND FORM. 'bulk': how many values and letters a reading holds, each counted each time it is reached (what is shared counts as often as it is met; a slice's spare places count too). A statement '..UptoSaid' is the law's where the arguments, and the package variables that the reading takes, are together of bulk at most 1048576: NARROWER than '..Said'. Prove '..Said' where nothing that the law and all that it calls make is longer than what came in: it says more and counts as full. Else prove '..UptoSaid'. A law counts once. -/
mutual
def uptoBulk {H : Type} : DataW H → Nat
  | .lit (.string bytes) => bytes.length + 1
  | .lit _ => 1
  | .nil => 1
  | .ptr d => uptoBulk d + 1
  | .slice elems spare => uptoBulkAll elems + uptoBulkAll spare + 1
  | .agg parts => uptoBulkAll parts + 1
  | .iface _ d => uptoBulk d + 1
  | .map entries => uptoBulkEntries entries + 1
  | .held _ => 1
def uptoBulkAll {H : Type} : List (DataW H) → Nat
  | [] => 0
  | d :: r => uptoBulk d + uptoBulkAll r
def uptoBulkEntries {H : Type} : List (Lit × DataW H) → Nat
  | [] => 0
  | x :: r => uptoBulkEntry x + uptoBulkEntries r
def uptoBulkEntry {H : Type} : Lit × DataW H → Nat
  | (.string bytes, d) => bytes.length + uptoBulk d + 1
  | (_, d) => uptoBulk d + 1
 end
def uptoSmall : (H : Type) → List (DataW H) → Bool := fun _ ds => decide (uptoBulkAll ds ≤ 1048576)
def OpenSpec.upto (s : _root_.Go.ChangeSpec) : _root_.Go.OpenSpec := { _root_.Go.OpenSpec.ofChange s with cond := some uptoSmall }

/-- 'upshiftkeep.Checked', WHERE WHAT IT READS IS OF BULK AT MOST 1048576: true; the input reads as it did. -/
def checkedUptoRow : OpenClaim := { program := "ytkpcdjoblmighaagreatdoor", sum := "ac5400e5eacd5ce45a95af45aa1447331bfc7c5804a59457d40a62fb925f5d8e", func := "upshift/upshiftkeep.Checked", spec := "checked", unfollowed := true, recurses := true, named := ["upshift/check.effects"], apart := false, laid := [("upshift/check.effects", laid_upshift_check_effects)], narrowed := true }
def CheckedUptoSaid : Prop := checkedUptoRow.holds Tryz.pinned (OpenSpec.upto checkedSpec)

/-- 'upshiftlaw.Runs', WHERE WHAT IT READS IS OF BULK AT MOST 1048576: true; the input reads as it did. -/
def runsUptoRow : OpenClaim := { program := "ytkpcdjoblmighaagreatdoor", sum := "ac5400e5eacd5ce45a95af45aa1447331bfc7c5804a59457d40a62fb925f5d8e", func := "upshift/upshiftlaw.Runs", spec := "runs", unfollowed := true, recurses := true, named := ["upshift/check.effects"], apart := false, laid := [("upshift/check.effects", laid_upshift_check_effects)], narrowed := true }
def RunsUptoSaid : Prop := runsUptoRow.holds Tryz.pinned (OpenSpec.upto runsSpec)

/-- 'upshiftkeep.Steps', WHERE WHAT IT READS IS OF BULK AT MOST 1048576: true; the input reads as it did. -/
def stepsUptoRow : OpenClaim := { program := "ytkpcdjoblmighaagreatdoor", sum := "ac5400e5eacd5ce45a95af45aa1447331bfc7c5804a59457d40a62fb925f5d8e", func := "upshift/upshiftkeep.Steps", spec := "steps", unfollowed := true, recurses := true, named := ["upshift/check.effects"], apart := false, laid := [("upshift/check.effects", laid_upshift_check_effects)], narrowed := true }
def StepsUptoSaid : Prop := stepsUptoRow.holds Tryz.pinned (OpenSpec.upto stepsSpec)

/-- 'upshiftlaw.Shifts', WHERE WHAT IT READS IS OF BULK AT MOST 1048576: true; the input reads as it did. -/
def shiftsUptoRow : OpenClaim := { program := "ytkpcdjoblmighaagreatdoor", sum := "ac5400e5eacd5ce45a95af45aa1447331bfc7c5804a59457d40a62fb925f5d8e", func := "upshift/upshiftlaw.Shifts", spec := "shifts", unfollowed := true, recurses := true, named := ["upshift/check.effects"], apart := false, laid := [("upshift/check.effects", laid_upshift_check_effects)], narrowed := true }
def ShiftsUptoSaid : Prop := shiftsUptoRow.holds Tryz.pinned (OpenSpec.upto shiftsSpec)

/-- 'upshiftkeep.Summed', WHERE WHAT IT READS IS OF BULK AT MOST 1048576: true; the input reads as it did. -/
def summedUptoRow : OpenClaim := { program := "ytkpcdjoblmighaagreatdoor", sum := "ac5400e5eacd5ce45a95af45aa1447331bfc7c5804a59457d40a62fb925f5d8e", func := "upshift/upshiftkeep.Summed", spec := "summed", unfollowed := true, recurses := true, named := ["upshift/check.effects"], apart := false, laid := [("upshift/check.effects", laid_upshift_check_effects)], narrowed := true }
def SummedUptoSaid : Prop := summedUptoRow.holds Tryz.pinned (OpenSpec.upto summedSpec)

/-- 'upshiftkeep.Apart', WHERE WHAT IT READS IS OF BULK AT MOST 1048576: true; the input reads as it did. -/
def apartUptoRow : OpenClaim := { program := "ytkpcdjoblmighaagreatdoor", sum := "ac5400e5eacd5ce45a95af45aa1447331bfc7c5804a59457d40a62fb925f5d8e", func := "upshift/upshiftkeep.Apart", spec := "apart", unfollowed := true, recurses := true, named := ["upshift/check.effects"], apart := false, laid := [("upshift/check.effects", laid_upshift_check_effects)], narrowed := true }
def ApartUptoSaid : Prop := apartUptoRow.holds Tryz.pinned (OpenSpec.upto apartSpec)

end Rows
end Go.Proofs.YtkpcdjoblmighaaGreatDoor
