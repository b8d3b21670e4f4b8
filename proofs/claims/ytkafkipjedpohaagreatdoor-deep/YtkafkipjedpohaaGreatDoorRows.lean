/-
  NARROWER THAN 'FOR EVERY INPUT', by the rows' own cells (each row's printed sentence says how): Checked: laid · Runs: laid · Steps: laid · Shifts: laid · Summed: laid · Gears: laid · Deep: laid · Apart: laid · All: laid.
  DERIVED. THE GIVEN ROWS OF THIS SEAT. 9 by the template 'for every input the law returns true; each argument reads behind the call as it read before'; 0 by the template 'total and deterministic' (their statements: YtkafkipjedpohaaGreatDoorTotals.lean).
  GIVEN WITH THE SEED: the statements are not yours to turn. If you find one false, say at which input.
  Laid BY PROGRAM, IN A SANDBOX (cutbox-rows.mjs): the forced cells as the released guide's own fill.sh prints them over the translation 76c33df239f6a1db… (all of the seat's roots in one cut). By AI agents, Wed Nov 11 2026. No macro, syntax, notation, axiom, sorry.
-/
import Derived.Test.YtkafkipjedpohaaGreatDoorChecked
import GoSem.Claim
import GoSem.ClaimJoined
import GoSem.ClaimMapViews
import Derived.JoinedTies
import Derived.KernelRfl
namespace Go.Proofs.YtkafkipjedpohaaGreatDoor
/- THE CELL 'sum', in the pinned program and in every row, IS THE sha256 OF THE DUMP (.gsa) THAT YtkafkipjedpohaaGreatDoorProg.lean LOADS. Nothing in Lean hashes anything: it is a label: what it is worth is what the hold of that sum in a sandbox is worth. -/
noncomputable def Tryz.pinned : Pinned := { name := "ytkafkipjedpohaagreatdoor", sum := "76c33df239f6a1db25b2d2d90a4aa20aced2bf9f6341e0d14f9e8bd4ac235526", checked := Tryz.checked }
namespace Rows
def none {H : Type} : Left H := { results := [], args := [] }

/- WHAT THE LISTED PACKAGE-LEVEL VARIABLES READ AS WHEN THE CALL BEGINS. Each datum BY PROGRAM (the guide's laid-datum.mjs) off the statement by which the dump's own 'gosem.cut.vars' lays the variable. In a bare row this is a premise. The card (YtkafkipjedpohaaGreatDoorCards.lean) ties it to the program's text. -/
def laid_upshift_check_effects {H : Type} : DataW H := .agg [.agg [.lit (.int .i64 0), .lit (.int .i64 1)], .agg [.lit (.int .i64 0), .lit (.int .i64 1)], .agg [.lit (.int .i64 0), .lit (.int .i64 1)], .agg [.lit (.int .i64 1), .lit (.int .i64 0)], .agg [.lit (.int .i64 2), .lit (.int .i64 1)], .agg [.lit (.int .i64 2), .lit (.int .i64 1)], .agg [.lit (.int .i64 2), .lit (.int .i64 1)], .agg [.lit (.int .i64 2), .lit (.int .i64 1)], .agg [.lit (.int .i64 2), .lit (.int .i64 1)], .agg [.lit (.int .i64 2), .lit (.int .i64 1)], .agg [.lit (.int .i64 0), .lit (.int .i64 0)], .agg [.lit (.int .i64 1), .lit (.int .i64 0)], .agg [.lit (.int .i64 0), .lit (.int .i64 1)], .agg [.lit (.int .i64 1), .lit (.int .i64 1)], .agg [.lit (.int .i64 1), .lit (.int .i64 0)], .agg [.lit (.int .i64 1), .lit (.int .i64 1)], .agg [.lit (.int .i64 2), .lit (.int .i64 1)], .agg [.lit (.int .i64 3), .lit (.int .i64 0)], .agg [.lit (.int .i64 1), .lit (.int .i64 1)], .agg [.lit (.int .i64 1), .lit (.int .i64 0)], .agg [.lit (.int .i64 1), .lit (.int .i64 0)], .agg [.lit (.int .i64 1), .lit (.int .i64 2)]]

/-- 'upshiftkeep.Checked': WHATEVER THE INPUT: true; the input reads as it did. -/
def checkedSpec : ChangeSpec := { name := "checked", fn := fun _ => fun
  | [d1, d2] => { results := [.lit (.bool true)], args := [d1, d2] }
  | _ => none }
def checkedRow : OpenClaim := { program := "ytkafkipjedpohaagreatdoor", sum := "76c33df239f6a1db25b2d2d90a4aa20aced2bf9f6341e0d14f9e8bd4ac235526", func := "upshift/upshiftkeep.Checked", spec := "checked", unfollowed := true, recurses := true, named := ["upshift/check.effects"], apart := false, laid := [("upshift/check.effects", laid_upshift_check_effects)] }
def CheckedSaid : Prop := checkedRow.holds Tryz.pinned (OpenSpec.ofChange checkedSpec)

/-- ITS FALSE NEIGHBOUR: 'it returns false'. Refute it at one input. -/
def checkedWrong : ChangeSpec := { name := "checked", fn := fun _ => fun
  | [d1, d2] => { results := [.lit (.bool false)], args := [d1, d2] }
  | _ => none }
def CheckedWrongFalsely : Prop := checkedRow.holds Tryz.pinned (OpenSpec.ofChange checkedWrong)

/-- 'upshiftlaw.Runs': WHATEVER THE INPUT: true; the input reads as it did. -/
def runsSpec : ChangeSpec := { name := "runs", fn := fun _ => fun
  | [d] => { results := [.lit (.bool true)], args := [d] }
  | _ => none }
def runsRow : OpenClaim := { program := "ytkafkipjedpohaagreatdoor", sum := "76c33df239f6a1db25b2d2d90a4aa20aced2bf9f6341e0d14f9e8bd4ac235526", func := "upshift/upshiftlaw.Runs", spec := "runs", unfollowed := true, recurses := true, named := ["upshift/check.effects"], apart := false, laid := [("upshift/check.effects", laid_upshift_check_effects)] }
def RunsSaid : Prop := runsRow.holds Tryz.pinned (OpenSpec.ofChange runsSpec)

/-- ITS FALSE NEIGHBOUR: 'it returns false'. Refute it at one input. -/
def runsWrong : ChangeSpec := { name := "runs", fn := fun _ => fun
  | [d] => { results := [.lit (.bool false)], args := [d] }
  | _ => none }
def RunsWrongFalsely : Prop := runsRow.holds Tryz.pinned (OpenSpec.ofChange runsWrong)

/-- 'upshiftkeep.Steps': WHATEVER THE INPUT: true; the input reads as it did. -/
def stepsSpec : ChangeSpec := { name := "steps", fn := fun _ => fun
  | [d1, d2, d3] => { results := [.lit (.bool true)], args := [d1, d2, d3] }
  | _ => none }
def stepsRow : OpenClaim := { program := "ytkafkipjedpohaagreatdoor", sum := "76c33df239f6a1db25b2d2d90a4aa20aced2bf9f6341e0d14f9e8bd4ac235526", func := "upshift/upshiftkeep.Steps", spec := "steps", unfollowed := true, recurses := true, named := ["upshift/check.effects"], apart := false, laid := [("upshift/check.effects", laid_upshift_check_effects)] }
def StepsSaid : Prop := stepsRow.holds Tryz.pinned (OpenSpec.ofChange stepsSpec)

/-- ITS FALSE NEIGHBOUR: 'it returns false'. Refute it at one input. -/
def stepsWrong : ChangeSpec := { name := "steps", fn := fun _ => fun
  | [d1, d2, d3] => { results := [.lit (.bool false)], args := [d1, d2, d3] }
  | _ => none }
def StepsWrongFalsely : Prop := stepsRow.holds Tryz.pinned (OpenSpec.ofChange stepsWrong)

/-- 'upshiftlaw.Shifts': WHATEVER THE INPUT: true; the input reads as it did. -/
def shiftsSpec : ChangeSpec := { name := "shifts", fn := fun _ => fun
  | [d] => { results := [.lit (.bool true)], args := [d] }
  | _ => none }
def shiftsRow : OpenClaim := { program := "ytkafkipjedpohaagreatdoor", sum := "76c33df239f6a1db25b2d2d90a4aa20aced2bf9f6341e0d14f9e8bd4ac235526", func := "upshift/upshiftlaw.Shifts", spec := "shifts", unfollowed := true, recurses := true, named := ["upshift/check.effects"], apart := false, laid := [("upshift/check.effects", laid_upshift_check_effects)] }
def ShiftsSaid : Prop := shiftsRow.holds Tryz.pinned (OpenSpec.ofChange shiftsSpec)

/-- ITS FALSE NEIGHBOUR: 'it returns false'. Refute it at one input. -/
def shiftsWrong : ChangeSpec := { name := "shifts", fn := fun _ => fun
  | [d] => { results := [.lit (.bool false)], args := [d] }
  | _ => none }
def ShiftsWrongFalsely : Prop := shiftsRow.holds Tryz.pinned (OpenSpec.ofChange shiftsWrong)

/-- 'upshiftkeep.Summed': WHATEVER THE INPUT: true; the input reads as it did. -/
def summedSpec : ChangeSpec := { name := "summed", fn := fun _ => fun
  | [d1, d2] => { results := [.lit (.bool true)], args := [d1, d2] }
  | _ => none }
def summedRow : OpenClaim := { program := "ytkafkipjedpohaagreatdoor", sum := "76c33df239f6a1db25b2d2d90a4aa20aced2bf9f6341e0d14f9e8bd4ac235526", func := "upshift/upshiftkeep.Summed", spec := "summed", unfollowed := true, recurses := true, named := ["upshift/check.effects"], apart := false, laid := [("upshift/check.effects", laid_upshift_check_effects)] }
def SummedSaid : Prop := summedRow.holds Tryz.pinned (OpenSpec.ofChange summedSpec)

/-- ITS FALSE NEIGHBOUR: 'it returns false'. Refute it at one input. -/
def summedWrong : ChangeSpec := { name := "summed", fn := fun _ => fun
  | [d1, d2] => { results := [.lit (.bool false)], args := [d1, d2] }
  | _ => none }
def SummedWrongFalsely : Prop := summedRow.holds Tryz.pinned (OpenSpec.ofChange summedWrong)

/-- 'upshiftkeep.Gears': WHATEVER THE INPUT: true; the input reads as it did. -/
def gearsSpec : ChangeSpec := { name := "gears", fn := fun _ => fun
  | [d1, d2, d3] => { results := [.lit (.bool true)], args := [d1, d2, d3] }
  | _ => none }
def gearsRow : OpenClaim := { program := "ytkafkipjedpohaagreatdoor", sum := "76c33df239f6a1db25b2d2d90a4aa20aced2bf9f6341e0d14f9e8bd4ac235526", func := "upshift/upshiftkeep.Gears", spec := "gears", unfollowed := true, recurses := true, named := ["upshift/check.effects"], apart := false, laid := [("upshift/check.effects", laid_upshift_check_effects)] }
def GearsSaid : Prop := gearsRow.holds Tryz.pinned (OpenSpec.ofChange gearsSpec)

/-- ITS FALSE NEIGHBOUR: 'it returns false'. Refute it at one input. -/
def gearsWrong : ChangeSpec := { name := "gears", fn := fun _ => fun
  | [d1, d2, d3] => { results := [.lit (.bool false)], args := [d1, d2, d3] }
  | _ => none }
def GearsWrongFalsely : Prop := gearsRow.holds Tryz.pinned (OpenSpec.ofChange gearsWrong)

/-- 'upshiftkeep.Deep': WHATEVER THE INPUT: true; the input reads as it did. -/
def deepSpec : ChangeSpec := { name := "deep", fn := fun _ => fun
  | [d1, d2, d3] => { results := [.lit (.bool true)], args := [d1, d2, d3] }
  | _ => none }
def deepRow : OpenClaim := { program := "ytkafkipjedpohaagreatdoor", sum := "76c33df239f6a1db25b2d2d90a4aa20aced2bf9f6341e0d14f9e8bd4ac235526", func := "upshift/upshiftkeep.Deep", spec := "deep", unfollowed := true, recurses := true, named := ["upshift/check.effects"], apart := false, laid := [("upshift/check.effects", laid_upshift_check_effects)] }
def DeepSaid : Prop := deepRow.holds Tryz.pinned (OpenSpec.ofChange deepSpec)

/-- ITS FALSE NEIGHBOUR: 'it returns false'. Refute it at one input. -/
def deepWrong : ChangeSpec := { name := "deep", fn := fun _ => fun
  | [d1, d2, d3] => { results := [.lit (.bool false)], args := [d1, d2, d3] }
  | _ => none }
def DeepWrongFalsely : Prop := deepRow.holds Tryz.pinned (OpenSpec.ofChange deepWrong)

/-- 'upshiftkeep.Apart': WHATEVER THE INPUT: true; the input reads as it did. -/
def apartSpec : ChangeSpec := { name := "apart", fn := fun _ => fun
  | [d1, d2, d3, d4] => { results := [.lit (.bool true)], args := [d1, d2, d3, d4] }
  | _ => none }
def apartRow : OpenClaim := { program := "ytkafkipjedpohaagreatdoor", sum := "76c33df239f6a1db25b2d2d90a4aa20aced2bf9f6341e0d14f9e8bd4ac235526", func := "upshift/upshiftkeep.Apart", spec := "apart", unfollowed := true, recurses := true, named := ["upshift/check.effects"], apart := false, laid := [("upshift/check.effects", laid_upshift_check_effects)] }
def ApartSaid : Prop := apartRow.holds Tryz.pinned (OpenSpec.ofChange apartSpec)

/-- ITS FALSE NEIGHBOUR: 'it returns false'. Refute it at one input. -/
def apartWrong : ChangeSpec := { name := "apart", fn := fun _ => fun
  | [d1, d2, d3, d4] => { results := [.lit (.bool false)], args := [d1, d2, d3, d4] }
  | _ => none }
def ApartWrongFalsely : Prop := apartRow.holds Tryz.pinned (OpenSpec.ofChange apartWrong)

/-- 'upshiftlaw.All': WHATEVER THE INPUT: true; the input reads as it did. -/
def allSpec : ChangeSpec := { name := "all", fn := fun _ => fun
  | [d] => { results := [.lit (.bool true)], args := [d] }
  | _ => none }
def allRow : OpenClaim := { program := "ytkafkipjedpohaagreatdoor", sum := "76c33df239f6a1db25b2d2d90a4aa20aced2bf9f6341e0d14f9e8bd4ac235526", func := "upshift/upshiftlaw.All", spec := "all", unfollowed := true, recurses := true, named := ["upshift/check.effects"], apart := false, laid := [("upshift/check.effects", laid_upshift_check_effects)] }
def AllSaid : Prop := allRow.holds Tryz.pinned (OpenSpec.ofChange allSpec)

/-- ITS FALSE NEIGHBOUR: 'it returns false'. Refute it at one input. -/
def allWrong : ChangeSpec := { name := "all", fn := fun _ => fun
  | [d] => { results := [.lit (.bool false)], args := [d] }
  | _ => none }
def AllWrongFalsely : Prop := allRow.holds Tryz.pinned (OpenSpec.ofChange allWrong)

/- THE SECOND FORM. 'bulk': how many values and letters a reading holds, each counted each time it is reached (what is shared counts as often as it is met; a slice's spare places count too). A statement '..UptoSaid' is the law's where the arguments, and the package variables that the reading takes, are together of bulk at most 1048576: NARROWER than '..Said'. Prove '..Said' where nothing that the law and all that it calls make is longer than what came in: it says more and counts as full. Else prove '..UptoSaid'. A law counts once. -/
mutual
def uptoBulk {H : Type} : DataW H → Nat
  | .lit (.string bytes) => bytes.length + 1
  | .lit _ => 1
  | .nil => 1
  | .ptr d => uptoBulk d + 1
  | .slice elems spare => uptoBulkAll elems + uptoBulkAll spare + 1
  | .agg parts => uptoBulkAll parts + 1
  | .iface _ d => uptoBulk d + 1
  | .map entries => uptoBulkEntries entries + 1
  | .held _ => 1
def uptoBulkAll {H : Type} : List (DataW H) → Nat
  | [] => 0
  | d :: r => uptoBulk d + uptoBulkAll r
def uptoBulkEntries {H : Type} : List (Lit × DataW H) → Nat
  | [] => 0
  | x :: r => uptoBulkEntry x + uptoBulkEntries r
def uptoBulkEntry {H : Type} : Lit × DataW H → Nat
  | (.string bytes, d) => bytes.length + uptoBulk d + 1
  | (_, d) => uptoBulk d + 1
 end
def uptoSmall : (H : Type) → List (DataW H) → Bool := fun _ ds => decide (uptoBulkAll ds ≤ 1048576)
def OpenSpec.upto (s : _root_.Go.ChangeSpec) : _root_.Go.OpenSpec := { _root_.Go.OpenSpec.ofChange s with cond := some uptoSmall }

/-- 'upshiftkeep.Checked', WHERE WHAT IT READS IS OF BULK AT MOST 1048576: true; the input reads as it did. -/
def checkedUptoRow : OpenClaim := { program := "ytkafkipjedpohaagreatdoor", sum := "76c33df239f6a1db25b2d2d90a4aa20aced2bf9f6341e0d14f9e8bd4ac235526", func := "upshift/upshiftkeep.Checked", spec := "checked", unfollowed := true, recurses := true, named := ["upshift/check.effects"], apart := false, laid := [("upshift/check.effects", laid_upshift_check_effects)], narrowed := true }
def CheckedUptoSaid : Prop := checkedUptoRow.holds Tryz.pinned (OpenSpec.upto checkedSpec)

/-- 'upshiftlaw.Runs', WHERE WHAT IT READS IS OF BULK AT MOST 1048576: true; the input reads as it did. -/
def runsUptoRow : OpenClaim := { program := "ytkafkipjedpohaagreatdoor", sum := "76c33df239f6a1db25b2d2d90a4aa20aced2bf9f6341e0d14f9e8bd4ac235526", func := "upshift/upshiftlaw.Runs", spec := "runs", unfollowed := true, recurses := true, named := ["upshift/check.effects"], apart := false, laid := [("upshift/check.effects", laid_upshift_check_effects)], narrowed := true }
def RunsUptoSaid : Prop := runsUptoRow.holds Tryz.pinned (OpenSpec.upto runsSpec)

/-- 'upshiftkeep.Steps', WHERE WHAT IT READS IS OF BULK AT MOST 1048576: true; the input reads as it did. -/
def stepsUptoRow : OpenClaim := { program := "ytkafkipjedpohaagreatdoor", sum := "76c33df239f6a1db25b2d2d90a4aa20aced2bf9f6341e0d14f9e8bd4ac235526", func := "upshift/upshiftkeep.Steps", spec := "steps", unfollowed := true, recurses := true, named := ["upshift/check.effects"], apart := false, laid := [("upshift/check.effects", laid_upshift_check_effects)], narrowed := true }
def StepsUptoSaid : Prop := stepsUptoRow.holds Tryz.pinned (OpenSpec.upto stepsSpec)

/-- 'upshiftlaw.Shifts', WHERE WHAT IT READS IS OF BULK AT MOST 1048576: true; the input reads as it did. -/
def shiftsUptoRow : OpenClaim := { program := "ytkafkipjedpohaagreatdoor", sum := "76c33df239f6a1db25b2d2d90a4aa20aced2bf9f6341e0d14f9e8bd4ac235526", func := "upshift/upshiftlaw.Shifts", spec := "shifts", unfollowed := true, recurses := true, named := ["upshift/check.effects"], apart := false, laid := [("upshift/check.effects", laid_upshift_check_effects)], narrowed := true }
def ShiftsUptoSaid : Prop := shiftsUptoRow.holds Tryz.pinned (OpenSpec.upto shiftsSpec)

/-- 'upshiftkeep.Summed', WHERE WHAT IT READS IS OF BULK AT MOST 1048576: true; the input reads as it did. -/
def summedUptoRow : OpenClaim := { program := "ytkafkipjedpohaagreatdoor", sum := "76c33df239f6a1db25b2d2d90a4aa20aced2bf9f6341e0d14f9e8bd4ac235526", func := "upshift/upshiftkeep.Summed", spec := "summed", unfollowed := true, recurses := true, named := ["upshift/check.effects"], apart := false, laid := [("upshift/check.effects", laid_upshift_check_effects)], narrowed := true }
def SummedUptoSaid : Prop := summedUptoRow.holds Tryz.pinned (OpenSpec.upto summedSpec)

/-- 'upshiftkeep.Gears', WHERE WHAT IT READS IS OF BULK AT MOST 1048576: true; the input reads as it did. -/
def gearsUptoRow : OpenClaim := { program := "ytkafkipjedpohaagreatdoor", sum := "76c33df239f6a1db25b2d2d90a4aa20aced2bf9f6341e0d14f9e8bd4ac235526", func := "upshift/upshiftkeep.Gears", spec := "gears", unfollowed := true, recurses := true, named := ["upshift/check.effects"], apart := false, laid := [("upshift/check.effects", laid_upshift_check_effects)], narrowed := true }
def GearsUptoSaid : Prop := gearsUptoRow.holds Tryz.pinned (OpenSpec.upto gearsSpec)

/-- 'upshiftkeep.Deep', WHERE WHAT IT READS IS OF BULK AT MOST 1048576: true; the input reads as it did. -/
def deepUptoRow : OpenClaim := { program := "ytkafkipjedpohaagreatdoor", sum := "76c33df239f6a1db25b2d2d90a4aa20aced2bf9f6341e0d14f9e8bd4ac235526", func := "upshift/upshiftkeep.Deep", spec := "deep", unfollowed := true, recurses := true, named := ["upshift/check.effects"], apart := false, laid := [("upshift/check.effects", laid_upshift_check_effects)], narrowed := true }
def DeepUptoSaid : Prop := deepUptoRow.holds Tryz.pinned (OpenSpec.upto deepSpec)

/-- 'upshiftkeep.Apart', WHERE WHAT IT READS IS OF BULK AT MOST 1048576: true; the input reads as it did. -/
def apartUptoRow : OpenClaim := { program := "ytkafkipjedpohaagreatdoor", sum := "76c33df239f6a1db25b2d2d90a4aa20aced2bf9f6341e0d14f9e8bd4ac235526", func := "upshift/upshiftkeep.Apart", spec := "apart", unfollowed := true, recurses := true, named := ["upshift/check.effects"], apart := false, laid := [("upshift/check.effects", laid_upshift_check_effects)], narrowed := true }
def ApartUptoSaid : Prop := apartUptoRow.holds Tryz.pinned (OpenSpec.upto apartSpec)

/-- 'upshiftlaw.All', WHERE WHAT IT READS IS OF BULK AT MOST 1048576: true; the input reads as it did. -/
def allUptoRow : OpenClaim := { program := "ytkafkipjedpohaagreatdoor", sum := "76c33df239f6a1db25b2d2d90a4aa20aced2bf9f6341e0d14f9e8bd4ac235526", func := "upshift/upshiftlaw.All", spec := "all", unfollowed := true, recurses := true, named := ["upshift/check.effects"], apart := false, laid := [("upshift/check.effects", laid_upshift_check_effects)], narrowed := true }
def AllUptoSaid : Prop := allUptoRow.holds Tryz.pinned (OpenSpec.upto allSpec)

end Rows
end Go.Proofs.YtkafkipjedpohaaGreatDoor
