/-
  NARROWER THAN 'FOR EVERY INPUT', by the rows' own cells (each row's printed sentence says how): CivilFinds: laid · CivilInstants: laid · DatesBack: laid.
  DERIVED. THE GIVEN ROWS OF THIS SEAT. 3 by the template 'for every input the law returns true; each argument reads behind the call as it read before'; 0 by the template 'total and deterministic' (their statements: YtgncfbckgbkpcabDoorTotals.lean).
  GIVEN WITH THE SEED: the statements are not yours to turn. If you find one false, say at which input.
  Laid BY PROGRAM, IN A SANDBOX (cutbox-rows.mjs): the forced cells as the released guide's own fill.sh prints them over the translation 166c1ee368e07770… (all of the seat's roots in one cut). By AI agents, Wed Nov 11 2026. No macro, syntax, notation, axiom, sorry.
-/
import Derived.Test.YtgncfbckgbkpcabDoorChecked
import GoSem.Claim
import GoSem.ClaimJoined
import GoSem.ClaimMapViews
import Derived.JoinedTies
import Derived.KernelRfl
namespace Go.Proofs.YtgncfbckgbkpcabDoor
/- THE CELL 'sum', in the pinned program and in every row, IS THE sha256 OF THE DUMP (.gsa) THAT YtgncfbckgbkpcabDoorProg.lean LOADS. Nothing in Lean hashes anything: it is a label: what it is worth is what the hold of that sum in a sandbox is worth. -/
noncomputable def Tryd.pinned : Pinned := { name := "ytgncfbckgbkpcabdoor", sum := "166c1ee368e077708e31b02a80e9f6bbd8ac7036dc11ca4d7109a6c3c3f96721", checked := Tryd.checked }
namespace Rows
def none {H : Type} : Left H := { results := [], args := [] }

/- WHAT THE LISTED PACKAGE-LEVEL VARIABLES READ AS WHEN THE CALL BEGINS. Each datum BY PROGRAM (the guide's laid-datum.mjs) off the statement by which the dump's own 'gosem.cut.vars' lays the variable. In a bare row this is a premise. The card (YtgncfbckgbkpcabDoorCards.lean) ties it to the program's text. -/
def laid_sundial_civil_daysAhead {H : Type} : DataW H := .agg [.lit (.int .i64 0), .lit (.int .i64 31), .lit (.int .i64 59), .lit (.int .i64 90), .lit (.int .i64 120), .lit (.int .i64 151), .lit (.int .i64 181), .lit (.int .i64 212), .lit (.int .i64 243), .lit (.int .i64 273), .lit (.int .i64 304), .lit (.int .i64 334), .lit (.int .i64 365)]

/-- 'sundiallaw.CivilFinds': WHATEVER THE INPUT: true; the input reads as it did. -/
def civilFindsSpec : ChangeSpec := { name := "civilFinds", fn := fun _ => fun
  | [d1, d2, d3] => { results := [.lit (.bool true)], args := [d1, d2, d3] }
  | _ => none }
def civilFindsRow : OpenClaim := { program := "ytgncfbckgbkpcabdoor", sum := "166c1ee368e077708e31b02a80e9f6bbd8ac7036dc11ca4d7109a6c3c3f96721", func := "sundial/sundiallaw.CivilFinds", spec := "civilFinds", named := ["sundial/civil.daysAhead"], apart := false, laid := [("sundial/civil.daysAhead", laid_sundial_civil_daysAhead)] }
def CivilFindsSaid : Prop := civilFindsRow.holds Tryd.pinned (OpenSpec.ofChange civilFindsSpec)

/-- ITS FALSE NEIGHBOUR: 'it returns false'. Refute it at one input. -/
def civilFindsWrong : ChangeSpec := { name := "civilFinds", fn := fun _ => fun
  | [d1, d2, d3] => { results := [.lit (.bool false)], args := [d1, d2, d3] }
  | _ => none }
def CivilFindsWrongFalsely : Prop := civilFindsRow.holds Tryd.pinned (OpenSpec.ofChange civilFindsWrong)

/-- 'sundiallaw.CivilInstants': WHATEVER THE INPUT: true; the input reads as it did. -/
def civilInstantsSpec : ChangeSpec := { name := "civilInstants", fn := fun _ => fun
  | [d1, d2, d3, d4] => { results := [.lit (.bool true)], args := [d1, d2, d3, d4] }
  | _ => none }
def civilInstantsRow : OpenClaim := { program := "ytgncfbckgbkpcabdoor", sum := "166c1ee368e077708e31b02a80e9f6bbd8ac7036dc11ca4d7109a6c3c3f96721", func := "sundial/sundiallaw.CivilInstants", spec := "civilInstants", named := ["sundial/civil.daysAhead"], apart := false, laid := [("sundial/civil.daysAhead", laid_sundial_civil_daysAhead)] }
def CivilInstantsSaid : Prop := civilInstantsRow.holds Tryd.pinned (OpenSpec.ofChange civilInstantsSpec)

/-- ITS FALSE NEIGHBOUR: 'it returns false'. Refute it at one input. -/
def civilInstantsWrong : ChangeSpec := { name := "civilInstants", fn := fun _ => fun
  | [d1, d2, d3, d4] => { results := [.lit (.bool false)], args := [d1, d2, d3, d4] }
  | _ => none }
def CivilInstantsWrongFalsely : Prop := civilInstantsRow.holds Tryd.pinned (OpenSpec.ofChange civilInstantsWrong)

/-- 'sundialkeep.DatesBack': WHATEVER THE INPUT: true; the input reads as it did. -/
def datesBackSpec : ChangeSpec := { name := "datesBack", fn := fun _ => fun
  | [d] => { results := [.lit (.bool true)], args := [d] }
  | _ => none }
def datesBackRow : OpenClaim := { program := "ytgncfbckgbkpcabdoor", sum := "166c1ee368e077708e31b02a80e9f6bbd8ac7036dc11ca4d7109a6c3c3f96721", func := "sundial/sundialkeep.DatesBack", spec := "datesBack", named := ["sundial/civil.daysAhead"], apart := false, laid := [("sundial/civil.daysAhead", laid_sundial_civil_daysAhead)] }
def DatesBackSaid : Prop := datesBackRow.holds Tryd.pinned (OpenSpec.ofChange datesBackSpec)

/-- ITS FALSE NEIGHBOUR: 'it returns false'. Refute it at one input. -/
def datesBackWrong : ChangeSpec := { name := "datesBack", fn := fun _ => fun
  | [d] => { results := [.lit (.bool false)], args := [d] }
  | _ => none }
def DatesBackWrongFalsely : Prop := datesBackRow.holds Tryd.pinned (OpenSpec.ofChange datesBackWrong)

/- THE SECOND FORM. 'bulk': how many values and letters a reading holds, each counted each time it is reached (what is shared counts as often as it is met; a slice's spare places count too). A statement '..UptoSaid' is the law's where the arguments, and the package variables that the reading takes, are together of bulk at most 1048576: NARROWER than '..Said'. Prove '..Said' where nothing that the law and all that it calls make is longer than what came in: it says more and counts as full. Else prove '..UptoSaid'. A law counts once. -/
mutual
def uptoBulk {H : Type} : DataW H → Nat
  | .lit (.string bytes) => bytes.length + 1
  | .lit _ => 1
  | .nil => 1
  | .ptr d => uptoBulk d + 1
  | .slice elems spare => uptoBulkAll elems + uptoBulkAll spare + 1
  | .agg parts => uptoBulkAll parts + 1
  | .iface _ d => uptoBulk d + 1
  | .map entries => uptoBulkEntries entries + 1
  | .held _ => 1
def uptoBulkAll {H : Type} : List (DataW H) → Nat
  | [] => 0
  | d :: r => uptoBulk d + uptoBulkAll r
def uptoBulkEntries {H : Type} : List (Lit × DataW H) → Nat
  | [] => 0
  | x :: r => uptoBulkEntry x + uptoBulkEntries r
def uptoBulkEntry {H : Type} : Lit × DataW H → Nat
  | (.string bytes, d) => bytes.length + uptoBulk d + 1
  | (_, d) => uptoBulk d + 1
 end
def uptoSmall : (H : Type) → List (DataW H) → Bool := fun _ ds => decide (uptoBulkAll ds ≤ 1048576)
def OpenSpec.upto (s : _root_.Go.ChangeSpec) : _root_.Go.OpenSpec := { _root_.Go.OpenSpec.ofChange s with cond := some uptoSmall }

/-- 'sundiallaw.CivilFinds', WHERE WHAT IT READS IS OF BULK AT MOST 1048576: true; the input reads as it did. -/
def civilFindsUptoRow : OpenClaim := { program := "ytgncfbckgbkpcabdoor", sum := "166c1ee368e077708e31b02a80e9f6bbd8ac7036dc11ca4d7109a6c3c3f96721", func := "sundial/sundiallaw.CivilFinds", spec := "civilFinds", named := ["sundial/civil.daysAhead"], apart := false, laid := [("sundial/civil.daysAhead", laid_sundial_civil_daysAhead)], narrowed := true }
def CivilFindsUptoSaid : Prop := civilFindsUptoRow.holds Tryd.pinned (OpenSpec.upto civilFindsSpec)

/-- 'sundiallaw.CivilInstants', WHERE WHAT IT READS IS OF BULK AT MOST 1048576: true; the input reads as it did. -/
def civilInstantsUptoRow : OpenClaim := { program := "ytgncfbckgbkpcabdoor", sum := "166c1ee368e077708e31b02a80e9f6bbd8ac7036dc11ca4d7109a6c3c3f96721", func := "sundial/sundiallaw.CivilInstants", spec := "civilInstants", named := ["sundial/civil.daysAhead"], apart := false, laid := [("sundial/civil.daysAhead", laid_sundial_civil_daysAhead)], narrowed := true }
def CivilInstantsUptoSaid : Prop := civilInstantsUptoRow.holds Tryd.pinned (OpenSpec.upto civilInstantsSpec)

/-- 'sundialkeep.DatesBack', WHERE WHAT IT READS IS OF BULK AT MOST 1048576: true; the input reads as it did. -/
def datesBackUptoRow : OpenClaim := { program := "ytgncfbckgbkpcabdoor", sum := "166c1ee368e077708e31b02a80e9f6bbd8ac7036dc11ca4d7109a6c3c3f96721", func := "sundial/sundialkeep.DatesBack", spec := "datesBack", named := ["sundial/civil.daysAhead"], apart := false, laid := [("sundial/civil.daysAhead", laid_sundial_civil_daysAhead)], narrowed := true }
def DatesBackUptoSaid : Prop := datesBackUptoRow.holds Tryd.pinned (OpenSpec.upto datesBackSpec)

end Rows
end Go.Proofs.YtgncfbckgbkpcabDoor
