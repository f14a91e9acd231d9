/-
  NARROWER THAN 'FOR EVERY INPUT', by the rows' own cells (each row's printed sentence says how): CodeEncodes: laid · CodeDecodes: laid · BytesOnce: laid.
  DERIVED. THE GIVEN ROWS OF THIS SEAT. 3 by the template 'for every input the law returns true; each argument reads behind the call as it read before'; 0 by the template 'total and deterministic' (their statements: YtddamfnoggjkfaaDoorTotals.lean).
  GIVEN WITH THE SEED: the statements are not yours to turn. If you find one false, say at which input.
  Laid BY PROGRAM, IN A SANDBOX (cutbox-rows.mjs): the forced cells as the released guide's own fill.sh prints them over the translation 4317e08b16aab133… (all of the seat's roots in one cut). By AI agents, Wed Nov 11 2026. No macro, syntax, notation, axiom, sorry.
-/
import Derived.Test.YtddamfnoggjkfaaDoorChecked
import GoSem.Claim
import GoSem.ClaimJoined
import GoSem.ClaimMapViews
import Derived.JoinedTies
import Derived.KernelRfl
namespace Go.Proofs.YtddamfnoggjkfaaDoor
/- THE CELL 'sum', in the pinned program and in every row, IS THE sha256 OF THE DUMP (.gsa) THAT YtddamfnoggjkfaaDoorProg.lean LOADS. Nothing in Lean hashes anything: it is a label: what it is worth is what the hold of that sum in a sandbox is worth. -/
noncomputable def Tryd.pinned : Pinned := { name := "ytddamfnoggjkfaadoor", sum := "4317e08b16aab133d158f744ae658e58c36a07b18e59efbbc1d50f73f651f5ca", checked := Tryd.checked }
namespace Rows
def none {H : Type} : Left H := { results := [], args := [] }

/- WHAT THE LISTED PACKAGE-LEVEL VARIABLES READ AS WHEN THE CALL BEGINS. Each datum BY PROGRAM (the guide's laid-datum.mjs) off the statement by which the dump's own 'gosem.cut.vars' lays the variable. In a bare row this is a premise. The card (YtddamfnoggjkfaaDoorCards.lean) ties it to the program's text. -/
def laid_sundial_code_operators {H : Type} : DataW H := .agg [.agg [.lit (.string [97, 114, 103]), .lit (.int .i64 0), .lit (.int .i64 1), .lit (.bool false)], .agg [.lit (.string [112, 117, 115, 104]), .lit (.int .i64 0), .lit (.int .i64 1), .lit (.bool true)], .agg [.lit (.string [108, 101, 115, 115]), .lit (.int .i64 2), .lit (.int .i64 1), .lit (.bool false)], .agg [.lit (.string [115, 107, 105, 112]), .lit (.int .i64 1), .lit (.int .i64 0), .lit (.bool true)], .agg [.lit (.string [103, 111]), .lit (.int .i64 0), .lit (.int .i64 0), .lit (.bool true)], .agg [.lit (.string [116, 101, 108, 108]), .lit (.int .i64 0), .lit (.int .i64 0), .lit (.bool true)]]

/-- 'sundiallaw.CodeEncodes': WHATEVER THE INPUT: true; the input reads as it did. -/
def codeEncodesSpec : ChangeSpec := { name := "codeEncodes", fn := fun _ => fun
  | [d] => { results := [.lit (.bool true)], args := [d] }
  | _ => none }
def codeEncodesRow : OpenClaim := { program := "ytddamfnoggjkfaadoor", sum := "4317e08b16aab133d158f744ae658e58c36a07b18e59efbbc1d50f73f651f5ca", func := "sundial/sundiallaw.CodeEncodes", spec := "codeEncodes", named := ["sundial/code.operators"], apart := false, laid := [("sundial/code.operators", laid_sundial_code_operators)] }
def CodeEncodesSaid : Prop := codeEncodesRow.holds Tryd.pinned (OpenSpec.ofChange codeEncodesSpec)

/-- ITS FALSE NEIGHBOUR: 'it returns false'. Refute it at one input. -/
def codeEncodesWrong : ChangeSpec := { name := "codeEncodes", fn := fun _ => fun
  | [d] => { results := [.lit (.bool false)], args := [d] }
  | _ => none }
def CodeEncodesWrongFalsely : Prop := codeEncodesRow.holds Tryd.pinned (OpenSpec.ofChange codeEncodesWrong)

/-- 'sundiallaw.CodeDecodes': WHATEVER THE INPUT: true; the input reads as it did. -/
def codeDecodesSpec : ChangeSpec := { name := "codeDecodes", fn := fun _ => fun
  | [d] => { results := [.lit (.bool true)], args := [d] }
  | _ => none }
def codeDecodesRow : OpenClaim := { program := "ytddamfnoggjkfaadoor", sum := "4317e08b16aab133d158f744ae658e58c36a07b18e59efbbc1d50f73f651f5ca", func := "sundial/sundiallaw.CodeDecodes", spec := "codeDecodes", named := ["sundial/code.operators"], apart := false, laid := [("sundial/code.operators", laid_sundial_code_operators)] }
def CodeDecodesSaid : Prop := codeDecodesRow.holds Tryd.pinned (OpenSpec.ofChange codeDecodesSpec)

/-- ITS FALSE NEIGHBOUR: 'it returns false'. Refute it at one input. -/
def codeDecodesWrong : ChangeSpec := { name := "codeDecodes", fn := fun _ => fun
  | [d] => { results := [.lit (.bool false)], args := [d] }
  | _ => none }
def CodeDecodesWrongFalsely : Prop := codeDecodesRow.holds Tryd.pinned (OpenSpec.ofChange codeDecodesWrong)

/-- 'sundialkeep.BytesOnce': WHATEVER THE INPUT: true; the input reads as it did. -/
def bytesOnceSpec : ChangeSpec := { name := "bytesOnce", fn := fun _ => fun
  | [d] => { results := [.lit (.bool true)], args := [d] }
  | _ => none }
def bytesOnceRow : OpenClaim := { program := "ytddamfnoggjkfaadoor", sum := "4317e08b16aab133d158f744ae658e58c36a07b18e59efbbc1d50f73f651f5ca", func := "sundial/sundialkeep.BytesOnce", spec := "bytesOnce", named := ["sundial/code.operators"], apart := false, laid := [("sundial/code.operators", laid_sundial_code_operators)] }
def BytesOnceSaid : Prop := bytesOnceRow.holds Tryd.pinned (OpenSpec.ofChange bytesOnceSpec)

/-- ITS FALSE NEIGHBOUR: 'it returns false'. Refute it at one input. -/
def bytesOnceWrong : ChangeSpec := { name := "bytesOnce", fn := fun _ => fun
  | [d] => { results := [.lit (.bool false)], args := [d] }
  | _ => none }
def BytesOnceWrongFalsely : Prop := bytesOnceRow.holds Tryd.pinned (OpenSpec.ofChange bytesOnceWrong)

/- THE SECOND FORM. 'bulk': how many values and letters a reading holds, each counted each time it is reached (what is shared counts as often as it is met; a slice's spare places count too). A statement '..UptoSaid' is the law's where the arguments, and the package variables that the reading takes, are together of bulk at most 1048576: NARROWER than '..Said'. Prove '..Said' where nothing that the law and all that it calls make is longer than what came in: it says more and counts as full. Else prove '..UptoSaid'. A law counts once. -/
mutual
def uptoBulk {H : Type} : DataW H → Nat
  | .lit (.string bytes) => bytes.length + 1
  | .lit _ => 1
  | .nil => 1
  | .ptr d => uptoBulk d + 1
  | .slice elems spare => uptoBulkAll elems + uptoBulkAll spare + 1
  | .agg parts => uptoBulkAll parts + 1
  | .iface _ d => uptoBulk d + 1
  | .map entries => uptoBulkEntries entries + 1
  | .held _ => 1
def uptoBulkAll {H : Type} : List (DataW H) → Nat
  | [] => 0
  | d :: r => uptoBulk d + uptoBulkAll r
def uptoBulkEntries {H : Type} : List (Lit × DataW H) → Nat
  | [] => 0
  | x :: r => uptoBulkEntry x + uptoBulkEntries r
def uptoBulkEntry {H : Type} : Lit × DataW H → Nat
  | (.string bytes, d) => bytes.length + uptoBulk d + 1
  | (_, d) => uptoBulk d + 1
 end
def uptoSmall : (H : Type) → List (DataW H) → Bool := fun _ ds => decide (uptoBulkAll ds ≤ 1048576)
def OpenSpec.upto (s : _root_.Go.ChangeSpec) : _root_.Go.OpenSpec := { _root_.Go.OpenSpec.ofChange s with cond := some uptoSmall }

/-- 'sundiallaw.CodeEncodes', WHERE WHAT IT READS IS OF BULK AT MOST 1048576: true; the input reads as it did. -/
def codeEncodesUptoRow : OpenClaim := { program := "ytddamfnoggjkfaadoor", sum := "4317e08b16aab133d158f744ae658e58c36a07b18e59efbbc1d50f73f651f5ca", func := "sundial/sundiallaw.CodeEncodes", spec := "codeEncodes", named := ["sundial/code.operators"], apart := false, laid := [("sundial/code.operators", laid_sundial_code_operators)], narrowed := true }
def CodeEncodesUptoSaid : Prop := codeEncodesUptoRow.holds Tryd.pinned (OpenSpec.upto codeEncodesSpec)

/-- 'sundiallaw.CodeDecodes', WHERE WHAT IT READS IS OF BULK AT MOST 1048576: true; the input reads as it did. -/
def codeDecodesUptoRow : OpenClaim := { program := "ytddamfnoggjkfaadoor", sum := "4317e08b16aab133d158f744ae658e58c36a07b18e59efbbc1d50f73f651f5ca", func := "sundial/sundiallaw.CodeDecodes", spec := "codeDecodes", named := ["sundial/code.operators"], apart := false, laid := [("sundial/code.operators", laid_sundial_code_operators)], narrowed := true }
def CodeDecodesUptoSaid : Prop := codeDecodesUptoRow.holds Tryd.pinned (OpenSpec.upto codeDecodesSpec)

/-- 'sundialkeep.BytesOnce', WHERE WHAT IT READS IS OF BULK AT MOST 1048576: true; the input reads as it did. -/
def bytesOnceUptoRow : OpenClaim := { program := "ytddamfnoggjkfaadoor", sum := "4317e08b16aab133d158f744ae658e58c36a07b18e59efbbc1d50f73f651f5ca", func := "sundial/sundialkeep.BytesOnce", spec := "bytesOnce", named := ["sundial/code.operators"], apart := false, laid := [("sundial/code.operators", laid_sundial_code_operators)], narrowed := true }
def BytesOnceUptoSaid : Prop := bytesOnceUptoRow.holds Tryd.pinned (OpenSpec.upto bytesOnceSpec)

end Rows
end Go.Proofs.YtddamfnoggjkfaaDoor
