/-
  No cell of these rows narrows 'for every input' (looked for: loops, veiled, ifaces, maps, wideKeys, modest, calm, conditions, laid).
  DERIVED. THE GIVEN ROWS OF THIS SEAT. 3 by the template 'for every input the law returns true; each argument reads behind the call as it read before'; 0 by the template 'total and deterministic' (their statements: YtgncfbckgbkpcabTotals.lean).
  GIVEN WITH THE SEED: the statements are not yours to turn. If you find one false, say at which input.
  Laid BY PROGRAM, IN A SANDBOX (cutbox-rows.mjs): the forced cells as the released guide's own fill.sh prints them over the translation 2e2ce23c882d6a63… (all of the seat's roots in one cut). By AI agents, Wed Nov 11 2026. No macro, syntax, notation, axiom, sorry.
-/
import Derived.Test.YtgncfbckgbkpcabChecked
import GoSem.Claim
import GoSem.ClaimJoined
import GoSem.ClaimMapViews
import Derived.JoinedTies
import Derived.KernelRfl
namespace Go.Proofs.Ytgncfbckgbkpcab
/- THE CELL 'sum', in the pinned program and in every row, IS THE sha256 OF THE DUMP (.gsa) THAT YtgncfbckgbkpcabProg.lean LOADS. Nothing in Lean hashes anything: it is a label: what it is worth is what the hold of that sum in a sandbox is worth. -/
noncomputable def Try.pinned : Pinned := { name := "ytgncfbckgbkpcab", sum := "2e2ce23c882d6a6332198e5faf722b01ded10dff27b1fb056b4c3266d0845d8e", checked := Try.checked }
namespace Rows
def none {H : Type} : Left H := { results := [], args := [] }

/-- 'sundiallaw.CivilMoments': WHATEVER THE INPUT: true; the input reads as it did. -/
def civilMomentsSpec : ChangeSpec := { name := "civilMoments", fn := fun _ => fun
  | [d] => { results := [.lit (.bool true)], args := [d] }
  | _ => none }
def civilMomentsRow : OpenClaim := { program := "ytgncfbckgbkpcab", sum := "2e2ce23c882d6a6332198e5faf722b01ded10dff27b1fb056b4c3266d0845d8e", func := "sundial/sundiallaw.CivilMoments", spec := "civilMoments", apart := false }
def CivilMomentsSaid : Prop := civilMomentsRow.holds Try.pinned (OpenSpec.ofChange civilMomentsSpec)

/-- ITS FALSE NEIGHBOUR: 'it returns false'. Refute it at one input. -/
def civilMomentsWrong : ChangeSpec := { name := "civilMoments", fn := fun _ => fun
  | [d] => { results := [.lit (.bool false)], args := [d] }
  | _ => none }
def CivilMomentsWrongFalsely : Prop := civilMomentsRow.holds Try.pinned (OpenSpec.ofChange civilMomentsWrong)

/-- 'sundiallaw.CivilWindow': WHATEVER THE INPUT: true; the input reads as it did. -/
def civilWindowSpec : ChangeSpec := { name := "civilWindow", fn := fun _ => fun
  | [d] => { results := [.lit (.bool true)], args := [d] }
  | _ => none }
def civilWindowRow : OpenClaim := { program := "ytgncfbckgbkpcab", sum := "2e2ce23c882d6a6332198e5faf722b01ded10dff27b1fb056b4c3266d0845d8e", func := "sundial/sundiallaw.CivilWindow", spec := "civilWindow", apart := false }
def CivilWindowSaid : Prop := civilWindowRow.holds Try.pinned (OpenSpec.ofChange civilWindowSpec)

/-- ITS FALSE NEIGHBOUR: 'it returns false'. Refute it at one input. -/
def civilWindowWrong : ChangeSpec := { name := "civilWindow", fn := fun _ => fun
  | [d] => { results := [.lit (.bool false)], args := [d] }
  | _ => none }
def CivilWindowWrongFalsely : Prop := civilWindowRow.holds Try.pinned (OpenSpec.ofChange civilWindowWrong)

/-- 'sundialkeep.WeekdaysTurn': WHATEVER THE INPUT: true; the input reads as it did. -/
def weekdaysTurnSpec : ChangeSpec := { name := "weekdaysTurn", fn := fun _ => fun
  | [d] => { results := [.lit (.bool true)], args := [d] }
  | _ => none }
def weekdaysTurnRow : OpenClaim := { program := "ytgncfbckgbkpcab", sum := "2e2ce23c882d6a6332198e5faf722b01ded10dff27b1fb056b4c3266d0845d8e", func := "sundial/sundialkeep.WeekdaysTurn", spec := "weekdaysTurn", apart := false }
def WeekdaysTurnSaid : Prop := weekdaysTurnRow.holds Try.pinned (OpenSpec.ofChange weekdaysTurnSpec)

/-- ITS FALSE NEIGHBOUR: 'it returns false'. Refute it at one input. -/
def weekdaysTurnWrong : ChangeSpec := { name := "weekdaysTurn", fn := fun _ => fun
  | [d] => { results := [.lit (.bool false)], args := [d] }
  | _ => none }
def WeekdaysTurnWrongFalsely : Prop := weekdaysTurnRow.holds Try.pinned (OpenSpec.ofChange weekdaysTurnWrong)

/- THE SECOND FORM. 'bulk': how many values and letters a reading holds, each counted each time it is reached (what is shared counts as often as it is met; a slice's spare places count too). A statement '..UptoSaid' is the law's where the arguments, and the package variables that the reading takes, are together of bulk at most 1048576: NARROWER than '..Said'. Prove '..Said' where nothing that the law and all that it calls make is longer than what came in: it says more and counts as full. Else prove '..UptoSaid'. A law counts once. -/
mutual
def uptoBulk {H : Type} : DataW H → Nat
  | .lit (.string bytes) => bytes.length + 1
  | .lit _ => 1
  | .nil => 1
  | .ptr d => uptoBulk d + 1
  | .slice elems spare => uptoBulkAll elems + uptoBulkAll spare + 1
  | .agg parts => uptoBulkAll parts + 1
  | .iface _ d => uptoBulk d + 1
  | .map entries => uptoBulkEntries entries + 1
  | .held _ => 1
def uptoBulkAll {H : Type} : List (DataW H) → Nat
  | [] => 0
  | d :: r => uptoBulk d + uptoBulkAll r
def uptoBulkEntries {H : Type} : List (Lit × DataW H) → Nat
  | [] => 0
  | x :: r => uptoBulkEntry x + uptoBulkEntries r
def uptoBulkEntry {H : Type} : Lit × DataW H → Nat
  | (.string bytes, d) => bytes.length + uptoBulk d + 1
  | (_, d) => uptoBulk d + 1
 end
def uptoSmall : (H : Type) → List (DataW H) → Bool := fun _ ds => decide (uptoBulkAll ds ≤ 1048576)
def OpenSpec.upto (s : _root_.Go.ChangeSpec) : _root_.Go.OpenSpec := { _root_.Go.OpenSpec.ofChange s with cond := some uptoSmall }

/-- 'sundiallaw.CivilMoments', WHERE WHAT IT READS IS OF BULK AT MOST 1048576: true; the input reads as it did. -/
def civilMomentsUptoRow : OpenClaim := { program := "ytgncfbckgbkpcab", sum := "2e2ce23c882d6a6332198e5faf722b01ded10dff27b1fb056b4c3266d0845d8e", func := "sundial/sundiallaw.CivilMoments", spec := "civilMoments", apart := false, narrowed := true }
def CivilMomentsUptoSaid : Prop := civilMomentsUptoRow.holds Try.pinned (OpenSpec.upto civilMomentsSpec)

/-- 'sundiallaw.CivilWindow', WHERE WHAT IT READS IS OF BULK AT MOST 1048576: true; the input reads as it did. -/
def civilWindowUptoRow : OpenClaim := { program := "ytgncfbckgbkpcab", sum := "2e2ce23c882d6a6332198e5faf722b01ded10dff27b1fb056b4c3266d0845d8e", func := "sundial/sundiallaw.CivilWindow", spec := "civilWindow", apart := false, narrowed := true }
def CivilWindowUptoSaid : Prop := civilWindowUptoRow.holds Try.pinned (OpenSpec.upto civilWindowSpec)

/-- 'sundialkeep.WeekdaysTurn', WHERE WHAT IT READS IS OF BULK AT MOST 1048576: true; the input reads as it did. -/
def weekdaysTurnUptoRow : OpenClaim := { program := "ytgncfbckgbkpcab", sum := "2e2ce23c882d6a6332198e5faf722b01ded10dff27b1fb056b4c3266d0845d8e", func := "sundial/sundialkeep.WeekdaysTurn", spec := "weekdaysTurn", apart := false, narrowed := true }
def WeekdaysTurnUptoSaid : Prop := weekdaysTurnUptoRow.holds Try.pinned (OpenSpec.upto weekdaysTurnSpec)

end Rows
end Go.Proofs.Ytgncfbckgbkpcab
