/-
  No cell of these rows narrows 'for every input' (looked for: loops, veiled, ifaces, maps, wideKeys, modest, calm, conditions, laid).
  DERIVED. THE GIVEN ROWS OF THIS SEAT. 2 by the template 'for every input the law returns true; each argument reads behind the call as it read before'; 0 by the template 'total and deterministic' (their statements: YthnbmeihaojfnaaTotals.lean).
  GIVEN WITH THE SEED: the statements are not yours to turn. If you find one false, say at which input.
  Laid BY PROGRAM, IN A SANDBOX (cutbox-rows.mjs): the forced cells as the released guide's own fill.sh prints them over the translation 005ee790c3c40025… (all of the seat's roots in one cut). By AI agents, Wed Nov 11 2026. No macro, syntax, notation, axiom, sorry.
-/
import Derived.Test.YthnbmeihaojfnaaChecked
import GoSem.Claim
import GoSem.ClaimJoined
import GoSem.ClaimMapViews
import Derived.JoinedTies
import Derived.KernelRfl
namespace Go.Proofs.Ythnbmeihaojfnaa
/- THE CELL 'sum', in the pinned program and in every row, IS THE sha256 OF THE DUMP (.gsa) THAT YthnbmeihaojfnaaProg.lean LOADS. Nothing in Lean hashes anything: it is a label: what it is worth is what the hold of that sum in a sandbox is worth. -/
noncomputable def Try.pinned : Pinned := { name := "ythnbmeihaojfnaa", sum := "005ee790c3c4002597873dfff77ad08b98528564b7c99255d252eeebcf6d6d23", checked := Try.checked }
namespace Rows
def none {H : Type} : Left H := { results := [], args := [] }

/-- 'sundiallaw.TreeInverses': WHATEVER THE INPUT: true; the input reads as it did. -/
def treeInversesSpec : ChangeSpec := { name := "treeInverses", fn := fun _ => fun
  | [d1, d2] => { results := [.lit (.bool true)], args := [d1, d2] }
  | _ => none }
def treeInversesRow : OpenClaim := { program := "ythnbmeihaojfnaa", sum := "005ee790c3c4002597873dfff77ad08b98528564b7c99255d252eeebcf6d6d23", func := "sundial/sundiallaw.TreeInverses", spec := "treeInverses", unfollowed := true, recurses := true, plainKeys := false, apart := false }
def TreeInversesSaid : Prop := treeInversesRow.holds Try.pinned (OpenSpec.ofChange treeInversesSpec)

/-- ITS FALSE NEIGHBOUR: 'it returns false'. Refute it at one input. -/
def treeInversesWrong : ChangeSpec := { name := "treeInverses", fn := fun _ => fun
  | [d1, d2] => { results := [.lit (.bool false)], args := [d1, d2] }
  | _ => none }
def TreeInversesWrongFalsely : Prop := treeInversesRow.holds Try.pinned (OpenSpec.ofChange treeInversesWrong)

/-- 'sundialkeep.GapsTold': WHATEVER THE INPUT: true; the input reads as it did. -/
def gapsToldSpec : ChangeSpec := { name := "gapsTold", fn := fun _ => fun
  | [d1, d2, d3] => { results := [.lit (.bool true)], args := [d1, d2, d3] }
  | _ => none }
def gapsToldRow : OpenClaim := { program := "ythnbmeihaojfnaa", sum := "005ee790c3c4002597873dfff77ad08b98528564b7c99255d252eeebcf6d6d23", func := "sundial/sundialkeep.GapsTold", spec := "gapsTold", unfollowed := true, recurses := true, plainKeys := false, apart := false }
def GapsToldSaid : Prop := gapsToldRow.holds Try.pinned (OpenSpec.ofChange gapsToldSpec)

/-- ITS FALSE NEIGHBOUR: 'it returns false'. Refute it at one input. -/
def gapsToldWrong : ChangeSpec := { name := "gapsTold", fn := fun _ => fun
  | [d1, d2, d3] => { results := [.lit (.bool false)], args := [d1, d2, d3] }
  | _ => none }
def GapsToldWrongFalsely : Prop := gapsToldRow.holds Try.pinned (OpenSpec.ofChange gapsToldWrong)

/- THE SECOND FORM. 'bulk': how many values and letters a reading holds, each counted each time it is reached (what is shared counts as often as it is met; a slice's spare places count too). A statement '..UptoSaid' is the law's where the arguments, and the package variables that the reading takes, are together of bulk at most 1048576: NARROWER than '..Said'. Prove '..Said' where nothing that the law and all that it calls make is longer than what came in: it says more and counts as full. Else prove '..UptoSaid'. A law counts once. -/
mutual
def uptoBulk {H : Type} : DataW H → Nat
  | .lit (.string bytes) => bytes.length + 1
  | .lit _ => 1
  | .nil => 1
  | .ptr d => uptoBulk d + 1
  | .slice elems spare => uptoBulkAll elems + uptoBulkAll spare + 1
  | .agg parts => uptoBulkAll parts + 1
  | .iface _ d => uptoBulk d + 1
  | .map entries => uptoBulkEntries entries + 1
  | .held _ => 1
def uptoBulkAll {H : Type} : List (DataW H) → Nat
  | [] => 0
  | d :: r => uptoBulk d + uptoBulkAll r
def uptoBulkEntries {H : Type} : List (Lit × DataW H) → Nat
  | [] => 0
  | x :: r => uptoBulkEntry x + uptoBulkEntries r
def uptoBulkEntry {H : Type} : Lit × DataW H → Nat
  | (.string bytes, d) => bytes.length + uptoBulk d + 1
  | (_, d) => uptoBulk d + 1
 end
def uptoSmall : (H : Type) → List (DataW H) → Bool := fun _ ds => decide (uptoBulkAll ds ≤ 1048576)
def OpenSpec.upto (s : _root_.Go.ChangeSpec) : _root_.Go.OpenSpec := { _root_.Go.OpenSpec.ofChange s with cond := some uptoSmall }

/-- 'sundiallaw.TreeInverses', WHERE WHAT IT READS IS OF BULK AT MOST 1048576: true; the input reads as it did. -/
def treeInversesUptoRow : OpenClaim := { program := "ythnbmeihaojfnaa", sum := "005ee790c3c4002597873dfff77ad08b98528564b7c99255d252eeebcf6d6d23", func := "sundial/sundiallaw.TreeInverses", spec := "treeInverses", unfollowed := true, recurses := true, plainKeys := false, apart := false, narrowed := true }
def TreeInversesUptoSaid : Prop := treeInversesUptoRow.holds Try.pinned (OpenSpec.upto treeInversesSpec)

/-- 'sundialkeep.GapsTold', WHERE WHAT IT READS IS OF BULK AT MOST 1048576: true; the input reads as it did. -/
def gapsToldUptoRow : OpenClaim := { program := "ythnbmeihaojfnaa", sum := "005ee790c3c4002597873dfff77ad08b98528564b7c99255d252eeebcf6d6d23", func := "sundial/sundialkeep.GapsTold", spec := "gapsTold", unfollowed := true, recurses := true, plainKeys := false, apart := false, narrowed := true }
def GapsToldUptoSaid : Prop := gapsToldUptoRow.holds Try.pinned (OpenSpec.upto gapsToldSpec)

end Rows
end Go.Proofs.Ythnbmeihaojfnaa
