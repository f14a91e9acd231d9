/- Contracts: what is wrong with an answer (P4.4), by the program and by the document's answer. -/
import Derived.Test.YtoolimfdadpmpaaDoorTreM
import Derived.Test.YtoolimfdadpmpaaDoorPlain
import Derived.Test.YtoolimfdadpmpaaDoorRows
import Derived.WalkKit
import Derived.ProofKit
import Derived.OpenShut
namespace Go.Proofs.YtoolimfdadpmpaaDoor
open Go.ChangeShapes Go.WideShapes Go.ChangeAt Go.RowKit
set_option linter.unusedVariables false
theorem in_B (n l h : Int) (w : World) :
    Calls Tryd.prog 14 #[.int .i64 n, .int .i64 l, .int .i64 h] w fun e w' => e = .returned (.bool (Tre.inB n l h)) ∧ w' = w := in_any n l h w
theorem ansF_no {off jump : Int} (zs : List Int) (nm : Nat) (h : ¬ (Tre.okOff off = true ∧ -1099511627776 ≤ jump ∧ jump ≤ 1099511627776)) : Tre.ansF off jump zs nm = 2 := by
  unfold Tre.ansF; rw [if_neg h]
theorem ansF_yes {off jump : Int} (zs : List Int) (nm : Nat) (h : Tre.okOff off = true ∧ -1099511627776 ≤ jump ∧ jump ≤ 1099511627776) : Tre.ansF off jump zs nm = if zs.all Tre.okOff = true then (if 6 < zs.length ∨ 24 < nm then 1 else 0) else 2 := by
  unfold Tre.ansF; rw [if_pos h]
end Go.Proofs.YtoolimfdadpmpaaDoor
