/- Contracts: are two rows of ints, are two answers the same? -/
import Derived.Test.YtcpmbjlhblkniaaDoorGr
import Derived.Test.YtcpmbjlhblkniaaDoorRows
import Derived.WalkKit
import Derived.ProofKit
import Derived.OpenShut
import Derived.Deep.QuietTactic
import Derived.BigQuiet
namespace Go.Proofs.YtcpmbjlhblkniaaDoor
open Go.ChangeShapes Go.WideShapes Go.ChangeAt Go.RowKit
set_option linter.unusedVariables false
theorem ne_at {zs ys : List Int} {k : Nat} {z y : Int} (h : zs[k]? = some z) (h' : ys[k]? = some y) (hn : z ≠ y) : zs ≠ ys := by
  rintro rfl; rw [h] at h'; cases h'; exact hn rfl
theorem eq_all {zs ys : List Int} (hl : zs.length = ys.length) (h : ∀ (i : Nat) z y, i < zs.length → zs[i]? = some z → ys[i]? = some y → z = y) : zs = ys := by
  apply List.ext_getElem hl
  intro i h1 h2
  exact h i _ _ h1 (List.getElem?_eq_getElem h1) (List.getElem?_eq_getElem h2)
theorem toList_inj {a b : ByteArray} (h : a.toList = b.toList) : a = b := by
  rw [ByteArray.toList_eq, ByteArray.toList_eq] at h
  exact Go.WideShapes.bytes_inj h
def Ans.same (x y : Ans) : Bool := decide ((x.off = y.off ∧ x.sv = y.sv ∧ x.nm = y.nm) ∧ x.jump = y.jump ∧ x.zs = y.zs)
end Go.Proofs.YtcpmbjlhblkniaaDoor
