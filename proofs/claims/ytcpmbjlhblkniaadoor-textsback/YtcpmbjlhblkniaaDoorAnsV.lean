/- Answers: what they tell, wherever they lie. -/
import Derived.Test.YtcpmbjlhblkniaaDoorTreS
namespace Go.Proofs.YtcpmbjlhblkniaaDoor
open Go.ChangeShapes Go.WideShapes Go.ChangeAt Go.RowKit
set_option linter.unusedVariables false
def zeroA : Ans := ⟨0, false, ⟨#[]⟩, none, 0, [], 0⟩
def Ans.val (x : Ans) : Int × Bool × ByteArray × List Int × Int := (x.off, x.sv, x.nm, x.zs, x.jump)
theorem same_of_val {x y : Ans} (h : x.val = y.val) : Ans.same x y = true := by
  unfold Ans.val at h
  simp only [Prod.mk.injEq] at h
  unfold Ans.same
  exact decide_eq_true ⟨⟨h.1, h.2.1, h.2.2.1⟩, h.2.2.2.2, h.2.2.2.1⟩
end Go.Proofs.YtcpmbjlhblkniaaDoor
