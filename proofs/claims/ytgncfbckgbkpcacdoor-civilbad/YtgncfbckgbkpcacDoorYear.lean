/- Contracts of the functions of package civil, and of the document's answers, that read no package variable: each returns what the plain mathematics says. -/
import Derived.Test.YtgncfbckgbkpcacDoorMath
import Derived.Test.YtgncfbckgbkpcacDoorRows
import Derived.Test.YtgncfbckgbkpcacDoorPlain
import Derived.WalkKit
import Derived.ProofKit
import Derived.OpenShut
namespace Go.Proofs.YtgncfbckgbkpcacDoor
open Go.ChangeShapes Go.WideShapes Go.ChangeAt Go.RowKit
theorem lya_any (y : Int) (w : World) (h : 1 ≤ y) (h' : y ≤ 10000) :
    Calls Tryd.prog 21 #[.int .i64 y] w fun e w' => e = .returned (.int .i64 (Cal.lya y)) ∧ w' = w := by
  go_enter Tryd.func21, Tryd.ntmps21
  go_wp2
  go_ret
  exact ⟨rfl, rfl⟩
theorem yb_any (y : Int) (w : World) (h : 1 ≤ y) (h' : y ≤ 10000) :
    Calls Tryd.prog 20 #[.int .i64 y] w fun e w' => e = .returned (.int .i64 (Cal.yb y)) ∧ w' = w := by
  have hb := Cal.lya_bd h h'
  have hc : Cal.lya 1970 = 477 := by decide
  go_enter Tryd.func20, Tryd.ntmps20
  go_wp2_with (go_at_call 21; refine (lya_any _ _ (by omega) (by omega)).mono ?_; rintro e w' ⟨rfl, rfl⟩)
  go_ret
  exact ⟨rfl, rfl⟩
end Go.Proofs.YtgncfbckgbkpcacDoor
