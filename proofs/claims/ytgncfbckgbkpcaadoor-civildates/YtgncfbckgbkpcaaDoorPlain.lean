/- Contracts of the functions of package civil, and of the document's answers, that read no package variable: each returns what the plain mathematics says. -/
import Derived.Test.YtgncfbckgbkpcaaDoorMath
import Derived.Test.YtgncfbckgbkpcaaDoorRows
import Derived.WalkKit
import Derived.ProofKit
import Derived.OpenShut
namespace Go.Proofs.YtgncfbckgbkpcaaDoor
open Go.ChangeShapes Go.WideShapes Go.ChangeAt Go.RowKit
theorem leap_any (y : Int) (w : World) :
    Calls Tryd.prog 17 #[.int .i64 y] w fun e w' => e = .returned (.bool (Cal.leapB y)) ∧ w' = w := by
  rw [Cal.leap_t]
  go_enter Tryd.func17, Tryd.ntmps17
  go_wp2
  all_goals
    go_ret
    exact ⟨ret_bool (by simp [*]), rfl⟩
theorem isLeap_any (y : Int) (w : World) :
    Calls Tryd.prog 14 #[.int .i64 y] w fun e w' => e = .returned (.bool (Cal.leapB y)) ∧ w' = w := by
  rw [Cal.leap_t]
  go_enter Tryd.func14, Tryd.ntmps14
  go_wp2
  all_goals
    go_ret
    exact ⟨ret_bool (by first | (simp [*]; done) | (simp [*]; rw [Bool.or_comm]; rfl)), rfl⟩
theorem in_any (n l h : Int) (w : World) :
    Calls Tryd.prog 13 #[.int .i64 n, .int .i64 l, .int .i64 h] w fun e w' => e = .returned (.bool (decide (l ≤ n ∧ n ≤ h))) ∧ w' = w := by
  go_enter Tryd.func13, Tryd.ntmps13
  go_wp2
  all_goals
    go_ret
    exact ⟨ret_bool (by simp <;> omega), rfl⟩
end Go.Proofs.YtgncfbckgbkpcaaDoor
