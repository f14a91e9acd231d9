/- Contracts of the functions of package civil, and of the document's answers, that read no package variable: each returns what the plain mathematics says. -/
import Derived.Test.YtkgobfhabhimhaaMath
import Derived.Test.YtkgobfhabhimhaaRows
import Derived.WalkKit
import Derived.ProofKit
import Derived.OpenShut
namespace Go.Proofs.Ytkgobfhabhimhaa
open Go.ChangeShapes Go.WideShapes Go.ChangeAt Go.RowKit
theorem isLeap_any (y : Int) (w : World) :
    Calls Try.prog 40 #[.int .i64 y] w fun e w' => e = .returned (.bool (Cal.leapB y)) ∧ w' = w := by
  rw [Cal.leap_t]
  go_enter Try.func40, Try.ntmps40
  go_wp2
  all_goals
    go_ret
    exact ⟨ret_bool (by first | (simp [*]; done) | (simp [*]; rw [Bool.or_comm]; rfl)), rfl⟩
theorem in_any (n l h : Int) (w : World) :
    Calls Try.prog 20 #[.int .i64 n, .int .i64 l, .int .i64 h] w fun e w' => e = .returned (.bool (decide (l ≤ n ∧ n ≤ h))) ∧ w' = w := by
  go_enter Try.func20, Try.ntmps20
  go_wp2
  all_goals
    go_ret
    exact ⟨ret_bool (by simp <;> omega), rfl⟩
end Go.Proofs.Ytkgobfhabhimhaa
