/- Contracts of the functions of package civil, and of the document's answers, that read no package variable: each returns what the plain mathematics says. -/
import Derived.Test.YthnbmeihaojfnaaMath
import Derived.Test.YthnbmeihaojfnaaRows
import Derived.WalkKit
import Derived.ProofKit
import Derived.OpenShut
namespace Go.Proofs.Ythnbmeihaojfnaa
open Go.ChangeShapes Go.WideShapes Go.ChangeAt Go.RowKit
theorem isLeap_any (y : Int) (w : World) :
    Calls Try.prog 59 #[.int .i64 y] w fun e w' => e = .returned (.bool (Cal.leapB y)) ∧ w' = w := by
  rw [Cal.leap_t]
  go_enter Try.func59, Try.ntmps59
  go_wp2
  all_goals
    go_ret
    exact ⟨ret_bool (by first | (simp [*]; done) | (simp [*]; rw [Bool.or_comm]; rfl)), rfl⟩
theorem in_any (n l h : Int) (w : World) :
    Calls Try.prog 27 #[.int .i64 n, .int .i64 l, .int .i64 h] w fun e w' => e = .returned (.bool (decide (l ≤ n ∧ n ≤ h))) ∧ w' = w := by
  go_enter Try.func27, Try.ntmps27
  go_wp2
  all_goals
    go_ret
    exact ⟨ret_bool (by simp <;> omega), rfl⟩
theorem wfi_lo {n : Int} (h : (Lit.int .i64 n).wf = true) : -9223372036854775808 ≤ n := (bounds_i64 h).1
theorem picked_any (n k : Int) (w : World) (hw : (Lit.int .i64 n).wf = true) (hk : 0 < k) (hk' : k < 1099511627776) :
    Calls Try.prog 15 #[.int .i64 n, .int .i64 k] w fun e w' => e = .returned (.int .i64 (Cal.pk n k)) ∧ w' = w := by
  have hn' := wfi_lo hw
  clear hw
  by_cases hn : n < 0
  · go_enter Try.func15, Try.ntmps15
    go_wp2
    go_ret
    exact ⟨ret_int (Cal.pk_neg hn), rfl⟩
  · have hp : 0 ≤ n := by omega
    clear hn
    go_enter Try.func15, Try.ntmps15
    go_wp2
    go_ret
    exact ⟨ret_int (Cal.pk_pos hp), rfl⟩
end Go.Proofs.Ythnbmeihaojfnaa
