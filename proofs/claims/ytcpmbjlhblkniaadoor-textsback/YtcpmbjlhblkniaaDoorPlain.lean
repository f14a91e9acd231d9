/- Contracts of the functions of package civil, and of the document's answers, that read no package variable: each returns what the plain mathematics says. -/
import Derived.Test.YtcpmbjlhblkniaaDoorMath
import Derived.Test.YtcpmbjlhblkniaaDoorRows
import Derived.WalkKit
import Derived.ProofKit
import Derived.OpenShut
namespace Go.Proofs.YtcpmbjlhblkniaaDoor
open Go.ChangeShapes Go.WideShapes Go.ChangeAt Go.RowKit
theorem wfi_lo {n : Int} (h : (Lit.int .i64 n).wf = true) : -9223372036854775808 ≤ n := (bounds_i64 h).1
theorem picked_any (n k : Int) (w : World) (hw : (Lit.int .i64 n).wf = true) (hk : 0 < k) (hk' : k < 1099511627776) :
    Calls Tryd.prog 6 #[.int .i64 n, .int .i64 k] w fun e w' => e = .returned (.int .i64 (Cal.pk n k)) ∧ w' = w := by
  have hn' := wfi_lo hw
  clear hw
  by_cases hn : n < 0
  · go_enter Tryd.func6, Tryd.ntmps6
    go_wp2
    go_ret
    exact ⟨ret_int (Cal.pk_neg hn), rfl⟩
  · have hp : 0 ≤ n := by omega
    clear hn
    go_enter Tryd.func6, Tryd.ntmps6
    go_wp2
    go_ret
    exact ⟨ret_int (Cal.pk_pos hp), rfl⟩
end Go.Proofs.YtcpmbjlhblkniaaDoor
