/- Contract: Verify (P5.2, P5.3), by the program. -/
import Derived.Test.YtcpmbjlhblkniaaVerF
namespace Go.Proofs.Ytcpmbjlhblkniaa
open Go.ChangeShapes Go.WideShapes Go.ChangeAt Go.RowKit
set_option linter.unusedVariables false
set_option maxRecDepth 100000
theorem ret3_tail {R : Int × Int × Int} {v : Value} (h : ret3 R = .returned v) : v = .tuple #[.int .i64 R.1, .int .i64 R.2.1, .int .i64 R.2.2] := by
  unfold ret3 at h
  cases h
  rfl
end Go.Proofs.Ytcpmbjlhblkniaa
