/- Contracts of the functions of package civil, and of the document's answers, that read no package variable: each returns what the plain mathematics says. -/
import Derived.Test.YtgncfbckgbkpcacDoorMath
import Derived.Test.YtgncfbckgbkpcacDoorRows
import Derived.WalkKit
import Derived.ProofKit
import Derived.OpenShut
namespace Go.Proofs.YtgncfbckgbkpcacDoor
open Go.ChangeShapes Go.WideShapes Go.ChangeAt Go.RowKit
theorem leap_any (y : Int) (w : World) :
    Calls Tryd.prog 10 #[.int .i64 y] w fun e w' => e = .returned (.bool (Cal.leapB y)) ∧ w' = w := by
  rw [Cal.leap_t]
  go_enter Tryd.func10, Tryd.ntmps10
  go_wp2
  all_goals
    go_ret
    exact ⟨ret_bool (by simp [*]), rfl⟩
theorem weekday_any (n : Int) (w : World) :
    Calls Tryd.prog 12 #[.int .i64 n] w fun e w' => e = .returned (.int .i64 (Cal.wdy n)) ∧ w' = w := by
  have h1 := Cal.tm7_lo n
  have h2 := Cal.tm7_hi n
  have h3 := Cal.wdy_a n
  go_enter Tryd.func12, Tryd.ntmps12
  go_wp2
  all_goals
    go_ret
    exact ⟨ret_int (by first | exact h3 | (rw [← h3, Cal.tmod_pos (by omega)])), rfl⟩
theorem checkDay_any (k d n : Int) (w : World) :
    Calls Tryd.prog 14 #[.agg #[.int .i64 k, .int .i64 d, .int .i64 n]] w fun e w' => e = .returned (.int .i64 (Cal.dayF k d n)) ∧ Grown w w' := by
  unfold Cal.dayF
  by_cases h1 : k = 1
  · subst h1
    go_enter Tryd.func14, Tryd.ntmps14
    go_wp2
    all_goals
      go_ret
      exact ⟨ret_int (by simp <;> omega), (Grown.refl _).alloc _ _⟩
  by_cases h2 : k = 2
  · subst h2
    go_enter Tryd.func14, Tryd.ntmps14
    go_wp2
    all_goals
      go_ret
      exact ⟨ret_int (by simp <;> omega), (Grown.refl _).alloc _ _⟩
  by_cases h3 : k = 3
  · subst h3
    go_enter Tryd.func14, Tryd.ntmps14
    go_wp2
    all_goals
      go_ret
      exact ⟨ret_int (by simp <;> omega), (Grown.refl _).alloc _ _⟩
  by_cases h4 : k = 4
  · subst h4
    go_enter Tryd.func14, Tryd.ntmps14
    go_wp2
    all_goals
      go_ret
      exact ⟨ret_int (by simp <;> omega), (Grown.refl _).alloc _ _⟩
  rw [if_neg h1, if_neg h2, if_neg (by omega)]
  go_enter Tryd.func14, Tryd.ntmps14
  go_wp2
  go_ret
  exact ⟨rfl, (Grown.refl _).alloc _ _⟩
theorem wfi_lo {n : Int} (h : (Lit.int .i64 n).wf = true) : -9223372036854775808 ≤ n := (bounds_i64 h).1
theorem picked_any (n k : Int) (w : World) (hw : (Lit.int .i64 n).wf = true) (hk : 0 < k) (hk' : k < 1099511627776) :
    Calls Tryd.prog 7 #[.int .i64 n, .int .i64 k] w fun e w' => e = .returned (.int .i64 (Cal.pk n k)) ∧ w' = w := by
  have hn' := wfi_lo hw
  clear hw
  by_cases hn : n < 0
  · go_enter Tryd.func7, Tryd.ntmps7
    go_wp2
    go_ret
    exact ⟨ret_int (Cal.pk_neg hn), rfl⟩
  · have hp : 0 ≤ n := by omega
    clear hn
    go_enter Tryd.func7, Tryd.ntmps7
    go_wp2
    go_ret
    exact ⟨ret_int (Cal.pk_pos hp), rfl⟩
end Go.Proofs.YtgncfbckgbkpcacDoor
