/- Contracts of the functions of package civil, and of the document's answers, that read no package variable: each returns what the plain mathematics says. -/
import Derived.Test.YtgncfbckgbkpcabMath
import Derived.Test.YtgncfbckgbkpcabRows
import Derived.WalkKit
import Derived.ProofKit
import Derived.OpenShut
namespace Go.Proofs.Ytgncfbckgbkpcab
open Go.ChangeShapes Go.WideShapes Go.ChangeAt Go.RowKit
theorem isLeap_any (y : Int) (w : World) :
    Calls Try.prog 18 #[.int .i64 y] w fun e w' => e = .returned (.bool (Cal.leapB y)) ∧ w' = w := by
  rw [Cal.leap_t]
  go_enter Try.func18, Try.ntmps18
  go_wp2
  all_goals
    go_ret
    exact ⟨ret_bool (by first | (simp [*]; done) | (simp [*]; rw [Bool.or_comm]; rfl)), rfl⟩
theorem in_any (n l h : Int) (w : World) :
    Calls Try.prog 14 #[.int .i64 n, .int .i64 l, .int .i64 h] w fun e w' => e = .returned (.bool (decide (l ≤ n ∧ n ≤ h))) ∧ w' = w := by
  go_enter Try.func14, Try.ntmps14
  go_wp2
  all_goals
    go_ret
    exact ⟨ret_bool (by simp <;> omega), rfl⟩
theorem weekday_any (n : Int) (w : World) :
    Calls Try.prog 11 #[.int .i64 n] w fun e w' => e = .returned (.int .i64 (Cal.wdy n)) ∧ w' = w := by
  have h1 := Cal.tm7_lo n
  have h2 := Cal.tm7_hi n
  have h3 := Cal.wdy_a n
  go_enter Try.func11, Try.ntmps11
  go_wp2
  all_goals
    go_ret
    exact ⟨ret_int (by first | exact h3 | (rw [← h3, Cal.tmod_pos (by omega)])), rfl⟩
theorem checkDay_any (k d n : Int) (w : World) :
    Calls Try.prog 12 #[.agg #[.int .i64 k, .int .i64 d, .int .i64 n]] w fun e w' => e = .returned (.int .i64 (Cal.dayF k d n)) ∧ Grown w w' := by
  unfold Cal.dayF
  by_cases h1 : k = 1
  · subst h1
    go_enter Try.func12, Try.ntmps12
    go_wp2
    all_goals
      go_ret
      exact ⟨ret_int (by simp <;> omega), (Grown.refl _).alloc _ _⟩
  by_cases h2 : k = 2
  · subst h2
    go_enter Try.func12, Try.ntmps12
    go_wp2
    all_goals
      go_ret
      exact ⟨ret_int (by simp <;> omega), (Grown.refl _).alloc _ _⟩
  by_cases h3 : k = 3
  · subst h3
    go_enter Try.func12, Try.ntmps12
    go_wp2
    all_goals
      go_ret
      exact ⟨ret_int (by simp <;> omega), (Grown.refl _).alloc _ _⟩
  by_cases h4 : k = 4
  · subst h4
    go_enter Try.func12, Try.ntmps12
    go_wp2
    all_goals
      go_ret
      exact ⟨ret_int (by simp <;> omega), (Grown.refl _).alloc _ _⟩
  rw [if_neg h1, if_neg h2, if_neg (by omega)]
  go_enter Try.func12, Try.ntmps12
  go_wp2
  go_ret
  exact ⟨rfl, (Grown.refl _).alloc _ _⟩
theorem dayFault_any (k d n : Int) (w : World) :
    Calls Try.prog 13 #[.agg #[.int .i64 k, .int .i64 d, .int .i64 n]] w fun e w' => e = .returned (.int .i64 (Cal.dayF k d n)) ∧ Grown w w' := by
  unfold Cal.dayF
  by_cases h1 : k = 1
  · subst h1
    go_enter Try.func13, Try.ntmps13
    go_wp2_with (go_at_call 14; refine (in_any _ _ _ _).mono ?_; rintro e w' ⟨rfl, rfl⟩)
    all_goals
      go_ret
      exact ⟨ret_int (by simp at * <;> omega), (Grown.refl _).alloc _ _⟩
  by_cases h2 : k = 2
  · subst h2
    go_enter Try.func13, Try.ntmps13
    go_wp2_with (go_at_call 14; refine (in_any _ _ _ _).mono ?_; rintro e w' ⟨rfl, rfl⟩)
    all_goals
      go_ret
      exact ⟨ret_int (by simp at * <;> omega), (Grown.refl _).alloc _ _⟩
  by_cases h3 : k = 3
  · subst h3
    go_enter Try.func13, Try.ntmps13
    go_wp2_with (go_at_call 14; refine (in_any _ _ _ _).mono ?_; rintro e w' ⟨rfl, rfl⟩)
    all_goals
      go_ret
      exact ⟨ret_int (by simp at * <;> omega), (Grown.refl _).alloc _ _⟩
  by_cases h4 : k = 4
  · subst h4
    go_enter Try.func13, Try.ntmps13
    go_wp2_with (go_at_call 14; refine (in_any _ _ _ _).mono ?_; rintro e w' ⟨rfl, rfl⟩)
    all_goals
      go_ret
      exact ⟨ret_int (by simp at * <;> omega), (Grown.refl _).alloc _ _⟩
  rw [if_neg h1, if_neg h2, if_neg (by omega)]
  go_enter Try.func13, Try.ntmps13
  go_wp2
  go_ret
  exact ⟨rfl, (Grown.refl _).alloc _ _⟩
theorem wfi_lo {n : Int} (h : (Lit.int .i64 n).wf = true) : -9223372036854775808 ≤ n := (bounds_i64 h).1
theorem picked_any (n k : Int) (w : World) (hw : (Lit.int .i64 n).wf = true) (hk : 0 < k) (hk' : k < 1099511627776) :
    Calls Try.prog 10 #[.int .i64 n, .int .i64 k] w fun e w' => e = .returned (.int .i64 (Cal.pk n k)) ∧ w' = w := by
  have hn' := wfi_lo hw
  clear hw
  by_cases hn : n < 0
  · go_enter Try.func10, Try.ntmps10
    go_wp2
    go_ret
    exact ⟨ret_int (Cal.pk_neg hn), rfl⟩
  · have hp : 0 ≤ n := by omega
    clear hn
    go_enter Try.func10, Try.ntmps10
    go_wp2
    go_ret
    exact ⟨ret_int (Cal.pk_pos hp), rfl⟩
end Go.Proofs.Ytgncfbckgbkpcab
