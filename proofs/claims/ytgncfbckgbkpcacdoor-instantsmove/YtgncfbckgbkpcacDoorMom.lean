/- Contracts of the functions of package civil, and of the document's answers, that read no package variable: each returns what the plain mathematics says. -/
import Derived.Test.YtgncfbckgbkpcacDoorMath
import Derived.Test.YtgncfbckgbkpcacDoorRows
import Derived.Test.YtgncfbckgbkpcacDoorPlain
import Derived.WalkKit
import Derived.ProofKit
import Derived.OpenShut
namespace Go.Proofs.YtgncfbckgbkpcacDoor
open Go.ChangeShapes Go.WideShapes Go.ChangeAt Go.RowKit
set_option maxHeartbeats 1600000 in
theorem checkMoment_any (mo k d n ti cl : Int) (w : World) :
    Calls Tryd.prog 18 #[.agg #[.int .i64 mo, .int .i64 k, .int .i64 d, .int .i64 n, .int .i64 ti, .int .i64 cl]] w fun e w' => e = .returned (.int .i64 (Cal.momF mo k d n ti cl)) ∧ Grown w w' := by
  unfold Cal.momF
  by_cases hd : Cal.dayF k d n = 0
  · rw [if_neg (by omega)]
    by_cases h0 : cl = 0
    · subst h0
      go_enter Tryd.func18, Tryd.ntmps18
      go_wp2_with (go_at_call 14; refine (checkDay_any _ _ _ _).mono ?_; rintro e w1 ⟨rfl, hg1⟩; obtain ⟨hc1, hz1⟩ := gcell hg1)
      all_goals
        go_ret
        exact ⟨ret_int (by simp <;> omega), Grown_trans ((Grown.refl _).alloc _ _) hg1⟩
    by_cases h1 : cl = 1
    · subst h1
      go_enter Tryd.func18, Tryd.ntmps18
      go_wp2_with (go_at_call 14; refine (checkDay_any _ _ _ _).mono ?_; rintro e w1 ⟨rfl, hg1⟩; obtain ⟨hc1, hz1⟩ := gcell hg1)
      all_goals
        go_ret
        exact ⟨ret_int (by simp <;> omega), Grown_trans ((Grown.refl _).alloc _ _) hg1⟩
    by_cases h2 : cl = 2
    · subst h2
      go_enter Tryd.func18, Tryd.ntmps18
      go_wp2_with (go_at_call 14; refine (checkDay_any _ _ _ _).mono ?_; rintro e w1 ⟨rfl, hg1⟩; obtain ⟨hc1, hz1⟩ := gcell hg1)
      all_goals
        go_ret
        exact ⟨ret_int (by simp <;> omega), Grown_trans ((Grown.refl _).alloc _ _) hg1⟩
    rw [if_neg (by omega)]
    have b0 : (cl != 0) = true := by simpa using h0
    have b1 : (cl != 1) = true := by simpa using h1
    have b2 : (cl != 2) = true := by simpa using h2
    go_enter Tryd.func18, Tryd.ntmps18
    go_wp2_with (go_at_call 14; refine (checkDay_any _ _ _ _).mono ?_; rintro e w1 ⟨rfl, hg1⟩; obtain ⟨hc1, hz1⟩ := gcell hg1)
    go_ret
    exact ⟨rfl, Grown_trans ((Grown.refl _).alloc _ _) hg1⟩
  · rw [if_pos hd]
    go_enter Tryd.func18, Tryd.ntmps18
    go_wp2_with (go_at_call 14; refine (checkDay_any _ _ _ _).mono ?_; rintro e w1 ⟨rfl, hg1⟩; obtain ⟨hc1, hz1⟩ := gcell hg1)
    go_ret
    exact ⟨rfl, Grown_trans ((Grown.refl _).alloc _ _) hg1⟩
end Go.Proofs.YtgncfbckgbkpcacDoor
