/- Contracts of the functions of package civil, and of the document's answers, that read no package variable: each returns what the plain mathematics says. -/
import Derived.Test.YthnbmeihaojfnaaMath
import Derived.Test.YthnbmeihaojfnaaRows
import Derived.Test.YthnbmeihaojfnaaPlain
import Derived.WalkKit
import Derived.ProofKit
import Derived.OpenShut
namespace Go.Proofs.Ythnbmeihaojfnaa
open Go.ChangeShapes Go.WideShapes Go.ChangeAt Go.RowKit
theorem lya_any (y : Int) (w : World) (h : 1 ≤ y) (h' : y ≤ 10000) :
    Calls Try.prog 51 #[.int .i64 y] w fun e w' => e = .returned (.int .i64 (Cal.lya y)) ∧ w' = w := by
  go_enter Try.func51, Try.ntmps51
  go_wp2
  go_ret
  exact ⟨rfl, rfl⟩
theorem yb_any (y : Int) (w : World) (h : 1 ≤ y) (h' : y ≤ 10000) :
    Calls Try.prog 32 #[.int .i64 y] w fun e w' => e = .returned (.int .i64 (Cal.yb y)) ∧ w' = w := by
  have hb := Cal.lya_bd h h'
  have hc : Cal.lya 1970 = 477 := by decide
  go_enter Try.func32, Try.ntmps32
  go_wp2_with (go_at_call 51; refine (lya_any _ _ (by omega) (by omega)).mono ?_; rintro e w' ⟨rfl, rfl⟩)
  go_ret
  exact ⟨rfl, rfl⟩
theorem window_any (w : World) :
    Calls Try.prog 14 #[] w fun e w' => e = .returned (.tuple #[.int .i64 (-2208988800), .int .i64 4102444800]) ∧ w' = w := by
  have h1 := Cal.yb_1900
  have h2 := Cal.yb_2100
  go_enter Try.func14, Try.ntmps14
  go_wp2_with (go_at_call 32; refine (yb_any _ _ (by omega) (by omega)).mono ?_; rintro e w' ⟨rfl, rfl⟩)
  go_ret2
  exact ⟨rfl, rfl⟩
theorem daysOf_yes (y m : Int) (w : World) (h1 : 1899 ≤ y) (h2 : y ≤ 2100) (h3 : 1 ≤ m) (h4 : m ≤ 12) :
    Calls Try.prog 60 #[.int .i64 y, .int .i64 m] w fun e w' => e = .returned (.tuple #[.int .i64 (Cal.dim y m), .int .i64 0]) ∧ w' = w := by
  unfold Cal.dim Cal.lp
  by_cases hl : Cal.leapB y = true
  all_goals
    rcases Cal.cases12 h3 h4 with e | e | e | e | e | e | e | e | e | e | e | e <;> subst e <;> clear h3 h4
  all_goals
    go_enter Try.func60, Try.ntmps60
    go_wp2_with (first | (go_at_call 27; refine (in_any _ _ _ _).mono ?_; rintro e w' ⟨rfl, rfl⟩) | (go_at_call 59; refine (isLeap_any _ _).mono ?_; rintro e w' ⟨rfl, rfl⟩))
    go_ret2
    exact ⟨by simp [*], rfl⟩
theorem daysOf_no (y m : Int) (w : World) (h : ¬ (1899 ≤ y ∧ y ≤ 2100 ∧ 1 ≤ m ∧ m ≤ 12)) :
    Calls Try.prog 60 #[.int .i64 y, .int .i64 m] w fun e w' => e = .returned (.tuple #[.int .i64 0, .int .i64 2]) ∧ w' = w := by
  by_cases hy : 1899 ≤ y ∧ y ≤ 2100
  · have hm : ¬ (1 ≤ m ∧ m ≤ 12) := by omega
    clear h
    go_enter Try.func60, Try.ntmps60
    go_wp2_with (go_at_call 27; refine (in_any _ _ _ _).mono ?_; rintro e w' ⟨rfl, rfl⟩)
    go_ret2
    exact ⟨rfl, rfl⟩
  · clear h
    go_enter Try.func60, Try.ntmps60
    go_wp2_with (go_at_call 27; refine (in_any _ _ _ _).mono ?_; rintro e w' ⟨rfl, rfl⟩)
    go_ret2
    exact ⟨rfl, rfl⟩
theorem daysTo_any (y m : Int) (w : World) (h1 : 1899 ≤ y) (h2 : y ≤ 2100) (h3 : 1 ≤ m) (h4 : m ≤ 12) :
    Calls Try.prog 50 #[.int .i64 y, .int .i64 m] w fun e w' => e = .returned (.int .i64 (Cal.mb y m)) ∧ w' = w := by
  by_cases hy : 1970 ≤ y
  · go_enter Try.func50, Try.ntmps50
    go_wp2
    go_loop [5, 6] (fun n i => ∃ k : Int, 1970 ≤ k ∧ k ≤ y ∧ i = .int .i64 k ∧ n = .int .i64 (Cal.yb k)) (fun _ i => (y - intOf i).toNat)
    case atStart => exact ⟨1970, by omega, by omega, rfl, rfl⟩
    case round =>
      obtain ⟨k, hk1, hk2, rfl, rfl⟩ := hrel
      have hb := Cal.yb_bd (y := k) (by omega) (by omega)
      by_cases hlt : k < y
      · have hs : Hid (Cal.yb (k + 1) = Cal.yb k + 365 + Cal.lp k) := Cal.yb_succ k
        by_cases hl : Cal.leapB k = true
        all_goals
          go_wp2_with (go_at_call 59; refine (isLeap_any _ _).mono ?_; rintro e w' ⟨rfl, rfl⟩)
          go_round
          case rel => exact ⟨k + 1, by omega, by omega, by go_num, by rw [hs.out]; simp [Cal.lp, hl]⟩
          case measure => simp [intOf]; omega
      · have hk : k = y := by omega
        subst hk
        clear hlt hk2
        go_wp2
        go_loop [5, 7] (fun n i => i = .int .i64 k ∧ n = .int .i64 (Cal.yb k)) (fun _ _ => 0)
        case atStart => exact ⟨rfl, rfl⟩
        case round =>
          obtain ⟨rfl, rfl⟩ := hrel
          go_wp2
          go_loop [5, 8] (fun n i => ∃ j : Int, 1 ≤ j ∧ j ≤ m ∧ i = .int .i64 j ∧ n = .int .i64 (Cal.mb k j)) (fun _ i => (m - intOf i).toNat)
          case atStart => exact ⟨1, by omega, by omega, rfl, by rw [Cal.mb_one]⟩
          case round =>
            obtain ⟨j, hj1, hj2, rfl, rfl⟩ := hrel
            have hc := Cal.mb_bd (y := k) j (by omega) (by omega)
            have hd := Cal.dim_lo k j
            have hd' := Cal.dim_hi k j
            by_cases hlt : j < m
            · have hs : Hid (Cal.mb k (j + 1) = Cal.mb k j + Cal.dim k j) := Cal.mb_succ k hj1 (by omega)
              go_wp2_with (go_at_call 60; refine (daysOf_yes _ _ _ (by omega) (by omega) (by omega) (by omega)).mono ?_; rintro e w' ⟨rfl, rfl⟩)
              go_round
              case rel => exact ⟨j + 1, by omega, by omega, by go_num, by rw [hs.out]⟩
              case measure => simp [intOf]; omega
            · have hj : j = m := by omega
              subst hj
              go_wp2
              go_ret
              exact ⟨rfl, rfl⟩
  · go_enter Try.func50, Try.ntmps50
    go_wp2
    go_loop [5, 6] (fun n i => i = .int .i64 1970 ∧ n = .int .i64 0) (fun _ _ => 0)
    case atStart => exact ⟨rfl, rfl⟩
    case round =>
      obtain ⟨rfl, rfl⟩ := hrel
      go_wp2
      go_loop [5, 7] (fun n i => ∃ k : Int, y ≤ k ∧ k ≤ 1970 ∧ i = .int .i64 k ∧ n = .int .i64 (Cal.yb y - Cal.yb k)) (fun _ i => (1970 - intOf i).toNat)
      case atStart => exact ⟨y, by omega, by omega, rfl, by rw [Int.sub_self]⟩
      case round =>
        obtain ⟨k, hk1, hk2, rfl, rfl⟩ := hrel
        have hb := Cal.yb_bd (y := k) (by omega) (by omega)
        have hb' := Cal.yb_bd (y := y) (by omega) (by omega)
        by_cases hlt : k < 1970
        · have hs : Hid (Cal.yb (k + 1) = Cal.yb k + 365 + Cal.lp k) := Cal.yb_succ k
          by_cases hl : Cal.leapB k = true
          all_goals
            go_wp2_with (go_at_call 59; refine (isLeap_any _ _).mono ?_; rintro e w' ⟨rfl, rfl⟩)
            go_round
            case rel => exact ⟨k + 1, by omega, by omega, by go_num, int_eq (by rw [hs.out]; simp [Cal.lp, hl]; omega)⟩
            case measure => simp [intOf]; omega
        · have hk : k = 1970 := by omega
          subst hk
          have h0 := Cal.yb_1970
          rw [h0, Int.sub_zero]
          clear hlt hk2 hk1
          go_wp2
          go_loop [5, 8] (fun n i => ∃ j : Int, 1 ≤ j ∧ j ≤ m ∧ i = .int .i64 j ∧ n = .int .i64 (Cal.mb y j)) (fun _ i => (m - intOf i).toNat)
          case atStart => exact ⟨1, by omega, by omega, rfl, by rw [Cal.mb_one]⟩
          case round =>
            obtain ⟨j, hj1, hj2, rfl, rfl⟩ := hrel
            have hc := Cal.mb_bd (y := y) j (by omega) (by omega)
            have hd := Cal.dim_lo y j
            have hd' := Cal.dim_hi y j
            by_cases hlt : j < m
            · have hs : Hid (Cal.mb y (j + 1) = Cal.mb y j + Cal.dim y j) := Cal.mb_succ y hj1 (by omega)
              go_wp2_with (go_at_call 60; refine (daysOf_yes _ _ _ (by omega) (by omega) (by omega) (by omega)).mono ?_; rintro e w' ⟨rfl, rfl⟩)
              go_round
              case rel => exact ⟨j + 1, by omega, by omega, by go_num, by rw [hs.out]⟩
              case measure => simp [intOf]; omega
            · have hj : j = m := by omega
              subst hj
              go_wp2
              go_ret
              exact ⟨rfl, rfl⟩
theorem windowOf_any (w : World) :
    Calls Try.prog 30 #[] w fun e w' => e = .returned (.tuple #[.int .i64 (-2208988800), .int .i64 4102444800]) ∧ w' = w := by
  have h1 : Cal.mb 1900 1 = -25567 := by decide
  have h2 : Cal.mb 2100 1 = 47482 := by decide
  go_enter Try.func30, Try.ntmps30
  go_wp2_with (go_at_call 50; refine (daysTo_any _ _ _ (by omega) (by omega) (by omega) (by omega)).mono ?_; rintro e w' ⟨rfl, rfl⟩)
  go_ret2
  exact ⟨rfl, rfl⟩
end Go.Proofs.Ythnbmeihaojfnaa
