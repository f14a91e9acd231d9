/- Contracts of civil.Find and of the document's answer to it. -/
import Derived.Test.YtgncfbckgbkpcacDoorMath
import Derived.Test.YtgncfbckgbkpcacDoorRows
import Derived.Test.YtgncfbckgbkpcacDoorPlain
import Derived.Test.YtgncfbckgbkpcacDoorYear
import Derived.Test.YtgncfbckgbkpcacDoorLaid
import Derived.Test.YtgncfbckgbkpcacDoorBoxes
import Derived.WalkKit
import Derived.ProofKit
import Derived.OpenShut
import Derived.Deep.QuietTactic
import Derived.BigQuiet
namespace Go.Proofs.YtgncfbckgbkpcacDoor
open Go.ChangeShapes Go.WideShapes Go.ChangeAt Go.RowKit


theorem notBehind_any (n d : Int) (w : World) (h1 : -10000000 ≤ n) (h2 : n ≤ 10000000) (h3 : 0 ≤ d) (h4 : d ≤ 6) :
    Calls Tryd.prog 16 #[.int .i64 n, .int .i64 d] w fun e w' => e = .returned (.int .i64 (Cal.nb n d)) ∧ w' = w := by
  have a := Cal.wdy_lo n
  have b := Cal.wdy_hi n
  go_enter Tryd.func16, Tryd.ntmps16
  go_wp2_with (go_at_call 12; refine (weekday_any _ _).mono ?_; rintro e w' ⟨rfl, rfl⟩)
  go_ret
  exact ⟨ret_int (by unfold Cal.nb; omega), rfl⟩
theorem notAhead_any (n d : Int) (w : World) (h1 : -10000000 ≤ n) (h2 : n ≤ 10000000) (h3 : 0 ≤ d) (h4 : d ≤ 6) :
    Calls Tryd.prog 17 #[.int .i64 n, .int .i64 d] w fun e w' => e = .returned (.int .i64 (Cal.na n d)) ∧ w' = w := by
  have a := Cal.wdy_lo n
  have b := Cal.wdy_hi n
  go_enter Tryd.func17, Tryd.ntmps17
  go_wp2_with (go_at_call 12; refine (weekday_any _ _).mono ?_; rintro e w' ⟨rfl, rfl⟩)
  go_ret
  exact ⟨ret_int (by unfold Cal.na; omega), rfl⟩
set_option maxHeartbeats 1600000 in
theorem find_any (y m k d n : Int) (w : World) (hT : Tab w) :
    Calls Tryd.prog 11 #[.int .i64 y, .int .i64 m, .agg #[.int .i64 k, .int .i64 d, .int .i64 n]] w fun e w' => e = .returned (.tuple #[.int .i64 (Cal.findV y m k d n), .int .i64 (Cal.findE y m k d n)]) ∧ Grown w w' := by
  by_cases hd : Cal.dayF k d n = 0
  · by_cases ha : 1899 ≤ y ∧ y ≤ 2100 ∧ 1 ≤ m ∧ m ≤ 12
    · obtain ⟨h1, h2, h3, h4⟩ := ha
      by_cases hn : n ≤ Cal.dim y m
      · obtain ⟨e1, e2⟩ := Cal.findE_yes hd ⟨⟨h1, h2, h3, h4⟩, hn⟩
        rw [e1, e2]
        clear e1 e2
        have z := Cal.dayF_zero hd
        have hb := Cal.mb_bd (y := y) m (by omega) (by omega)
        have hl := Cal.dim_lo y m
        have hh := Cal.dim_hi y m
        rcases z with z | z | z | z
        · obtain ⟨rfl, rfl, z3, z4⟩ := z
          have hv : Cal.fnd y m 1 0 n = Cal.mb y m + n - 1 := by simp [Cal.fnd]
          rw [hv]
          clear hv
          go_enter Tryd.func11, Tryd.ntmps11
          go_wp2_with (first | (go_at_call 14; refine (checkDay_any _ _ _ _).mono ?_; rintro e w1 ⟨rfl, hg1⟩; have hD := cells3 hg1 (box3 _ _ _ _ _); replace hT := (hT.alloc _ _).grown hg1; have hG := Grown_trans ((Grown.refl _).alloc _ _) hg1; clear hg1) | (go_at_call 9; refine (days_yes _ _ _ hT (by omega) (by omega) (by omega) (by omega)).mono ?_; rintro e w2 ⟨rfl, hg2⟩; replace hD := cells3 hg2 hD; replace hT := hT.grown hg2; replace hG := Grown_trans hG hg2; clear hg2) | (go_at_call 15; refine (mb_any _ _ _ hT (by omega) (by omega) (by omega) (by omega)).mono ?_; rintro e w3 ⟨rfl, hg3⟩; replace hD := cells3 hg3 hD; replace hT := hT.grown hg3; replace hG := Grown_trans hG hg3; clear hg3) | (go_at_call 16; refine (notBehind_any _ _ _ (by omega) (by omega) (by omega) (by omega)).mono ?_; rintro e w4 ⟨rfl, rfl⟩) | (go_at_call 17; refine (notAhead_any _ _ _ (by omega) (by omega) (by omega) (by omega)).mono ?_; rintro e w4 ⟨rfl, rfl⟩))
          go_ret2
          exact ⟨rfl, hG⟩
        · obtain ⟨rfl, z2, z3, rfl⟩ := z
          have hv : Cal.fnd y m 2 d 0 = Cal.nb (Cal.mb y m + Cal.dim y m - 1) d := by simp [Cal.fnd]
          rw [hv]
          clear hv
          go_enter Tryd.func11, Tryd.ntmps11
          go_wp2_with (first | (go_at_call 14; refine (checkDay_any _ _ _ _).mono ?_; rintro e w1 ⟨rfl, hg1⟩; have hD := cells3 hg1 (box3 _ _ _ _ _); replace hT := (hT.alloc _ _).grown hg1; have hG := Grown_trans ((Grown.refl _).alloc _ _) hg1; clear hg1) | (go_at_call 9; refine (days_yes _ _ _ hT (by omega) (by omega) (by omega) (by omega)).mono ?_; rintro e w2 ⟨rfl, hg2⟩; replace hD := cells3 hg2 hD; replace hT := hT.grown hg2; replace hG := Grown_trans hG hg2; clear hg2) | (go_at_call 15; refine (mb_any _ _ _ hT (by omega) (by omega) (by omega) (by omega)).mono ?_; rintro e w3 ⟨rfl, hg3⟩; replace hD := cells3 hg3 hD; replace hT := hT.grown hg3; replace hG := Grown_trans hG hg3; clear hg3) | (go_at_call 16; refine (notBehind_any _ _ _ (by omega) (by omega) (by omega) (by omega)).mono ?_; rintro e w4 ⟨rfl, rfl⟩) | (go_at_call 17; refine (notAhead_any _ _ _ (by omega) (by omega) (by omega) (by omega)).mono ?_; rintro e w4 ⟨rfl, rfl⟩))
          go_ret2
          exact ⟨rfl, hG⟩
        · obtain ⟨rfl, z2, z3, z4, z5⟩ := z
          have hv : Cal.fnd y m 3 d n = Cal.na (Cal.mb y m + n - 1) d := by simp [Cal.fnd]
          rw [hv]
          clear hv
          go_enter Tryd.func11, Tryd.ntmps11
          go_wp2_with (first | (go_at_call 14; refine (checkDay_any _ _ _ _).mono ?_; rintro e w1 ⟨rfl, hg1⟩; have hD := cells3 hg1 (box3 _ _ _ _ _); replace hT := (hT.alloc _ _).grown hg1; have hG := Grown_trans ((Grown.refl _).alloc _ _) hg1; clear hg1) | (go_at_call 9; refine (days_yes _ _ _ hT (by omega) (by omega) (by omega) (by omega)).mono ?_; rintro e w2 ⟨rfl, hg2⟩; replace hD := cells3 hg2 hD; replace hT := hT.grown hg2; replace hG := Grown_trans hG hg2; clear hg2) | (go_at_call 15; refine (mb_any _ _ _ hT (by omega) (by omega) (by omega) (by omega)).mono ?_; rintro e w3 ⟨rfl, hg3⟩; replace hD := cells3 hg3 hD; replace hT := hT.grown hg3; replace hG := Grown_trans hG hg3; clear hg3) | (go_at_call 16; refine (notBehind_any _ _ _ (by omega) (by omega) (by omega) (by omega)).mono ?_; rintro e w4 ⟨rfl, rfl⟩) | (go_at_call 17; refine (notAhead_any _ _ _ (by omega) (by omega) (by omega) (by omega)).mono ?_; rintro e w4 ⟨rfl, rfl⟩))
          go_ret2
          exact ⟨rfl, hG⟩
        · obtain ⟨rfl, z2, z3, z4, z5⟩ := z
          have hv : Cal.fnd y m 4 d n = Cal.nb (Cal.mb y m + n - 1) d := by simp [Cal.fnd]
          rw [hv]
          clear hv
          go_enter Tryd.func11, Tryd.ntmps11
          go_wp2_with (first | (go_at_call 14; refine (checkDay_any _ _ _ _).mono ?_; rintro e w1 ⟨rfl, hg1⟩; have hD := cells3 hg1 (box3 _ _ _ _ _); replace hT := (hT.alloc _ _).grown hg1; have hG := Grown_trans ((Grown.refl _).alloc _ _) hg1; clear hg1) | (go_at_call 9; refine (days_yes _ _ _ hT (by omega) (by omega) (by omega) (by omega)).mono ?_; rintro e w2 ⟨rfl, hg2⟩; replace hD := cells3 hg2 hD; replace hT := hT.grown hg2; replace hG := Grown_trans hG hg2; clear hg2) | (go_at_call 15; refine (mb_any _ _ _ hT (by omega) (by omega) (by omega) (by omega)).mono ?_; rintro e w3 ⟨rfl, hg3⟩; replace hD := cells3 hg3 hD; replace hT := hT.grown hg3; replace hG := Grown_trans hG hg3; clear hg3) | (go_at_call 16; refine (notBehind_any _ _ _ (by omega) (by omega) (by omega) (by omega)).mono ?_; rintro e w4 ⟨rfl, rfl⟩) | (go_at_call 17; refine (notAhead_any _ _ _ (by omega) (by omega) (by omega) (by omega)).mono ?_; rintro e w4 ⟨rfl, rfl⟩))
          go_ret2
          exact ⟨rfl, hG⟩
      · obtain ⟨e1, e2⟩ := Cal.findE_no (y := y) (m := m) hd (fun q => hn q.2)
        rw [e1, e2]
        clear e1 e2
        go_enter Tryd.func11, Tryd.ntmps11
        go_wp2_with (first | (go_at_call 14; refine (checkDay_any _ _ _ _).mono ?_; rintro e w1 ⟨rfl, hg1⟩; have hD := cells3 hg1 (box3 _ _ _ _ _); replace hT := (hT.alloc _ _).grown hg1; have hG := Grown_trans ((Grown.refl _).alloc _ _) hg1; clear hg1) | (go_at_call 9; refine (days_yes _ _ _ hT (by omega) (by omega) (by omega) (by omega)).mono ?_; rintro e w2 ⟨rfl, hg2⟩; replace hD := cells3 hg2 hD; replace hT := hT.grown hg2; replace hG := Grown_trans hG hg2; clear hg2))
        go_ret2
        exact ⟨rfl, hG⟩
    · obtain ⟨e1, e2⟩ := Cal.findE_no (y := y) (m := m) hd (fun q => ha q.1)
      rw [e1, e2]
      clear e1 e2
      go_enter Tryd.func11, Tryd.ntmps11
      go_wp2_with (first | (go_at_call 14; refine (checkDay_any _ _ _ _).mono ?_; rintro e w1 ⟨rfl, hg1⟩; have hD := cells3 hg1 (box3 _ _ _ _ _); replace hT := (hT.alloc _ _).grown hg1; have hG := Grown_trans ((Grown.refl _).alloc _ _) hg1; clear hg1) | (go_at_call 9; refine (days_no _ _ _ ha).mono ?_; rintro e w2 ⟨rfl, rfl⟩))
      go_ret2
      exact ⟨rfl, hG⟩
  · obtain ⟨e1, e2⟩ := Cal.findE_day (y := y) (m := m) hd
    rw [e1, e2]
    clear e1 e2
    go_enter Tryd.func11, Tryd.ntmps11
    go_wp2_with (go_at_call 14; refine (checkDay_any _ _ _ _).mono ?_; rintro e w1 ⟨rfl, hg1⟩; have hD := cells3 hg1 (box3 _ _ _ _ _); replace hT := (hT.alloc _ _).grown hg1; have hG := Grown_trans ((Grown.refl _).alloc _ _) hg1; clear hg1)
    go_ret2
    exact ⟨rfl, hG⟩
end Go.Proofs.YtgncfbckgbkpcacDoor
