/- The contract of the document's answer to Find. -/
import Derived.Test.YtgncfbckgbkpcabDoorMath
import Derived.Test.YtgncfbckgbkpcabDoorRows
import Derived.Test.YtgncfbckgbkpcabDoorPlain
import Derived.Test.YtgncfbckgbkpcabDoorYear
import Derived.Test.YtgncfbckgbkpcabDoorLaid
import Derived.Test.YtgncfbckgbkpcabDoorBoxes
import Derived.WalkKit
import Derived.ProofKit
import Derived.OpenShut
import Derived.Deep.QuietTactic
import Derived.BigQuiet
namespace Go.Proofs.YtgncfbckgbkpcabDoor
open Go.ChangeShapes Go.WideShapes Go.ChangeAt Go.RowKit


set_option maxHeartbeats 3200000 in
theorem foundDay_any (y m k d n : Int) (w : World) :
    Calls Tryd.prog 7 #[.int .i64 y, .int .i64 m, .agg #[.int .i64 k, .int .i64 d, .int .i64 n]] w fun e w' => e = .returned (.tuple #[.int .i64 (Cal.findV y m k d n), .int .i64 (Cal.findE y m k d n)]) ∧ Grown w w' := by
  by_cases hd : Cal.dayF k d n = 0
  · by_cases ha : 1899 ≤ y ∧ y ≤ 2100 ∧ 1 ≤ m ∧ m ≤ 12
    · obtain ⟨h1, h2, h3, h4⟩ := ha
      by_cases hn : n ≤ Cal.dim y m
      · obtain ⟨e1, e2⟩ := Cal.findE_yes hd ⟨⟨h1, h2, h3, h4⟩, hn⟩
        rw [e1, e2]
        clear e1 e2
        have z := Cal.dayF_zero hd
        have hb := Cal.mb_bd (y := y) m (by omega) (by omega)
        have hl := Cal.dim_lo y m
        have hh := Cal.dim_hi y m
        rcases z with z | z | z | z
        · obtain ⟨rfl, rfl, z3, z4⟩ := z
          have hv : Cal.fnd y m 1 0 n = Cal.mb y m + n - 1 := by simp [Cal.fnd]
          rw [hv]
          clear hv
          go_enter Tryd.func7, Tryd.ntmps7
          go_wp2_with (first | (go_at_call 20; refine (dayFault_any _ _ _ _).mono ?_; rintro e w1 ⟨rfl, hg1⟩; have hD := cells3 hg1 (box3 _ _ _ _ _); have hG := Grown_trans ((Grown.refl _).alloc _ _) hg1; clear hg1) | (go_at_call 21; refine (daysOf_yes _ _ _ (by omega) (by omega) (by omega) (by omega)).mono ?_; rintro e w2 ⟨rfl, rfl⟩))
          go_quiet ((go_at_call 22; exact Calls.quiet_of_same (daysTo_any _ _ _ (by omega) (by omega) (by omega) (by omega))))
          replace hD := cells3 (Grown_drewN _ nq) hD
          go_wp2
          go_ret2
          exact ⟨rfl, Grown_trans hG (Grown_drewN _ _)⟩
        · obtain ⟨rfl, z2, z3, rfl⟩ := z
          have hv : Cal.fnd y m 2 d 0 = Cal.nb (Cal.mb y m + Cal.dim y m - 1) d := by simp [Cal.fnd]
          rw [hv]
          clear hv
          go_enter Tryd.func7, Tryd.ntmps7
          go_wp2_with (first | (go_at_call 20; refine (dayFault_any _ _ _ _).mono ?_; rintro e w1 ⟨rfl, hg1⟩; have hD := cells3 hg1 (box3 _ _ _ _ _); have hG := Grown_trans ((Grown.refl _).alloc _ _) hg1; clear hg1) | (go_at_call 21; refine (daysOf_yes _ _ _ (by omega) (by omega) (by omega) (by omega)).mono ?_; rintro e w2 ⟨rfl, rfl⟩))
          go_quiet ((go_at_call 22; exact Calls.quiet_of_same (daysTo_any _ _ _ (by omega) (by omega) (by omega) (by omega))))
          replace hD := cells3 (Grown_drewN _ nq) hD
          replace hG := Grown_trans hG (Grown_drewN _ nq)
          go_wp2_with (go_at_call 22; refine (daysTo_any _ _ _ (by omega) (by omega) (by omega) (by omega)).mono ?_; rintro e w2 ⟨rfl, rfl⟩)
          have q1 := Cal.nb_bd (Cal.mb y m + Cal.dim y m - 1) d
          go_loopw [10] (fun t wr => ∃ x : Int, t = .int .i64 x ∧ Cal.nb (Cal.mb y m + Cal.dim y m - 1) d ≤ x ∧ x ≤ Cal.mb y m + Cal.dim y m - 1 ∧ Grown w wr ∧ wr.cell? ⟨w.heap.size, 0, none⟩ = some (.int .i64 2) ∧ wr.cell? ⟨w.heap.size, 1, none⟩ = some (.int .i64 d) ∧ wr.cell? ⟨w.heap.size, 2, none⟩ = some (.int .i64 0)) (fun t _ => (intOf t - Cal.nb (Cal.mb y m + Cal.dim y m - 1) d).toNat)
          case atStart => exact ⟨_, rfl, (Cal.nb_bd _ _).2, Int.le_refl _, hG, hD⟩
          case round =>
            obtain ⟨x, rfl, x1, x2, hGr, hDr⟩ := hrel
            clear hD hG
            have ht := Cal.nb_at z2 z3 x1 x2
            by_cases hx : x = Cal.nb (Cal.mb y m + Cal.dim y m - 1) d
            · have hq : (Cal.wdy x != d) = false := by simpa using ht.2 hx
              clear ht
              have HX : Hid (x = Cal.nb (Cal.mb y m + Cal.dim y m - 1) d) := hx
              clear hx
              go_wp2
              go_quiet ((go_at_call 23; exact Calls.quiet_of_same (weekdayOf_any _ _)))
              go_wp2
              go_ret2
              exact ⟨ret2_int HX.out rfl, Grown_trans hGr (Grown_drewN _ _)⟩
            · have hq : (Cal.wdy x != d) = true := by simpa using (fun q => hx (ht.1 q))
              clear ht
              go_wp2
              go_quiet ((go_at_call 23; exact Calls.quiet_of_same (weekdayOf_any _ _)))
              go_wp2
              go_roundw
              case rel => exact ⟨x - 1, by go_num, by omega, by omega, Grown_trans hGr (Grown_drewN _ _), cells3 (Grown_drewN _ _) hDr⟩
              case measure => simp [intOf]; omega
        · obtain ⟨rfl, z2, z3, z4, z5⟩ := z
          have hv : Cal.fnd y m 3 d n = Cal.na (Cal.mb y m + n - 1) d := by simp [Cal.fnd]
          rw [hv]
          clear hv
          go_enter Tryd.func7, Tryd.ntmps7
          go_wp2_with (first | (go_at_call 20; refine (dayFault_any _ _ _ _).mono ?_; rintro e w1 ⟨rfl, hg1⟩; have hD := cells3 hg1 (box3 _ _ _ _ _); have hG := Grown_trans ((Grown.refl _).alloc _ _) hg1; clear hg1) | (go_at_call 21; refine (daysOf_yes _ _ _ (by omega) (by omega) (by omega) (by omega)).mono ?_; rintro e w2 ⟨rfl, rfl⟩))
          go_quiet ((go_at_call 22; exact Calls.quiet_of_same (daysTo_any _ _ _ (by omega) (by omega) (by omega) (by omega))))
          replace hD := cells3 (Grown_drewN _ nq) hD
          replace hG := Grown_trans hG (Grown_drewN _ nq)
          go_wp2
          have q1 := Cal.na_bd (Cal.mb y m + n - 1) d
          go_loopw [10] (fun t wr => ∃ x : Int, t = .int .i64 x ∧ Cal.mb y m + n - 1 ≤ x ∧ x ≤ Cal.na (Cal.mb y m + n - 1) d ∧ Grown w wr ∧ wr.cell? ⟨w.heap.size, 0, none⟩ = some (.int .i64 3) ∧ wr.cell? ⟨w.heap.size, 1, none⟩ = some (.int .i64 d) ∧ wr.cell? ⟨w.heap.size, 2, none⟩ = some (.int .i64 n)) (fun t _ => (Cal.na (Cal.mb y m + n - 1) d - intOf t).toNat)
          case atStart => exact ⟨_, rfl, Int.le_refl _, (Cal.na_bd _ _).1, hG, hD⟩
          case round =>
            obtain ⟨x, rfl, x1, x2, hGr, hDr⟩ := hrel
            clear hD hG
            have ht := Cal.na_at z2 z3 x1 x2
            by_cases hx : x = Cal.na (Cal.mb y m + n - 1) d
            · have hq : (Cal.wdy x != d) = false := by simpa using ht.2 hx
              clear ht
              have HX : Hid (x = Cal.na (Cal.mb y m + n - 1) d) := hx
              clear hx
              go_wp2
              go_quiet ((go_at_call 23; exact Calls.quiet_of_same (weekdayOf_any _ _)))
              go_wp2
              go_ret2
              exact ⟨ret2_int HX.out rfl, Grown_trans hGr (Grown_drewN _ _)⟩
            · have hq : (Cal.wdy x != d) = true := by simpa using (fun q => hx (ht.1 q))
              clear ht
              go_wp2
              go_quiet ((go_at_call 23; exact Calls.quiet_of_same (weekdayOf_any _ _)))
              go_wp2
              go_roundw
              case rel => exact ⟨x + 1, by go_num, by omega, by omega, Grown_trans hGr (Grown_drewN _ _), cells3 (Grown_drewN _ _) hDr⟩
              case measure => simp [intOf]; omega
        · obtain ⟨rfl, z2, z3, z4, z5⟩ := z
          have hv : Cal.fnd y m 4 d n = Cal.nb (Cal.mb y m + n - 1) d := by simp [Cal.fnd]
          rw [hv]
          clear hv
          go_enter Tryd.func7, Tryd.ntmps7
          go_wp2_with (first | (go_at_call 20; refine (dayFault_any _ _ _ _).mono ?_; rintro e w1 ⟨rfl, hg1⟩; have hD := cells3 hg1 (box3 _ _ _ _ _); have hG := Grown_trans ((Grown.refl _).alloc _ _) hg1; clear hg1) | (go_at_call 21; refine (daysOf_yes _ _ _ (by omega) (by omega) (by omega) (by omega)).mono ?_; rintro e w2 ⟨rfl, rfl⟩))
          go_quiet ((go_at_call 22; exact Calls.quiet_of_same (daysTo_any _ _ _ (by omega) (by omega) (by omega) (by omega))))
          replace hD := cells3 (Grown_drewN _ nq) hD
          replace hG := Grown_trans hG (Grown_drewN _ nq)
          go_wp2
          have q1 := Cal.nb_bd (Cal.mb y m + n - 1) d
          go_loopw [10] (fun t wr => ∃ x : Int, t = .int .i64 x ∧ Cal.nb (Cal.mb y m + n - 1) d ≤ x ∧ x ≤ Cal.mb y m + n - 1 ∧ Grown w wr ∧ wr.cell? ⟨w.heap.size, 0, none⟩ = some (.int .i64 4) ∧ wr.cell? ⟨w.heap.size, 1, none⟩ = some (.int .i64 d) ∧ wr.cell? ⟨w.heap.size, 2, none⟩ = some (.int .i64 n)) (fun t _ => (intOf t - Cal.nb (Cal.mb y m + n - 1) d).toNat)
          case atStart => exact ⟨_, rfl, (Cal.nb_bd _ _).2, Int.le_refl _, hG, hD⟩
          case round =>
            obtain ⟨x, rfl, x1, x2, hGr, hDr⟩ := hrel
            clear hD hG
            have ht := Cal.nb_at z2 z3 x1 x2
            by_cases hx : x = Cal.nb (Cal.mb y m + n - 1) d
            · have hq : (Cal.wdy x != d) = false := by simpa using ht.2 hx
              clear ht
              have HX : Hid (x = Cal.nb (Cal.mb y m + n - 1) d) := hx
              clear hx
              go_wp2
              go_quiet ((go_at_call 23; exact Calls.quiet_of_same (weekdayOf_any _ _)))
              go_wp2
              go_ret2
              exact ⟨ret2_int HX.out rfl, Grown_trans hGr (Grown_drewN _ _)⟩
            · have hq : (Cal.wdy x != d) = true := by simpa using (fun q => hx (ht.1 q))
              clear ht
              go_wp2
              go_quiet ((go_at_call 23; exact Calls.quiet_of_same (weekdayOf_any _ _)))
              go_wp2
              go_roundw
              case rel => exact ⟨x - 1, by go_num, by omega, by omega, Grown_trans hGr (Grown_drewN _ _), cells3 (Grown_drewN _ _) hDr⟩
              case measure => simp [intOf]; omega
      · obtain ⟨e1, e2⟩ := Cal.findE_no (y := y) (m := m) hd (fun q => hn q.2)
        rw [e1, e2]
        clear e1 e2
        go_enter Tryd.func7, Tryd.ntmps7
        go_wp2_with (first | (go_at_call 20; refine (dayFault_any _ _ _ _).mono ?_; rintro e w1 ⟨rfl, hg1⟩; have hD := cells3 hg1 (box3 _ _ _ _ _); have hG := Grown_trans ((Grown.refl _).alloc _ _) hg1; clear hg1) | (go_at_call 21; refine (daysOf_yes _ _ _ (by omega) (by omega) (by omega) (by omega)).mono ?_; rintro e w2 ⟨rfl, rfl⟩))
        go_ret2
        exact ⟨rfl, hG⟩
    · obtain ⟨e1, e2⟩ := Cal.findE_no (y := y) (m := m) hd (fun q => ha q.1)
      rw [e1, e2]
      clear e1 e2
      go_enter Tryd.func7, Tryd.ntmps7
      go_wp2_with (first | (go_at_call 20; refine (dayFault_any _ _ _ _).mono ?_; rintro e w1 ⟨rfl, hg1⟩; have hD := cells3 hg1 (box3 _ _ _ _ _); have hG := Grown_trans ((Grown.refl _).alloc _ _) hg1; clear hg1) | (go_at_call 21; refine (daysOf_no _ _ _ ha).mono ?_; rintro e w2 ⟨rfl, rfl⟩))
      go_ret2
      exact ⟨rfl, hG⟩
  · obtain ⟨e1, e2⟩ := Cal.findE_day (y := y) (m := m) hd
    rw [e1, e2]
    clear e1 e2
    go_enter Tryd.func7, Tryd.ntmps7
    go_wp2_with (go_at_call 20; refine (dayFault_any _ _ _ _).mono ?_; rintro e w1 ⟨rfl, hg1⟩; have hD := cells3 hg1 (box3 _ _ _ _ _); have hG := Grown_trans ((Grown.refl _).alloc _ _) hg1; clear hg1)
    go_ret2
    exact ⟨rfl, hG⟩
end Go.Proofs.YtgncfbckgbkpcabDoor
