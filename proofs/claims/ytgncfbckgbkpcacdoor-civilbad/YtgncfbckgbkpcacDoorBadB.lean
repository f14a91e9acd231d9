/- The law CivilBad, at the last four of its eight ways. -/
import Derived.Test.YtgncfbckgbkpcacDoorMath
import Derived.Test.YtgncfbckgbkpcacDoorPlain
import Derived.Test.YtgncfbckgbkpcacDoorYear
import Derived.Test.YtgncfbckgbkpcacDoorLaid
import Derived.Test.YtgncfbckgbkpcacDoorBoxes
import Derived.Test.YtgncfbckgbkpcacDoorFind
import Derived.Test.YtgncfbckgbkpcacDoorBadA
import Derived.Test.YtgncfbckgbkpcacDoorShapes
import Derived.WalkKit
import Derived.ProofKit
import Derived.OpenShut
import Derived.Deep.DeepHandedRow
import Derived.Lib.LaidTab
import Derived.Deep.Cut
import Derived.Deep.RegionHeld3
namespace Go.Proofs.YtgncfbckgbkpcacDoor
open Go.ChangeShapes Go.WideShapes Go.ChangeAt Go.RowKit
set_option linter.unusedVariables false
set_option maxRecDepth 20000 in
set_option maxHeartbeats 3200000 in
theorem civilBad_4 (a0 a1 : Int) (w0 : wfi a0) (w1 : wfi a1) (w : World) (hT : Tab w) (hi : Cal.pk a0 8 = 4) :
    Calls Tryd.prog 6 #[.int .i64 a0, .int .i64 a1] w fun e w' => e = .returned (.bool true) ∧ Grown w w' := by
  have p := Cal.pk_lo a1 (show (0 : Int) < 50 by omega)
  have q := Cal.pk_hi a1 (show (0 : Int) < 50 by omega)
  obtain ⟨k, hk⟩ : ∃ x, Cal.pk a1 50 = x - 1 := ⟨Cal.pk a1 50 + 1, by omega⟩
  have sk : 1 + (k - 1) = k := by omega
  have k1 : 1 ≤ k := by omega
  have k2 : k ≤ 50 := by omega
  clear p q
  have F : Cal.dayF 2 0 1 = 2 := by
    unfold Cal.dayF
    repeat' split
    all_goals omega
  have E : Cal.findE 2000 1 2 0 1 = 2 := (Cal.findE_day (y := 2000) (m := 1) (show Cal.dayF 2 0 1 ≠ 0 by omega)).1.trans F
  have G : Cal.findE 2000 2 1 0 30 = 2 := by decide
  have hn : ¬ Cal.Day (2100 + k) 1 1 := fun h => by have := h.y2; omega
  have hd : ¬ (1899 ≤ (2000 : Int) ∧ (2000 : Int) ≤ 2100 ∧ 1 ≤ 12 + k ∧ 12 + k ≤ 12) := by omega
  go_enter Tryd.func6, Tryd.ntmps6
  go_upto_region 5 with (go_at_call 7; refine (picked_any _ _ _ (by assumption) (by omega) (by omega)).mono ?_; rintro e v1 ⟨rfl, hw⟩; subst v1)
  generalize hV : World.alloc (World.alloc w _) _ = V
  have hG : Grown w V := by rw [← hV]; exact ((Grown.refl _).alloc _ _).alloc _ _
  have hO : V.cell? ⟨w.heap.size, 12, none⟩ = some (.int .i64 2) ∧ V.cell? ⟨w.heap.size, 13, none⟩ = some (.int .i64 0) ∧ V.cell? ⟨w.heap.size, 14, none⟩ = some (.int .i64 1) ∧ V.cell? ⟨w.heap.size + 1, 4, none⟩ = some (.int .i64 2) := by rw [← hV]; simp [go_sem]
  clear hV hi hk sk
  go_upto_region 9 with (first
    | (go_at_call 11; refine (find_any _ _ _ _ _ _ (hT.grown hG)).mono ?_; rintro e v1 ⟨rfl, hg1⟩; replace hO := cellsAt hg1 hO; replace hG := Grown_trans hG hg1; clear hg1)
    | (go_at_call 8; refine (number_no _ _ _ _ (hT.grown hG) hn).mono ?_; rintro e v1 ⟨rfl, hg1⟩; replace hO := cellsAt hg1 hO; replace hG := Grown_trans hG hg1; clear hg1)
    | (go_at_call 9; refine (days_no _ _ _ hd).mono ?_; rintro e v1 ⟨rfl, hw⟩; subst v1))
  clear hn hd E G hT
  go_region_held3 (fun w' => w'.cell? ⟨w.heap.size, 12, none⟩ = some (.int .i64 2) ∧ w'.cell? ⟨w.heap.size, 13, none⟩ = some (.int .i64 0) ∧ w'.cell? ⟨w.heap.size, 14, none⟩ = some (.int .i64 1) ∧ w'.cell? ⟨w.heap.size + 1, 4, none⟩ = some (.int .i64 2)) (first | exact hO | exact cellsAt (Grown.refl _).drew hO | exact cellsAt ((Grown.refl _).alloc _ _).drew hO)
    (first | (go_at_call 14; refine (checkDay_box _ _ _ _).mono ?_; rintro e v1 ⟨rfl, hw⟩; subst v1))
  go_wp2
  go_ret
  exact ⟨rfl, (hG.alloc _ _).drew⟩
set_option maxRecDepth 20000 in
set_option maxHeartbeats 3200000 in
theorem civilBad_5 (a0 a1 : Int) (w0 : wfi a0) (w1 : wfi a1) (w : World) (hT : Tab w) (hi : Cal.pk a0 8 = 5) :
    Calls Tryd.prog 6 #[.int .i64 a0, .int .i64 a1] w fun e w' => e = .returned (.bool true) ∧ Grown w w' := by
  have p := Cal.pk_lo a1 (show (0 : Int) < 50 by omega)
  have q := Cal.pk_hi a1 (show (0 : Int) < 50 by omega)
  obtain ⟨k, hk⟩ : ∃ x, Cal.pk a1 50 = x - 1 := ⟨Cal.pk a1 50 + 1, by omega⟩
  have sk : 1 + (k - 1) = k := by omega
  have k1 : 1 ≤ k := by omega
  have k2 : k ≤ 50 := by omega
  clear p q
  have F : Cal.dayF 3 (6 + k) 1 = 2 := by
    unfold Cal.dayF
    repeat' split
    all_goals omega
  have E : Cal.findE 2000 1 3 (6 + k) 1 = 2 := (Cal.findE_day (y := 2000) (m := 1) (show Cal.dayF 3 (6 + k) 1 ≠ 0 by omega)).1.trans F
  have G : Cal.findE 2000 2 1 0 30 = 2 := by decide
  have hn : ¬ Cal.Day (2100 + k) 1 1 := fun h => by have := h.y2; omega
  have hd : ¬ (1899 ≤ (2000 : Int) ∧ (2000 : Int) ≤ 2100 ∧ 1 ≤ 12 + k ∧ 12 + k ≤ 12) := by omega
  go_enter Tryd.func6, Tryd.ntmps6
  go_upto_region 5 with (go_at_call 7; refine (picked_any _ _ _ (by assumption) (by omega) (by omega)).mono ?_; rintro e v1 ⟨rfl, hw⟩; subst v1)
  generalize hV : World.alloc (World.alloc w _) _ = V
  have hG : Grown w V := by rw [← hV]; exact ((Grown.refl _).alloc _ _).alloc _ _
  have hO : V.cell? ⟨w.heap.size, 15, none⟩ = some (.int .i64 3) ∧ V.cell? ⟨w.heap.size, 16, none⟩ = some (.int .i64 (6 + k)) ∧ V.cell? ⟨w.heap.size, 17, none⟩ = some (.int .i64 1) ∧ V.cell? ⟨w.heap.size + 1, 5, none⟩ = some (.int .i64 2) := by rw [← hV]; simp [go_sem]
  clear hV hi hk sk
  go_upto_region 9 with (first
    | (go_at_call 11; refine (find_any _ _ _ _ _ _ (hT.grown hG)).mono ?_; rintro e v1 ⟨rfl, hg1⟩; replace hO := cellsAt hg1 hO; replace hG := Grown_trans hG hg1; clear hg1)
    | (go_at_call 8; refine (number_no _ _ _ _ (hT.grown hG) hn).mono ?_; rintro e v1 ⟨rfl, hg1⟩; replace hO := cellsAt hg1 hO; replace hG := Grown_trans hG hg1; clear hg1)
    | (go_at_call 9; refine (days_no _ _ _ hd).mono ?_; rintro e v1 ⟨rfl, hw⟩; subst v1))
  clear hn hd E G hT
  go_region_held3 (fun w' => w'.cell? ⟨w.heap.size, 15, none⟩ = some (.int .i64 3) ∧ w'.cell? ⟨w.heap.size, 16, none⟩ = some (.int .i64 (6 + k)) ∧ w'.cell? ⟨w.heap.size, 17, none⟩ = some (.int .i64 1) ∧ w'.cell? ⟨w.heap.size + 1, 5, none⟩ = some (.int .i64 2)) (first | exact hO | exact cellsAt (Grown.refl _).drew hO | exact cellsAt ((Grown.refl _).alloc _ _).drew hO)
    (first | (go_at_call 14; refine (checkDay_box _ _ _ _).mono ?_; rintro e v1 ⟨rfl, hw⟩; subst v1))
  go_wp2
  go_ret
  exact ⟨rfl, (hG.alloc _ _).drew⟩
set_option maxRecDepth 20000 in
set_option maxHeartbeats 3200000 in
theorem civilBad_6 (a0 a1 : Int) (w0 : wfi a0) (w1 : wfi a1) (w : World) (hT : Tab w) (hi : Cal.pk a0 8 = 6) :
    Calls Tryd.prog 6 #[.int .i64 a0, .int .i64 a1] w fun e w' => e = .returned (.bool true) ∧ Grown w w' := by
  have p := Cal.pk_lo a1 (show (0 : Int) < 50 by omega)
  have q := Cal.pk_hi a1 (show (0 : Int) < 50 by omega)
  obtain ⟨k, hk⟩ : ∃ x, Cal.pk a1 50 = x - 1 := ⟨Cal.pk a1 50 + 1, by omega⟩
  have sk : 1 + (k - 1) = k := by omega
  have k1 : 1 ≤ k := by omega
  have k2 : k ≤ 50 := by omega
  clear p q
  have F : Cal.dayF 4 (-k) 1 = 2 := by
    unfold Cal.dayF
    repeat' split
    all_goals omega
  have E : Cal.findE 2000 1 4 (-k) 1 = 2 := (Cal.findE_day (y := 2000) (m := 1) (show Cal.dayF 4 (-k) 1 ≠ 0 by omega)).1.trans F
  have G : Cal.findE 2000 2 1 0 30 = 2 := by decide
  have hn : ¬ Cal.Day (2100 + k) 1 1 := fun h => by have := h.y2; omega
  have hd : ¬ (1899 ≤ (2000 : Int) ∧ (2000 : Int) ≤ 2100 ∧ 1 ≤ 12 + k ∧ 12 + k ≤ 12) := by omega
  go_enter Tryd.func6, Tryd.ntmps6
  go_upto_region 5 with (go_at_call 7; refine (picked_any _ _ _ (by assumption) (by omega) (by omega)).mono ?_; rintro e v1 ⟨rfl, hw⟩; subst v1)
  generalize hV : World.alloc (World.alloc w _) _ = V
  have hG : Grown w V := by rw [← hV]; exact ((Grown.refl _).alloc _ _).alloc _ _
  have hO : V.cell? ⟨w.heap.size, 18, none⟩ = some (.int .i64 4) ∧ V.cell? ⟨w.heap.size, 19, none⟩ = some (.int .i64 (-k)) ∧ V.cell? ⟨w.heap.size, 20, none⟩ = some (.int .i64 1) ∧ V.cell? ⟨w.heap.size + 1, 6, none⟩ = some (.int .i64 2) := by rw [← hV]; simp [go_sem]
  clear hV hi hk sk
  go_upto_region 9 with (first
    | (go_at_call 11; refine (find_any _ _ _ _ _ _ (hT.grown hG)).mono ?_; rintro e v1 ⟨rfl, hg1⟩; replace hO := cellsAt hg1 hO; replace hG := Grown_trans hG hg1; clear hg1)
    | (go_at_call 8; refine (number_no _ _ _ _ (hT.grown hG) hn).mono ?_; rintro e v1 ⟨rfl, hg1⟩; replace hO := cellsAt hg1 hO; replace hG := Grown_trans hG hg1; clear hg1)
    | (go_at_call 9; refine (days_no _ _ _ hd).mono ?_; rintro e v1 ⟨rfl, hw⟩; subst v1))
  clear hn hd E G hT
  go_region_held3 (fun w' => w'.cell? ⟨w.heap.size, 18, none⟩ = some (.int .i64 4) ∧ w'.cell? ⟨w.heap.size, 19, none⟩ = some (.int .i64 (-k)) ∧ w'.cell? ⟨w.heap.size, 20, none⟩ = some (.int .i64 1) ∧ w'.cell? ⟨w.heap.size + 1, 6, none⟩ = some (.int .i64 2)) (first | exact hO | exact cellsAt (Grown.refl _).drew hO | exact cellsAt ((Grown.refl _).alloc _ _).drew hO)
    (first | (go_at_call 14; refine (checkDay_box _ _ _ _).mono ?_; rintro e v1 ⟨rfl, hw⟩; subst v1))
  go_wp2
  go_ret
  exact ⟨rfl, (hG.alloc _ _).drew⟩
set_option maxRecDepth 20000 in
set_option maxHeartbeats 3200000 in
theorem civilBad_7 (a0 a1 : Int) (w0 : wfi a0) (w1 : wfi a1) (w : World) (hT : Tab w) (hi : Cal.pk a0 8 = 7) :
    Calls Tryd.prog 6 #[.int .i64 a0, .int .i64 a1] w fun e w' => e = .returned (.bool true) ∧ Grown w w' := by
  have p := Cal.pk_lo a1 (show (0 : Int) < 50 by omega)
  have q := Cal.pk_hi a1 (show (0 : Int) < 50 by omega)
  obtain ⟨k, hk⟩ : ∃ x, Cal.pk a1 50 = x - 1 := ⟨Cal.pk a1 50 + 1, by omega⟩
  have sk : 1 + (k - 1) = k := by omega
  have k1 : 1 ≤ k := by omega
  have k2 : k ≤ 50 := by omega
  clear p q
  have F : Cal.dayF 3 0 0 = 2 := by
    unfold Cal.dayF
    repeat' split
    all_goals omega
  have E : Cal.findE 2000 1 3 0 0 = 2 := (Cal.findE_day (y := 2000) (m := 1) (show Cal.dayF 3 0 0 ≠ 0 by omega)).1.trans F
  have G : Cal.findE 2000 2 1 0 30 = 2 := by decide
  have hn : ¬ Cal.Day (2100 + k) 1 1 := fun h => by have := h.y2; omega
  have hd : ¬ (1899 ≤ (2000 : Int) ∧ (2000 : Int) ≤ 2100 ∧ 1 ≤ 12 + k ∧ 12 + k ≤ 12) := by omega
  go_enter Tryd.func6, Tryd.ntmps6
  go_upto_region 5 with (go_at_call 7; refine (picked_any _ _ _ (by assumption) (by omega) (by omega)).mono ?_; rintro e v1 ⟨rfl, hw⟩; subst v1)
  generalize hV : World.alloc (World.alloc w _) _ = V
  have hG : Grown w V := by rw [← hV]; exact ((Grown.refl _).alloc _ _).alloc _ _
  have hO : V.cell? ⟨w.heap.size, 21, none⟩ = some (.int .i64 3) ∧ V.cell? ⟨w.heap.size, 22, none⟩ = some (.int .i64 0) ∧ V.cell? ⟨w.heap.size, 23, none⟩ = some (.int .i64 0) ∧ V.cell? ⟨w.heap.size + 1, 7, none⟩ = some (.int .i64 2) := by rw [← hV]; simp [go_sem]
  clear hV hi hk sk
  go_upto_region 9 with (first
    | (go_at_call 11; refine (find_any _ _ _ _ _ _ (hT.grown hG)).mono ?_; rintro e v1 ⟨rfl, hg1⟩; replace hO := cellsAt hg1 hO; replace hG := Grown_trans hG hg1; clear hg1)
    | (go_at_call 8; refine (number_no _ _ _ _ (hT.grown hG) hn).mono ?_; rintro e v1 ⟨rfl, hg1⟩; replace hO := cellsAt hg1 hO; replace hG := Grown_trans hG hg1; clear hg1)
    | (go_at_call 9; refine (days_no _ _ _ hd).mono ?_; rintro e v1 ⟨rfl, hw⟩; subst v1))
  clear hn hd E G hT
  go_region_held3 (fun w' => w'.cell? ⟨w.heap.size, 21, none⟩ = some (.int .i64 3) ∧ w'.cell? ⟨w.heap.size, 22, none⟩ = some (.int .i64 0) ∧ w'.cell? ⟨w.heap.size, 23, none⟩ = some (.int .i64 0) ∧ w'.cell? ⟨w.heap.size + 1, 7, none⟩ = some (.int .i64 2)) (first | exact hO | exact cellsAt (Grown.refl _).drew hO | exact cellsAt ((Grown.refl _).alloc _ _).drew hO)
    (first | (go_at_call 14; refine (checkDay_box _ _ _ _).mono ?_; rintro e v1 ⟨rfl, hw⟩; subst v1))
  go_wp2
  go_ret
  exact ⟨rfl, (hG.alloc _ _).drew⟩
end Go.Proofs.YtgncfbckgbkpcacDoor
