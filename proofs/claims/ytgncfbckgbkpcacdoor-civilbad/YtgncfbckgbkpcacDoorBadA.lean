/- The law CivilBad, at the first four of its eight ways. -/
import Derived.Test.YtgncfbckgbkpcacDoorMath
import Derived.Test.YtgncfbckgbkpcacDoorPlain
import Derived.Test.YtgncfbckgbkpcacDoorYear
import Derived.Test.YtgncfbckgbkpcacDoorLaid
import Derived.Test.YtgncfbckgbkpcacDoorBoxes
import Derived.Test.YtgncfbckgbkpcacDoorFind
import Derived.Test.YtgncfbckgbkpcacDoorShapes
import Derived.WalkKit
import Derived.ProofKit
import Derived.OpenShut
import Derived.Deep.DeepHandedRow
import Derived.Lib.LaidTab
import Derived.Deep.Cut
import Derived.Deep.RegionHeld3
namespace Go.Proofs.YtgncfbckgbkpcacDoor
open Go.ChangeShapes Go.WideShapes Go.ChangeAt Go.RowKit
set_option linter.unusedVariables false

theorem checkDay_box (k d n : Int) (w : World) :
    Calls Tryd.prog 14 #[.agg #[.int .i64 k, .int .i64 d, .int .i64 n]] w fun e w' => e = .returned (.int .i64 (Cal.dayF k d n)) ∧ w' = w.alloc (.cells #[.int .i64 k, .int .i64 d, .int .i64 n] 30) := by
  unfold Cal.dayF
  by_cases h1 : k = 1
  · subst h1
    go_enter Tryd.func14, Tryd.ntmps14
    go_wp2
    all_goals
      go_ret
      exact ⟨ret_int (by simp <;> omega), rfl⟩
  by_cases h2 : k = 2
  · subst h2
    go_enter Tryd.func14, Tryd.ntmps14
    go_wp2
    all_goals
      go_ret
      exact ⟨ret_int (by simp <;> omega), rfl⟩
  by_cases h3 : k = 3
  · subst h3
    go_enter Tryd.func14, Tryd.ntmps14
    go_wp2
    all_goals
      go_ret
      exact ⟨ret_int (by simp <;> omega), rfl⟩
  by_cases h4 : k = 4
  · subst h4
    go_enter Tryd.func14, Tryd.ntmps14
    go_wp2
    all_goals
      go_ret
      exact ⟨ret_int (by simp <;> omega), rfl⟩
  rw [if_neg h1, if_neg h2, if_neg (by omega)]
  go_enter Tryd.func14, Tryd.ntmps14
  go_wp2
  go_ret
  exact ⟨rfl, rfl⟩
theorem cellsAt {W w1 : World} {b c o1 o2 o3 j : Nat} {x y z u : Value} (hg : Grown W w1) (h : W.cell? ⟨b, o1, none⟩ = some x ∧ W.cell? ⟨b, o2, none⟩ = some y ∧ W.cell? ⟨b, o3, none⟩ = some z ∧ W.cell? ⟨c, j, none⟩ = some u) :
    w1.cell? ⟨b, o1, none⟩ = some x ∧ w1.cell? ⟨b, o2, none⟩ = some y ∧ w1.cell? ⟨b, o3, none⟩ = some z ∧ w1.cell? ⟨c, j, none⟩ = some u :=
  ⟨(Grown_cell hg _ _ (cell_lt h.1)).trans h.1, (Grown_cell hg _ _ (cell_lt h.1)).trans h.2.1, (Grown_cell hg _ _ (cell_lt h.1)).trans h.2.2.1, (Grown_cell hg _ _ (cell_lt h.2.2.2)).trans h.2.2.2⟩
set_option maxRecDepth 20000 in
set_option maxHeartbeats 3200000 in
theorem civilBad_0 (a0 a1 : Int) (w0 : wfi a0) (w1 : wfi a1) (w : World) (hT : Tab w) (hi : Cal.pk a0 8 = 0) :
    Calls Tryd.prog 6 #[.int .i64 a0, .int .i64 a1] w fun e w' => e = .returned (.bool true) ∧ Grown w w' := by
  have p := Cal.pk_lo a1 (show (0 : Int) < 50 by omega)
  have q := Cal.pk_hi a1 (show (0 : Int) < 50 by omega)
  obtain ⟨k, hk⟩ : ∃ x, Cal.pk a1 50 = x - 1 := ⟨Cal.pk a1 50 + 1, by omega⟩
  have sk : 1 + (k - 1) = k := by omega
  have k1 : 1 ≤ k := by omega
  have k2 : k ≤ 50 := by omega
  clear p q
  have F : Cal.dayF 0 0 0 = 3 := by
    unfold Cal.dayF
    repeat' split
    all_goals omega
  have E : Cal.findE 2000 1 0 0 0 = 3 := (Cal.findE_day (y := 2000) (m := 1) (show Cal.dayF 0 0 0 ≠ 0 by omega)).1.trans F
  have G : Cal.findE 2000 2 1 0 30 = 2 := by decide
  have hn : ¬ Cal.Day (2100 + k) 1 1 := fun h => by have := h.y2; omega
  have hd : ¬ (1899 ≤ (2000 : Int) ∧ (2000 : Int) ≤ 2100 ∧ 1 ≤ 12 + k ∧ 12 + k ≤ 12) := by omega
  go_enter Tryd.func6, Tryd.ntmps6
  go_upto_region 5 with (go_at_call 7; refine (picked_any _ _ _ (by assumption) (by omega) (by omega)).mono ?_; rintro e v1 ⟨rfl, hw⟩; subst v1)
  generalize hV : World.alloc (World.alloc w _) _ = V
  have hG : Grown w V := by rw [← hV]; exact ((Grown.refl _).alloc _ _).alloc _ _
  have hO : V.cell? ⟨w.heap.size, 0, none⟩ = some (.int .i64 0) ∧ V.cell? ⟨w.heap.size, 1, none⟩ = some (.int .i64 0) ∧ V.cell? ⟨w.heap.size, 2, none⟩ = some (.int .i64 0) ∧ V.cell? ⟨w.heap.size + 1, 0, none⟩ = some (.int .i64 3) := by rw [← hV]; simp [go_sem]
  clear hV hi hk sk
  go_upto_region 9 with (first
    | (go_at_call 11; refine (find_any _ _ _ _ _ _ (hT.grown hG)).mono ?_; rintro e v1 ⟨rfl, hg1⟩; replace hO := cellsAt hg1 hO; replace hG := Grown_trans hG hg1; clear hg1)
    | (go_at_call 8; refine (number_no _ _ _ _ (hT.grown hG) hn).mono ?_; rintro e v1 ⟨rfl, hg1⟩; replace hO := cellsAt hg1 hO; replace hG := Grown_trans hG hg1; clear hg1)
    | (go_at_call 9; refine (days_no _ _ _ hd).mono ?_; rintro e v1 ⟨rfl, hw⟩; subst v1))
  clear hn hd E G hT
  go_region_held3 (fun w' => w'.cell? ⟨w.heap.size, 0, none⟩ = some (.int .i64 0) ∧ w'.cell? ⟨w.heap.size, 1, none⟩ = some (.int .i64 0) ∧ w'.cell? ⟨w.heap.size, 2, none⟩ = some (.int .i64 0) ∧ w'.cell? ⟨w.heap.size + 1, 0, none⟩ = some (.int .i64 3)) (first | exact hO | exact cellsAt (Grown.refl _).drew hO | exact cellsAt ((Grown.refl _).alloc _ _).drew hO)
    (first | (go_at_call 14; refine (checkDay_box _ _ _ _).mono ?_; rintro e v1 ⟨rfl, hw⟩; subst v1))
  go_wp2
  go_ret
  exact ⟨rfl, (hG.alloc _ _).drew⟩
set_option maxRecDepth 20000 in
set_option maxHeartbeats 3200000 in
theorem civilBad_1 (a0 a1 : Int) (w0 : wfi a0) (w1 : wfi a1) (w : World) (hT : Tab w) (hi : Cal.pk a0 8 = 1) :
    Calls Tryd.prog 6 #[.int .i64 a0, .int .i64 a1] w fun e w' => e = .returned (.bool true) ∧ Grown w w' := by
  have p := Cal.pk_lo a1 (show (0 : Int) < 50 by omega)
  have q := Cal.pk_hi a1 (show (0 : Int) < 50 by omega)
  obtain ⟨k, hk⟩ : ∃ x, Cal.pk a1 50 = x - 1 := ⟨Cal.pk a1 50 + 1, by omega⟩
  have sk : 1 + (k - 1) = k := by omega
  have k1 : 1 ≤ k := by omega
  have k2 : k ≤ 50 := by omega
  clear p q
  have F : Cal.dayF (4 + k) 0 0 = 3 := by
    unfold Cal.dayF
    repeat' split
    all_goals omega
  have E : Cal.findE 2000 1 (4 + k) 0 0 = 3 := (Cal.findE_day (y := 2000) (m := 1) (show Cal.dayF (4 + k) 0 0 ≠ 0 by omega)).1.trans F
  have G : Cal.findE 2000 2 1 0 30 = 2 := by decide
  have hn : ¬ Cal.Day (2100 + k) 1 1 := fun h => by have := h.y2; omega
  have hd : ¬ (1899 ≤ (2000 : Int) ∧ (2000 : Int) ≤ 2100 ∧ 1 ≤ 12 + k ∧ 12 + k ≤ 12) := by omega
  go_enter Tryd.func6, Tryd.ntmps6
  go_upto_region 5 with (go_at_call 7; refine (picked_any _ _ _ (by assumption) (by omega) (by omega)).mono ?_; rintro e v1 ⟨rfl, hw⟩; subst v1)
  generalize hV : World.alloc (World.alloc w _) _ = V
  have hG : Grown w V := by rw [← hV]; exact ((Grown.refl _).alloc _ _).alloc _ _
  have hO : V.cell? ⟨w.heap.size, 3, none⟩ = some (.int .i64 (4 + k)) ∧ V.cell? ⟨w.heap.size, 4, none⟩ = some (.int .i64 0) ∧ V.cell? ⟨w.heap.size, 5, none⟩ = some (.int .i64 0) ∧ V.cell? ⟨w.heap.size + 1, 1, none⟩ = some (.int .i64 3) := by rw [← hV]; simp [go_sem]
  clear hV hi hk sk
  go_upto_region 9 with (first
    | (go_at_call 11; refine (find_any _ _ _ _ _ _ (hT.grown hG)).mono ?_; rintro e v1 ⟨rfl, hg1⟩; replace hO := cellsAt hg1 hO; replace hG := Grown_trans hG hg1; clear hg1)
    | (go_at_call 8; refine (number_no _ _ _ _ (hT.grown hG) hn).mono ?_; rintro e v1 ⟨rfl, hg1⟩; replace hO := cellsAt hg1 hO; replace hG := Grown_trans hG hg1; clear hg1)
    | (go_at_call 9; refine (days_no _ _ _ hd).mono ?_; rintro e v1 ⟨rfl, hw⟩; subst v1))
  clear hn hd E G hT
  go_region_held3 (fun w' => w'.cell? ⟨w.heap.size, 3, none⟩ = some (.int .i64 (4 + k)) ∧ w'.cell? ⟨w.heap.size, 4, none⟩ = some (.int .i64 0) ∧ w'.cell? ⟨w.heap.size, 5, none⟩ = some (.int .i64 0) ∧ w'.cell? ⟨w.heap.size + 1, 1, none⟩ = some (.int .i64 3)) (first | exact hO | exact cellsAt (Grown.refl _).drew hO | exact cellsAt ((Grown.refl _).alloc _ _).drew hO)
    (first | (go_at_call 14; refine (checkDay_box _ _ _ _).mono ?_; rintro e v1 ⟨rfl, hw⟩; subst v1))
  go_wp2
  go_ret
  exact ⟨rfl, (hG.alloc _ _).drew⟩
set_option maxRecDepth 20000 in
set_option maxHeartbeats 3200000 in
theorem civilBad_2 (a0 a1 : Int) (w0 : wfi a0) (w1 : wfi a1) (w : World) (hT : Tab w) (hi : Cal.pk a0 8 = 2) :
    Calls Tryd.prog 6 #[.int .i64 a0, .int .i64 a1] w fun e w' => e = .returned (.bool true) ∧ Grown w w' := by
  have p := Cal.pk_lo a1 (show (0 : Int) < 50 by omega)
  have q := Cal.pk_hi a1 (show (0 : Int) < 50 by omega)
  obtain ⟨k, hk⟩ : ∃ x, Cal.pk a1 50 = x - 1 := ⟨Cal.pk a1 50 + 1, by omega⟩
  have sk : 1 + (k - 1) = k := by omega
  have k1 : 1 ≤ k := by omega
  have k2 : k ≤ 50 := by omega
  clear p q
  have F : Cal.dayF 1 0 (31 + k) = 2 := by
    unfold Cal.dayF
    repeat' split
    all_goals omega
  have E : Cal.findE 2000 1 1 0 (31 + k) = 2 := (Cal.findE_day (y := 2000) (m := 1) (show Cal.dayF 1 0 (31 + k) ≠ 0 by omega)).1.trans F
  have G : Cal.findE 2000 2 1 0 30 = 2 := by decide
  have hn : ¬ Cal.Day (2100 + k) 1 1 := fun h => by have := h.y2; omega
  have hd : ¬ (1899 ≤ (2000 : Int) ∧ (2000 : Int) ≤ 2100 ∧ 1 ≤ 12 + k ∧ 12 + k ≤ 12) := by omega
  go_enter Tryd.func6, Tryd.ntmps6
  go_upto_region 5 with (go_at_call 7; refine (picked_any _ _ _ (by assumption) (by omega) (by omega)).mono ?_; rintro e v1 ⟨rfl, hw⟩; subst v1)
  generalize hV : World.alloc (World.alloc w _) _ = V
  have hG : Grown w V := by rw [← hV]; exact ((Grown.refl _).alloc _ _).alloc _ _
  have hO : V.cell? ⟨w.heap.size, 6, none⟩ = some (.int .i64 1) ∧ V.cell? ⟨w.heap.size, 7, none⟩ = some (.int .i64 0) ∧ V.cell? ⟨w.heap.size, 8, none⟩ = some (.int .i64 (31 + k)) ∧ V.cell? ⟨w.heap.size + 1, 2, none⟩ = some (.int .i64 2) := by rw [← hV]; simp [go_sem]
  clear hV hi hk sk
  go_upto_region 9 with (first
    | (go_at_call 11; refine (find_any _ _ _ _ _ _ (hT.grown hG)).mono ?_; rintro e v1 ⟨rfl, hg1⟩; replace hO := cellsAt hg1 hO; replace hG := Grown_trans hG hg1; clear hg1)
    | (go_at_call 8; refine (number_no _ _ _ _ (hT.grown hG) hn).mono ?_; rintro e v1 ⟨rfl, hg1⟩; replace hO := cellsAt hg1 hO; replace hG := Grown_trans hG hg1; clear hg1)
    | (go_at_call 9; refine (days_no _ _ _ hd).mono ?_; rintro e v1 ⟨rfl, hw⟩; subst v1))
  clear hn hd E G hT
  go_region_held3 (fun w' => w'.cell? ⟨w.heap.size, 6, none⟩ = some (.int .i64 1) ∧ w'.cell? ⟨w.heap.size, 7, none⟩ = some (.int .i64 0) ∧ w'.cell? ⟨w.heap.size, 8, none⟩ = some (.int .i64 (31 + k)) ∧ w'.cell? ⟨w.heap.size + 1, 2, none⟩ = some (.int .i64 2)) (first | exact hO | exact cellsAt (Grown.refl _).drew hO | exact cellsAt ((Grown.refl _).alloc _ _).drew hO)
    (first | (go_at_call 14; refine (checkDay_box _ _ _ _).mono ?_; rintro e v1 ⟨rfl, hw⟩; subst v1))
  go_wp2
  go_ret
  exact ⟨rfl, (hG.alloc _ _).drew⟩
set_option maxRecDepth 20000 in
set_option maxHeartbeats 3200000 in
theorem civilBad_3 (a0 a1 : Int) (w0 : wfi a0) (w1 : wfi a1) (w : World) (hT : Tab w) (hi : Cal.pk a0 8 = 3) :
    Calls Tryd.prog 6 #[.int .i64 a0, .int .i64 a1] w fun e w' => e = .returned (.bool true) ∧ Grown w w' := by
  have p := Cal.pk_lo a1 (show (0 : Int) < 50 by omega)
  have q := Cal.pk_hi a1 (show (0 : Int) < 50 by omega)
  obtain ⟨k, hk⟩ : ∃ x, Cal.pk a1 50 = x - 1 := ⟨Cal.pk a1 50 + 1, by omega⟩
  have sk : 1 + (k - 1) = k := by omega
  have k1 : 1 ≤ k := by omega
  have k2 : k ≤ 50 := by omega
  clear p q
  have F : Cal.dayF 1 1 (k % 31) = 2 := by
    unfold Cal.dayF
    repeat' split
    all_goals omega
  have E : Cal.findE 2000 1 1 1 (k % 31) = 2 := (Cal.findE_day (y := 2000) (m := 1) (show Cal.dayF 1 1 (k % 31) ≠ 0 by omega)).1.trans F
  have G : Cal.findE 2000 2 1 0 30 = 2 := by decide
  have hn : ¬ Cal.Day (2100 + k) 1 1 := fun h => by have := h.y2; omega
  have hd : ¬ (1899 ≤ (2000 : Int) ∧ (2000 : Int) ≤ 2100 ∧ 1 ≤ 12 + k ∧ 12 + k ≤ 12) := by omega
  go_enter Tryd.func6, Tryd.ntmps6
  go_upto_region 5 with (go_at_call 7; refine (picked_any _ _ _ (by assumption) (by omega) (by omega)).mono ?_; rintro e v1 ⟨rfl, hw⟩; subst v1)
  generalize hV : World.alloc (World.alloc w _) _ = V
  have hG : Grown w V := by rw [← hV]; exact ((Grown.refl _).alloc _ _).alloc _ _
  have hO : V.cell? ⟨w.heap.size, 9, none⟩ = some (.int .i64 1) ∧ V.cell? ⟨w.heap.size, 10, none⟩ = some (.int .i64 1) ∧ V.cell? ⟨w.heap.size, 11, none⟩ = some (.int .i64 (k % 31)) ∧ V.cell? ⟨w.heap.size + 1, 3, none⟩ = some (.int .i64 2) := by rw [← hV]; simp [go_sem]
  clear hV hi hk sk
  go_upto_region 9 with (first
    | (go_at_call 11; refine (find_any _ _ _ _ _ _ (hT.grown hG)).mono ?_; rintro e v1 ⟨rfl, hg1⟩; replace hO := cellsAt hg1 hO; replace hG := Grown_trans hG hg1; clear hg1)
    | (go_at_call 8; refine (number_no _ _ _ _ (hT.grown hG) hn).mono ?_; rintro e v1 ⟨rfl, hg1⟩; replace hO := cellsAt hg1 hO; replace hG := Grown_trans hG hg1; clear hg1)
    | (go_at_call 9; refine (days_no _ _ _ hd).mono ?_; rintro e v1 ⟨rfl, hw⟩; subst v1))
  clear hn hd E G hT
  go_region_held3 (fun w' => w'.cell? ⟨w.heap.size, 9, none⟩ = some (.int .i64 1) ∧ w'.cell? ⟨w.heap.size, 10, none⟩ = some (.int .i64 1) ∧ w'.cell? ⟨w.heap.size, 11, none⟩ = some (.int .i64 (k % 31)) ∧ w'.cell? ⟨w.heap.size + 1, 3, none⟩ = some (.int .i64 2)) (first | exact hO | exact cellsAt (Grown.refl _).drew hO | exact cellsAt ((Grown.refl _).alloc _ _).drew hO)
    (first | (go_at_call 14; refine (checkDay_box _ _ _ _).mono ?_; rintro e v1 ⟨rfl, hw⟩; subst v1))
  go_wp2
  go_ret
  exact ⟨rfl, (hG.alloc _ _).drew⟩
end Go.Proofs.YtgncfbckgbkpcacDoor
