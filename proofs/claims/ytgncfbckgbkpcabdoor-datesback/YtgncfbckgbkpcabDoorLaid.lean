/- Contracts of the functions of package civil that read the table daysAhead, for every world in which the table holds what its initialiser lays. -/
import Derived.Test.YtgncfbckgbkpcabDoorMath
import Derived.Test.YtgncfbckgbkpcabDoorRows
import Derived.Test.YtgncfbckgbkpcabDoorPlain
import Derived.Test.YtgncfbckgbkpcabDoorYear
import Derived.WalkKit
import Derived.ProofKit
import Derived.OpenShut
import Derived.Deep.QuietTactic
import Derived.BigQuiet
namespace Go.Proofs.YtgncfbckgbkpcabDoor
open Go.ChangeShapes Go.WideShapes Go.ChangeAt Go.RowKit

theorem Grown_drewN (W : World) (n : Nat) : Grown W (W.drewN n) := Grown.refl W
/-- The table holds the days ahead of each month. -/
def Tab (w : World) : Prop := ∀ m : Int, 1 ≤ m → m ≤ 13 → w.cell? ⟨0, (m - 1).toNat, none⟩ = some (.int .i64 (Cal.tab m))
theorem Tab.size {w : World} (h : Tab w) : 0 < w.heap.size := by
  have e := h 1 (by omega) (by omega)
  rcases Nat.lt_or_ge 0 w.heap.size with g | g
  · exact g
  · have n : w.heap[0]? = none := Array.getElem?_eq_none g
    simp [World.cell?, n] at e
theorem Tab.grown {w w' : World} (h : Tab w) (hg : Grown w w') : Tab w' := fun m h1 h2 => (Grown_cell hg _ _ h.size).trans (h m h1 h2)
theorem Tab.alloc {w : World} (h : Tab w) (c : Array Value) (t : TypeId) : Tab (w.alloc (.cells c t)) := h.grown ((Grown.refl _).alloc _ _)
theorem cases13 {m : Int} (h : 1 ≤ m) (h' : m ≤ 13) : m = 1 ∨ m = 2 ∨ m = 3 ∨ m = 4 ∨ m = 5 ∨ m = 6 ∨ m = 7 ∨ m = 8 ∨ m = 9 ∨ m = 10 ∨ m = 11 ∨ m = 12 ∨ m = 13 := by omega
set_option maxHeartbeats 4000000 in
theorem mb_any (y m : Int) (w : World) (hT : Tab w) (h : 1 ≤ y) (h' : y ≤ 9999) (h1 : 1 ≤ m) (h2 : m ≤ 13) :
    Calls Tryd.prog 17 #[.int .i64 y, .int .i64 m] w fun e w' => e = .returned (.int .i64 (Cal.mb y m)) ∧ Grown w w' := by
  have hb := Cal.yb_bd (y := y) (by omega) (by omega)
  have hc := hT m h1 h2
  clear hT
  unfold Cal.mb Cal.lp
  by_cases hl : Cal.leapB y = true
  all_goals
    rcases cases13 h1 h2 with e | e | e | e | e | e | e | e | e | e | e | e | e <;> subst e <;> clear h1 h2 <;> simp [Cal.tab] at hc
  all_goals
    go_enter Tryd.func17, Tryd.ntmps17
    go_wp2
    go_quiet ((go_at_call 28; exact Calls.quiet_of_same (yb_any _ _ (by omega) (by omega))))
    go_wp2_with (go_at_call 29; refine (leap_any _ _).mono ?_; rintro e w' ⟨rfl, rfl⟩)
    go_ret
    exact ⟨ret_int (by simp [Cal.tab]), Grown_drewN _ _⟩
theorem days_yes (y m : Int) (w : World) (hT : Tab w) (h1 : 1899 ≤ y) (h2 : y ≤ 2100) (h3 : 1 ≤ m) (h4 : m ≤ 12) :
    Calls Tryd.prog 15 #[.int .i64 y, .int .i64 m] w fun e w' => e = .returned (.tuple #[.int .i64 (Cal.dim y m), .int .i64 0]) ∧ Grown w w' := by
  have hb := Cal.mb_bd (y := y) m (by omega) (by omega)
  have hb' := Cal.mb_bd (y := y) (m + 1) (by omega) (by omega)
  have hs : Hid (Cal.mb y (m + 1) = Cal.mb y m + Cal.dim y m) := Cal.mb_succ y h3 h4
  have hG : Grown w w := Grown.refl w
  go_enter Tryd.func15, Tryd.ntmps15
  go_wp2_with (go_at_call 17; refine (mb_any _ _ _ hT (by omega) (by omega) (by omega) (by omega)).mono ?_; rintro e w1 ⟨rfl, hg1⟩; replace hG := Grown_trans hG hg1; replace hT := hT.grown hg1; clear hg1)
  go_ret2
  exact ⟨ret2_int (by rw [hs.out]; omega) rfl, hG⟩
theorem days_no (y m : Int) (w : World) (h : ¬ (1899 ≤ y ∧ y ≤ 2100 ∧ 1 ≤ m ∧ m ≤ 12)) :
    Calls Tryd.prog 15 #[.int .i64 y, .int .i64 m] w fun e w' => e = .returned (.tuple #[.int .i64 0, .int .i64 2]) ∧ w' = w := by
  by_cases a : y < 1899
  · go_enter Tryd.func15, Tryd.ntmps15
    go_wp2
    go_ret2
    exact ⟨rfl, rfl⟩
  by_cases b : 2100 < y
  · go_enter Tryd.func15, Tryd.ntmps15
    go_wp2
    go_ret2
    exact ⟨rfl, rfl⟩
  by_cases c : m < 1
  · go_enter Tryd.func15, Tryd.ntmps15
    go_wp2
    go_ret2
    exact ⟨rfl, rfl⟩
  have d : 12 < m := by omega
  clear h
  go_enter Tryd.func15, Tryd.ntmps15
  go_wp2
  go_ret2
  exact ⟨rfl, rfl⟩
theorem number_yes (y m d : Int) (w : World) (hT : Tab w) (h : Cal.Day y m d) :
    Calls Tryd.prog 14 #[.int .i64 y, .int .i64 m, .int .i64 d] w fun e w' => e = .returned (.tuple #[.int .i64 (Cal.mb y m + d - 1), .int .i64 0]) ∧ Grown w w' := by
  obtain ⟨h1, h2, h3, h4, h5, h6⟩ := h
  have hb := Cal.mb_bd (y := y) m (by omega) (by omega)
  have hd := Cal.dim_hi y m
  have hG : Grown w w := Grown.refl w
  go_enter Tryd.func14, Tryd.ntmps14
  go_wp2_with (first | (go_at_call 17; refine (mb_any _ _ _ hT (by omega) (by omega) (by omega) (by omega)).mono ?_; rintro e w1 ⟨rfl, hg1⟩; replace hG := Grown_trans hG hg1; replace hT := hT.grown hg1; clear hg1) | (go_at_call 15; refine (days_yes _ _ _ hT (by omega) (by omega) (by omega) (by omega)).mono ?_; rintro e w1 ⟨rfl, hg1⟩; replace hG := Grown_trans hG hg1; replace hT := hT.grown hg1; clear hg1))
  go_ret2
  exact ⟨rfl, hG⟩
theorem number_no (y m d : Int) (w : World) (hT : Tab w) (h : ¬ Cal.Day y m d) :
    Calls Tryd.prog 14 #[.int .i64 y, .int .i64 m, .int .i64 d] w fun e w' => e = .returned (.tuple #[.int .i64 0, .int .i64 2]) ∧ Grown w w' := by
  have hG : Grown w w := Grown.refl w
  by_cases a : 1899 ≤ y ∧ y ≤ 2100 ∧ 1 ≤ m ∧ m ≤ 12
  · obtain ⟨h1, h2, h3, h4⟩ := a
    by_cases b : d < 1
    · clear h
      go_enter Tryd.func14, Tryd.ntmps14
      go_wp2_with (go_at_call 15; refine (days_yes _ _ _ hT (by omega) (by omega) (by omega) (by omega)).mono ?_; rintro e w1 ⟨rfl, hg1⟩; replace hG := Grown_trans hG hg1; replace hT := hT.grown hg1; clear hg1)
      go_ret2
      exact ⟨rfl, hG⟩
    · have c : Cal.dim y m < d := by
        by_cases g : Cal.dim y m < d
        · exact g
        · exact absurd ⟨h1, h2, h3, h4, by omega, by omega⟩ h
      clear h
      go_enter Tryd.func14, Tryd.ntmps14
      go_wp2_with (go_at_call 15; refine (days_yes _ _ _ hT (by omega) (by omega) (by omega) (by omega)).mono ?_; rintro e w1 ⟨rfl, hg1⟩; replace hG := Grown_trans hG hg1; replace hT := hT.grown hg1; clear hg1)
      go_ret2
      exact ⟨rfl, hG⟩
  · clear h
    go_enter Tryd.func14, Tryd.ntmps14
    go_wp2_with (go_at_call 15; refine (days_no _ _ _ a).mono ?_; rintro e w1 ⟨rfl, rfl⟩)
    go_ret2
    exact ⟨rfl, hG⟩
theorem date_no (n : Int) (w : World) (h : n < -25932 ∨ 47847 ≤ n) :
    Calls Tryd.prog 13 #[.int .i64 n] w fun e w' => e = .returned (.tuple #[.int .i64 0, .int .i64 0, .int .i64 0, .int .i64 2]) ∧ w' = w := by
  have q1 := Cal.yb_1899
  have q2 := Cal.yb_2101
  rcases h with h | h
  · go_enter Tryd.func13, Tryd.ntmps13
    go_wp2_with (go_at_call 28; refine (yb_any _ _ (by omega) (by omega)).mono ?_; rintro e w1 ⟨rfl, rfl⟩)
    exact bodyPost_ret (v := .tuple #[.int .i64 0, .int .i64 0, .int .i64 0, .int .i64 2]) (by simp [results, Tryd.results13, go_sem]) rfl ⟨rfl, rfl⟩
  · have h' : ¬ n < -25932 := by omega
    go_enter Tryd.func13, Tryd.ntmps13
    go_wp2_with (go_at_call 28; refine (yb_any _ _ (by omega) (by omega)).mono ?_; rintro e w1 ⟨rfl, rfl⟩)
    exact bodyPost_ret (v := .tuple #[.int .i64 0, .int .i64 0, .int .i64 0, .int .i64 2]) (by simp [results, Tryd.results13, go_sem]) rfl ⟨rfl, rfl⟩
set_option maxHeartbeats 1600000 in
theorem date_yes (n : Int) (w : World) (hT : Tab w) (h1 : -25932 ≤ n) (h2 : n < 47847) :
    Calls Tryd.prog 13 #[.int .i64 n] w fun e w' => ∃ y m d : Int, e = .returned (.tuple #[.int .i64 y, .int .i64 m, .int .i64 d, .int .i64 0]) ∧ Cal.Day y m d ∧ Cal.mb y m + d - 1 = n ∧ Grown w w' := by
  have q1 := Cal.yb_1899
  have q2 := Cal.yb_2101
  have g0 : Hid (Cal.yb (1899 + (n + 25932) / 366) ≤ n) := Cal.yb_guess h1 h2
  go_enter Tryd.func13, Tryd.ntmps13
  go_wp2_with (go_at_call 28; refine (yb_any _ _ (by omega) (by omega)).mono ?_; rintro e w1 ⟨rfl, rfl⟩)
  go_loop [7] (fun t => ∃ y : Int, 1899 ≤ y ∧ y ≤ 2100 ∧ Cal.yb y ≤ n ∧ t = .int .i64 y) (fun t => (2100 - intOf t).toNat)
  case atStart => exact ⟨_, by omega, by omega, g0.out, rfl⟩
  case round =>
    obtain ⟨y, hy1, hy2, hy3, rfl⟩ := hrel
    clear g0
    by_cases hc : Cal.yb (y + 1) ≤ n
    · have hlt : y < 2100 := by
        by_cases e : y = 2100
        · subst e; have e' : Cal.yb (2100 + 1) = 47847 := Cal.yb_2101; omega
        · omega
      go_wp2_with (go_at_call 28; refine (yb_any _ _ (by omega) (by omega)).mono ?_; rintro e w1 ⟨rfl, rfl⟩)
      go_round
      case rel => exact ⟨y + 1, by omega, by omega, hc, rfl⟩
      case measure => simp [intOf]; omega
    · have hG := Grown.refl w1
      go_wp2_with (go_at_call 28; refine (yb_any _ _ (by omega) (by omega)).mono ?_; rintro e w1 ⟨rfl, rfl⟩)
      go_loopw [8] (fun t wr => ∃ m : Int, 1 ≤ m ∧ m ≤ 12 ∧ Cal.mb y m ≤ n ∧ t = .int .i64 m ∧ Grown w1 wr ∧ Tab wr) (fun t _ => (12 - intOf t).toNat)
      case atStart => exact ⟨1, by omega, by omega, by rw [Cal.mb_one]; exact hy3, rfl, hG, hT⟩
      case round =>
        obtain ⟨m, hm1, hm2, hm3, rfl, hGr, hTr⟩ := hrel
        clear hT hG
        have hb := Cal.mb_bd (y := y) m (by omega) (by omega)
        by_cases hd : Cal.mb y (m + 1) ≤ n
        · have hlt : m < 12 := by
            by_cases e : m = 12
            · subst e; have e' : Cal.mb y (12 + 1) = Cal.yb (y + 1) := Cal.mb_13 y; omega
            · omega
          go_wp2_with (go_at_call 17; refine (mb_any _ _ _ hTr (by omega) (by omega) (by omega) (by omega)).mono ?_; rintro e w2 ⟨rfl, hg1⟩; replace hGr := Grown_trans hGr hg1; replace hTr := hTr.grown hg1; clear hg1)
          go_roundw
          case rel => exact ⟨m + 1, by omega, by omega, hd, rfl, hGr, hTr⟩
          case measure => simp [intOf]; omega
        · have hs : Hid (Cal.mb y (m + 1) = Cal.mb y m + Cal.dim y m) := Cal.mb_succ y hm1 hm2
          go_wp2_with (go_at_call 17; refine (mb_any _ _ _ hTr (by omega) (by omega) (by omega) (by omega)).mono ?_; rintro e w2 ⟨rfl, hg1⟩; replace hGr := Grown_trans hGr hg1; replace hTr := hTr.grown hg1; clear hg1)
          have hs' := hs.out
          exact bodyPost_ret (v := .tuple #[.int .i64 y, .int .i64 m, .int .i64 (n - Cal.mb y m + 1), .int .i64 0]) (by simp [results, Tryd.results13, go_sem]) rfl ⟨y, m, _, rfl, ⟨hy1, hy2, hm1, hm2, by omega, by omega⟩, by omega, hGr⟩
end Go.Proofs.YtgncfbckgbkpcabDoor
