/- Contracts of the functions of package civil that read the table daysAhead, for every world in which the table holds what its initialiser lays. -/
import Derived.Test.YtgncfbckgbkpcacDoorMath
import Derived.Test.YtgncfbckgbkpcacDoorRows
import Derived.Test.YtgncfbckgbkpcacDoorPlain
import Derived.Test.YtgncfbckgbkpcacDoorYear
import Derived.WalkKit
import Derived.ProofKit
import Derived.OpenShut
import Derived.Deep.QuietTactic
import Derived.BigQuiet
namespace Go.Proofs.YtgncfbckgbkpcacDoor
open Go.ChangeShapes Go.WideShapes Go.ChangeAt Go.RowKit

theorem Grown_drewN (W : World) (n : Nat) : Grown W (W.drewN n) := Grown.refl W
/-- The table holds the days ahead of each month. -/
def Tab (w : World) : Prop := ∀ m : Int, 1 ≤ m → m ≤ 13 → w.cell? ⟨0, (m - 1).toNat, none⟩ = some (.int .i64 (Cal.tab m))
theorem Tab.size {w : World} (h : Tab w) : 0 < w.heap.size := by
  have e := h 1 (by omega) (by omega)
  rcases Nat.lt_or_ge 0 w.heap.size with g | g
  · exact g
  · have n : w.heap[0]? = none := Array.getElem?_eq_none g
    simp [World.cell?, n] at e
theorem Tab.grown {w w' : World} (h : Tab w) (hg : Grown w w') : Tab w' := fun m h1 h2 => (Grown_cell hg _ _ h.size).trans (h m h1 h2)
theorem Tab.alloc {w : World} (h : Tab w) (c : Array Value) (t : TypeId) : Tab (w.alloc (.cells c t)) := h.grown ((Grown.refl _).alloc _ _)
theorem cases13 {m : Int} (h : 1 ≤ m) (h' : m ≤ 13) : m = 1 ∨ m = 2 ∨ m = 3 ∨ m = 4 ∨ m = 5 ∨ m = 6 ∨ m = 7 ∨ m = 8 ∨ m = 9 ∨ m = 10 ∨ m = 11 ∨ m = 12 ∨ m = 13 := by omega
set_option maxHeartbeats 4000000 in
theorem mb_any (y m : Int) (w : World) (hT : Tab w) (h : 1 ≤ y) (h' : y ≤ 9999) (h1 : 1 ≤ m) (h2 : m ≤ 13) :
    Calls Tryd.prog 15 #[.int .i64 y, .int .i64 m] w fun e w' => e = .returned (.int .i64 (Cal.mb y m)) ∧ Grown w w' := by
  have hb := Cal.yb_bd (y := y) (by omega) (by omega)
  have hc := hT m h1 h2
  clear hT
  unfold Cal.mb Cal.lp
  by_cases hl : Cal.leapB y = true
  all_goals
    rcases cases13 h1 h2 with e | e | e | e | e | e | e | e | e | e | e | e | e <;> subst e <;> clear h1 h2 <;> simp [Cal.tab] at hc
  all_goals
    go_enter Tryd.func15, Tryd.ntmps15
    go_wp2
    go_quiet ((go_at_call 20; exact Calls.quiet_of_same (yb_any _ _ (by omega) (by omega))))
    go_wp2_with (go_at_call 10; refine (leap_any _ _).mono ?_; rintro e w' ⟨rfl, rfl⟩)
    go_ret
    exact ⟨ret_int (by simp [Cal.tab]), Grown_drewN _ _⟩
theorem days_yes (y m : Int) (w : World) (hT : Tab w) (h1 : 1899 ≤ y) (h2 : y ≤ 2100) (h3 : 1 ≤ m) (h4 : m ≤ 12) :
    Calls Tryd.prog 9 #[.int .i64 y, .int .i64 m] w fun e w' => e = .returned (.tuple #[.int .i64 (Cal.dim y m), .int .i64 0]) ∧ Grown w w' := by
  have hb := Cal.mb_bd (y := y) m (by omega) (by omega)
  have hb' := Cal.mb_bd (y := y) (m + 1) (by omega) (by omega)
  have hs : Hid (Cal.mb y (m + 1) = Cal.mb y m + Cal.dim y m) := Cal.mb_succ y h3 h4
  have hG : Grown w w := Grown.refl w
  go_enter Tryd.func9, Tryd.ntmps9
  go_wp2_with (go_at_call 15; refine (mb_any _ _ _ hT (by omega) (by omega) (by omega) (by omega)).mono ?_; rintro e w1 ⟨rfl, hg1⟩; replace hG := Grown_trans hG hg1; replace hT := hT.grown hg1; clear hg1)
  go_ret2
  exact ⟨ret2_int (by rw [hs.out]; omega) rfl, hG⟩
theorem days_no (y m : Int) (w : World) (h : ¬ (1899 ≤ y ∧ y ≤ 2100 ∧ 1 ≤ m ∧ m ≤ 12)) :
    Calls Tryd.prog 9 #[.int .i64 y, .int .i64 m] w fun e w' => e = .returned (.tuple #[.int .i64 0, .int .i64 2]) ∧ w' = w := by
  by_cases a : y < 1899
  · go_enter Tryd.func9, Tryd.ntmps9
    go_wp2
    go_ret2
    exact ⟨rfl, rfl⟩
  by_cases b : 2100 < y
  · go_enter Tryd.func9, Tryd.ntmps9
    go_wp2
    go_ret2
    exact ⟨rfl, rfl⟩
  by_cases c : m < 1
  · go_enter Tryd.func9, Tryd.ntmps9
    go_wp2
    go_ret2
    exact ⟨rfl, rfl⟩
  have d : 12 < m := by omega
  clear h
  go_enter Tryd.func9, Tryd.ntmps9
  go_wp2
  go_ret2
  exact ⟨rfl, rfl⟩
theorem number_yes (y m d : Int) (w : World) (hT : Tab w) (h : Cal.Day y m d) :
    Calls Tryd.prog 8 #[.int .i64 y, .int .i64 m, .int .i64 d] w fun e w' => e = .returned (.tuple #[.int .i64 (Cal.mb y m + d - 1), .int .i64 0]) ∧ Grown w w' := by
  obtain ⟨h1, h2, h3, h4, h5, h6⟩ := h
  have hb := Cal.mb_bd (y := y) m (by omega) (by omega)
  have hd := Cal.dim_hi y m
  have hG : Grown w w := Grown.refl w
  go_enter Tryd.func8, Tryd.ntmps8
  go_wp2_with (first | (go_at_call 15; refine (mb_any _ _ _ hT (by omega) (by omega) (by omega) (by omega)).mono ?_; rintro e w1 ⟨rfl, hg1⟩; replace hG := Grown_trans hG hg1; replace hT := hT.grown hg1; clear hg1) | (go_at_call 9; refine (days_yes _ _ _ hT (by omega) (by omega) (by omega) (by omega)).mono ?_; rintro e w1 ⟨rfl, hg1⟩; replace hG := Grown_trans hG hg1; replace hT := hT.grown hg1; clear hg1))
  go_ret2
  exact ⟨rfl, hG⟩
theorem number_no (y m d : Int) (w : World) (hT : Tab w) (h : ¬ Cal.Day y m d) :
    Calls Tryd.prog 8 #[.int .i64 y, .int .i64 m, .int .i64 d] w fun e w' => e = .returned (.tuple #[.int .i64 0, .int .i64 2]) ∧ Grown w w' := by
  have hG : Grown w w := Grown.refl w
  by_cases a : 1899 ≤ y ∧ y ≤ 2100 ∧ 1 ≤ m ∧ m ≤ 12
  · obtain ⟨h1, h2, h3, h4⟩ := a
    by_cases b : d < 1
    · clear h
      go_enter Tryd.func8, Tryd.ntmps8
      go_wp2_with (go_at_call 9; refine (days_yes _ _ _ hT (by omega) (by omega) (by omega) (by omega)).mono ?_; rintro e w1 ⟨rfl, hg1⟩; replace hG := Grown_trans hG hg1; replace hT := hT.grown hg1; clear hg1)
      go_ret2
      exact ⟨rfl, hG⟩
    · have c : Cal.dim y m < d := by
        by_cases g : Cal.dim y m < d
        · exact g
        · exact absurd ⟨h1, h2, h3, h4, by omega, by omega⟩ h
      clear h
      go_enter Tryd.func8, Tryd.ntmps8
      go_wp2_with (go_at_call 9; refine (days_yes _ _ _ hT (by omega) (by omega) (by omega) (by omega)).mono ?_; rintro e w1 ⟨rfl, hg1⟩; replace hG := Grown_trans hG hg1; replace hT := hT.grown hg1; clear hg1)
      go_ret2
      exact ⟨rfl, hG⟩
  · clear h
    go_enter Tryd.func8, Tryd.ntmps8
    go_wp2_with (go_at_call 9; refine (days_no _ _ _ a).mono ?_; rintro e w1 ⟨rfl, rfl⟩)
    go_ret2
    exact ⟨rfl, hG⟩
end Go.Proofs.YtgncfbckgbkpcacDoor
