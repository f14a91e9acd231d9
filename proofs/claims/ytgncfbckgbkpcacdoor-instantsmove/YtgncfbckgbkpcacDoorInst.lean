/- Contract of civil.Instant. -/
import Derived.Test.YtgncfbckgbkpcacDoorMath
import Derived.Test.YtgncfbckgbkpcacDoorRows
import Derived.Test.YtgncfbckgbkpcacDoorPlain
import Derived.Test.YtgncfbckgbkpcacDoorYear
import Derived.Test.YtgncfbckgbkpcacDoorLaid
import Derived.Test.YtgncfbckgbkpcacDoorBoxes
import Derived.Test.YtgncfbckgbkpcacDoorMom
import Derived.Test.YtgncfbckgbkpcacDoorFind
import Derived.WalkKit
import Derived.ProofKit
import Derived.OpenShut
import Derived.Deep.QuietTactic
import Derived.BigQuiet
namespace Go.Proofs.YtgncfbckgbkpcacDoor
open Go.ChangeShapes Go.WideShapes Go.ChangeAt Go.RowKit


theorem offset_any (n : Int) (w : World) :
    Calls Tryd.prog 19 #[.int .i64 n] w fun e w' => e = .returned (.bool (decide (-86400 ≤ n ∧ n ≤ 86400))) ∧ w' = w := by
  go_enter Tryd.func19, Tryd.ntmps19
  go_wp2
  all_goals
    go_ret
    exact ⟨ret_bool (by simp <;> omega), rfl⟩
set_option maxHeartbeats 3200000 in
theorem inst_any (y mo k d n ti cl off sv : Int) (w : World) (hT : Tab w) :
    Calls Tryd.prog 13 #[.int .i64 y, .agg #[.int .i64 mo, .int .i64 k, .int .i64 d, .int .i64 n, .int .i64 ti, .int .i64 cl], .int .i64 off, .int .i64 sv] w fun e w' => e = .returned (.tuple #[.int .i64 (Cal.instV y mo k d n ti cl off sv), .int .i64 (Cal.instE y mo k d n ti cl off sv)]) ∧ Grown w w' := by
  by_cases hm : Cal.momF mo k d n ti cl = 0
  · by_cases ho : -86400 ≤ off ∧ off ≤ 86400
    · by_cases hs : -86400 ≤ sv ∧ sv ≤ 86400
      · have e0 := Cal.instE_find (y := y) (off := off) (sv := sv) hm ⟨ho, hs⟩
        by_cases hf : Cal.findE y mo k d n = 0
        · have e1 := Cal.instV_yes (e0.trans hf)
          rw [e0, hf, e1]
          have z := Cal.momF_zero hm
          have hb := Cal.findV_bd y mo k d n
          clear e0 e1
          obtain ⟨_, z0, z1, z2, z3, z4⟩ := z
          rcases z0 with z0 | z0 | z0
          · subst z0
            rw [if_pos rfl]
            go_enter Tryd.func13, Tryd.ntmps13
            go_wp2_with (first | (go_at_call 18; refine (checkMoment_any _ _ _ _ _ _ _).mono ?_; rintro e w1 ⟨rfl, hg1⟩; have hD := cells6 hg1 (box6 _ _ _ _ _ _ _ _); replace hT := (hT.alloc _ _).grown hg1; have hG := Grown_trans ((Grown.refl _).alloc _ _) hg1; clear hg1) | (go_at_call 19; refine (offset_any _ _).mono ?_; rintro e w2 ⟨rfl, rfl⟩) | (go_at_call 11; refine (find_any _ _ _ _ _ _ hT).mono ?_; rintro e w3 ⟨rfl, hg3⟩; replace hD := cells6 hg3 hD; replace hT := hT.grown hg3; replace hG := Grown_trans hG hg3; clear hg3))
            go_ret2
            first | exact ⟨rfl, hG⟩ | exact ⟨ret2_int (by omega) rfl, hG⟩
          · subst z0
            rw [if_neg (by omega), if_pos rfl]
            go_enter Tryd.func13, Tryd.ntmps13
            go_wp2_with (first | (go_at_call 18; refine (checkMoment_any _ _ _ _ _ _ _).mono ?_; rintro e w1 ⟨rfl, hg1⟩; have hD := cells6 hg1 (box6 _ _ _ _ _ _ _ _); replace hT := (hT.alloc _ _).grown hg1; have hG := Grown_trans ((Grown.refl _).alloc _ _) hg1; clear hg1) | (go_at_call 19; refine (offset_any _ _).mono ?_; rintro e w2 ⟨rfl, rfl⟩) | (go_at_call 11; refine (find_any _ _ _ _ _ _ hT).mono ?_; rintro e w3 ⟨rfl, hg3⟩; replace hD := cells6 hg3 hD; replace hT := hT.grown hg3; replace hG := Grown_trans hG hg3; clear hg3))
            go_ret2
            first | exact ⟨rfl, hG⟩ | exact ⟨ret2_int (by omega) rfl, hG⟩
          · subst z0
            rw [if_neg (by omega), if_neg (by omega)]
            go_enter Tryd.func13, Tryd.ntmps13
            go_wp2_with (first | (go_at_call 18; refine (checkMoment_any _ _ _ _ _ _ _).mono ?_; rintro e w1 ⟨rfl, hg1⟩; have hD := cells6 hg1 (box6 _ _ _ _ _ _ _ _); replace hT := (hT.alloc _ _).grown hg1; have hG := Grown_trans ((Grown.refl _).alloc _ _) hg1; clear hg1) | (go_at_call 19; refine (offset_any _ _).mono ?_; rintro e w2 ⟨rfl, rfl⟩) | (go_at_call 11; refine (find_any _ _ _ _ _ _ hT).mono ?_; rintro e w3 ⟨rfl, hg3⟩; replace hD := cells6 hg3 hD; replace hT := hT.grown hg3; replace hG := Grown_trans hG hg3; clear hg3))
            go_ret2
            first | exact ⟨rfl, hG⟩ | exact ⟨ret2_int (by omega) rfl, hG⟩
        · have e1 := Cal.instV_no (show Cal.instE y mo k d n ti cl off sv ≠ 0 by rw [e0]; exact hf)
          rw [e0, e1]
          clear e0 e1
          go_enter Tryd.func13, Tryd.ntmps13
          go_wp2_with (first | (go_at_call 18; refine (checkMoment_any _ _ _ _ _ _ _).mono ?_; rintro e w1 ⟨rfl, hg1⟩; have hD := cells6 hg1 (box6 _ _ _ _ _ _ _ _); replace hT := (hT.alloc _ _).grown hg1; have hG := Grown_trans ((Grown.refl _).alloc _ _) hg1; clear hg1) | (go_at_call 19; refine (offset_any _ _).mono ?_; rintro e w2 ⟨rfl, rfl⟩) | (go_at_call 11; refine (find_any _ _ _ _ _ _ hT).mono ?_; rintro e w3 ⟨rfl, hg3⟩; replace hD := cells6 hg3 hD; replace hT := hT.grown hg3; replace hG := Grown_trans hG hg3; clear hg3))
          go_ret2
          first | exact ⟨rfl, hG⟩ | exact ⟨ret2_int (by omega) rfl, hG⟩
      · obtain ⟨e0, e1⟩ := Cal.instE_off (y := y) (off := off) (sv := sv) hm (fun q => hs q.2)
        rw [e0, e1]
        clear e0 e1
        go_enter Tryd.func13, Tryd.ntmps13
        go_wp2_with (first | (go_at_call 18; refine (checkMoment_any _ _ _ _ _ _ _).mono ?_; rintro e w1 ⟨rfl, hg1⟩; have hD := cells6 hg1 (box6 _ _ _ _ _ _ _ _); replace hT := (hT.alloc _ _).grown hg1; have hG := Grown_trans ((Grown.refl _).alloc _ _) hg1; clear hg1) | (go_at_call 19; refine (offset_any _ _).mono ?_; rintro e w2 ⟨rfl, rfl⟩) | (go_at_call 11; refine (find_any _ _ _ _ _ _ hT).mono ?_; rintro e w3 ⟨rfl, hg3⟩; replace hD := cells6 hg3 hD; replace hT := hT.grown hg3; replace hG := Grown_trans hG hg3; clear hg3))
        go_ret2
        first | exact ⟨rfl, hG⟩ | exact ⟨ret2_int (by omega) rfl, hG⟩
    · obtain ⟨e0, e1⟩ := Cal.instE_off (y := y) (off := off) (sv := sv) hm (fun q => ho q.1)
      rw [e0, e1]
      clear e0 e1
      go_enter Tryd.func13, Tryd.ntmps13
      go_wp2_with (first | (go_at_call 18; refine (checkMoment_any _ _ _ _ _ _ _).mono ?_; rintro e w1 ⟨rfl, hg1⟩; have hD := cells6 hg1 (box6 _ _ _ _ _ _ _ _); replace hT := (hT.alloc _ _).grown hg1; have hG := Grown_trans ((Grown.refl _).alloc _ _) hg1; clear hg1) | (go_at_call 19; refine (offset_any _ _).mono ?_; rintro e w2 ⟨rfl, rfl⟩) | (go_at_call 11; refine (find_any _ _ _ _ _ _ hT).mono ?_; rintro e w3 ⟨rfl, hg3⟩; replace hD := cells6 hg3 hD; replace hT := hT.grown hg3; replace hG := Grown_trans hG hg3; clear hg3))
      go_ret2
      first | exact ⟨rfl, hG⟩ | exact ⟨ret2_int (by omega) rfl, hG⟩
  · obtain ⟨e0, e1⟩ := Cal.instE_mom (y := y) (off := off) (sv := sv) hm
    rw [e0, e1]
    clear e0 e1
    go_enter Tryd.func13, Tryd.ntmps13
    go_wp2_with (first | (go_at_call 18; refine (checkMoment_any _ _ _ _ _ _ _).mono ?_; rintro e w1 ⟨rfl, hg1⟩; have hD := cells6 hg1 (box6 _ _ _ _ _ _ _ _); replace hT := (hT.alloc _ _).grown hg1; have hG := Grown_trans ((Grown.refl _).alloc _ _) hg1; clear hg1) | (go_at_call 19; refine (offset_any _ _).mono ?_; rintro e w2 ⟨rfl, rfl⟩) | (go_at_call 11; refine (find_any _ _ _ _ _ _ hT).mono ?_; rintro e w3 ⟨rfl, hg3⟩; replace hD := cells6 hg3 hD; replace hT := hT.grown hg3; replace hG := Grown_trans hG hg3; clear hg3))
    go_ret2
    first | exact ⟨rfl, hG⟩ | exact ⟨ret2_int (by omega) rfl, hG⟩
end Go.Proofs.YtgncfbckgbkpcacDoor
