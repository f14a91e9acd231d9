/- Proved: at every int the law WeekdaysTurn returns true: of a day from 50000 ahead of the first one of 1970 up to 49999 behind it the next day's weekday is the next one, a week later it is the same, all are from 0 to 6, and the first day of 1970 is a Thursday. No condition. -/
import Derived.Test.YtgncfbckgbkpcabMath
import Derived.Test.YtgncfbckgbkpcabRows
import Derived.Test.YtgncfbckgbkpcabPlain
import Derived.Test.YtgncfbckgbkpcabShapes
import Derived.WalkKit
import Derived.ProofKit
import Derived.OpenShut
namespace Go.Proofs.Ytgncfbckgbkpcab
open Go.ChangeShapes Go.WideShapes Go.ChangeAt Go.RowKit
set_option linter.unusedVariables false

theorem weekdaysTurn_walk (a0 : Int) (w0 : wfi a0) (w : World) :
    Calls Try.prog 5 #[.int .i64 a0] w fun e w' => e = .returned (.bool true) ∧ Grown w w' := by
  have p1 := Cal.pk_lo a0 (show (0 : Int) < 100000 by omega)
  have p2 := Cal.pk_hi a0 (show (0 : Int) < 100000 by omega)
  have hp : Calls Try.prog 10 #[.int .i64 a0, .int .i64 100000] w fun e w' => e = .returned (.int .i64 (Cal.pk a0 100000)) ∧ w' = w := picked_any a0 100000 w w0 (by omega) (by omega)
  generalize Cal.pk a0 100000 = k at p1 p2 hp
  have e0 : Cal.wdy 0 = 4 := by decide
  have e1 : Cal.wdy (k - 50000 + 1) = (Cal.wdy (k - 50000) + 1) % 7 := by unfold Cal.wdy; omega
  have e2 : Cal.wdy (k - 50000 + 7) = Cal.wdy (k - 50000) := by unfold Cal.wdy; omega
  have e3 := Cal.wdy_lo (k - 50000)
  have e4 := Cal.wdy_hi (k - 50000)
  go_enter Try.func5, Try.ntmps5
  go_wp2_with (first | (go_at_call 10; refine hp.mono ?_; rintro e w1 ⟨rfl, rfl⟩) | (go_at_call 11; refine (weekday_any _ _).mono ?_; rintro e w2 ⟨rfl, rfl⟩))
  all_goals
    go_ret
    exact ⟨rfl, Grown.refl _⟩

theorem weekdaysTurn_own : ownKnob Try.prog.godebug = none := by kernel_rfl
set_option maxRecDepth 100000 in
theorem weekdaysTurn_lifted (os : Os) (started : os.Started) (H : Type) (enc : TypeId × Value → H) :
    ReturnsInHanded {} Try.checked os 5 .any (Rows.weekdaysTurnSpec.pre6 enc Try.prog Try.f5 Rows.weekdaysTurnRow.domain false) (Rows.weekdaysTurnSpec.post enc Try.prog Try.f5 false true false false) := by
  refine returnsInHanded_of_change (C := Try.checked) weekdaysTurn_own started (by kernel_rfl) Try.func5
    (ChangeSpec.witness6 (enc := enc) (C := Try.checked) false ⟨#[], #[.int .i64 0], []⟩ 8 (by kernel_rfl) (by kernel_rfl) (by kernel_rfl) (by kernel_rfl)) ?_
  intro W base args ds gs before hval0 hW hcnd _
  have hval : ∀ (j : Nat) t v, Try.f5.params[j]? = some t → args[j]? = some v → Value.okWide Try.prog W .any base t v := hval0
  have hW' := hW
  obtain ⟨p, q, hA0, hV, rfl, hfz, hnd⟩ := hW
  have hA : DataW.TrodAll enc Try.prog W 0 (fun _ => true) true Try.f5.params.toList args.toList ds p := hA0
  rw [Try.params5] at hA hval
  obtain ⟨v0, vs0, d0, ds0, p0, q0, hargs, rfl, rfl, h0, r0⟩ := trodAll_cons hA
  obtain ⟨rfl, rfl, rfl⟩ := trodAll_nil r0
  obtain rfl : args = #[v0] := by cases args; simp_all
  obtain ⟨rfl, rfl⟩ := trodVars_none hV
  obtain ⟨a0, rfl, rfl, rfl, w0⟩ := open_int Try.underlying3 (hval 0 3 v0 rfl rfl) h0
  clear hA0 hval0
  simp only [List.append_nil] at hW'
  refine (weekdaysTurn_walk a0 w0 W).mono fun e W' ⟨he, hg⟩ => ?_
  subst he
  exact ⟨_, rfl, post_of_same (pa := []) (pv := []) hW' (fun _ _ _ => (trodAll_cons_mk (shut_bool Try.underlying4 _) trodAll_mk0)) (fun sp _ => (trodAll_cons_mk (shut_int Try.underlying3 w0) trodAll_mk0)) (fun _ _ => rfl) rfl
    (hg.frame _) hg.2.1 (ok_one (by kernel_rfl) rfl (okWide_bool_mk Try.underlying4 _))⟩

theorem weekdaysTurn_holds : Rows.WeekdaysTurnSaid :=
  OpenClaim.holds_of_wide 5 Try.f5 rfl rfl rfl rfl rfl rfl rfl ⟨rfl, rfl, rfl, rfl, rfl⟩ rfl rfl rfl rfl rfl (by kernel_rfl) Try.func5 (by kernel_rfl)
    (of_decide_eq_true (by kernel_rfl)) (by unfold Func.isWrapper; first | (rw [if_pos (by decide +kernel)]; kernel_rfl) | (rw [if_neg (by decide +kernel)]; exact ⟨rfl, rfl⟩))
    (fun os started H enc _ => weekdaysTurn_lifted os started H enc)
#print axioms weekdaysTurn_holds
end Go.Proofs.Ytgncfbckgbkpcab
