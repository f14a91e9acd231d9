/- Proved: at every number the law CivilDates returns true: civil.Date answers as the document's answer does. The table daysAhead holds what its initialiser lays (tied to the program's text by the card). -/
import Derived.Test.YtgncfbckgbkpcaaDoorCards
import Derived.Test.YtgncfbckgbkpcaaDoorTie
import Derived.Test.YtgncfbckgbkpcaaDoorMath
import Derived.Test.YtgncfbckgbkpcaaDoorPlain
import Derived.Test.YtgncfbckgbkpcaaDoorYear
import Derived.Test.YtgncfbckgbkpcaaDoorLaid
import Derived.Test.YtgncfbckgbkpcaaDoorShapes
import Derived.WalkKit
import Derived.ProofKit
import Derived.OpenShut
import Derived.Deep.DeepHandedRow
import Derived.Lib.LaidTab
namespace Go.Proofs.YtgncfbckgbkpcaaDoor
open Go.ChangeShapes Go.WideShapes Go.ChangeAt Go.RowKit
set_option linter.unusedVariables false

theorem civilDates_walk (a0 : Int) (w0 : wfi a0) (w : World) (hT : Tab w) :
    Calls Tryd.prog 5 #[.int .i64 a0] w fun e w' => e = .returned (.bool true) ∧ Grown w w' := by
  clear w0
  by_cases h : -25932 ≤ a0 ∧ a0 ≤ 47846
  · obtain ⟨h1, h2⟩ := h
    have h3 : a0 < 47847 := by omega
    go_enter Tryd.func5, Tryd.ntmps5
    go_wp2_with (first | (go_at_call 10; refine (date_yes _ _ hT h1 h3).mono ?_; rintro e w1 ⟨y, m, d, rfl, hd, hn, hg⟩) | (go_at_call 11; refine (dateOf_yes _ _ h1 h2).mono ?_; rintro e w2 ⟨y', m', d', rfl, hd', hn', rfl⟩; obtain ⟨rfl, rfl, rfl⟩ := Cal.day_unique hd hd' (hn.trans hn'.symm)))
    go_ret
    exact ⟨ret_bool (by simp), hg⟩
  · have h1 : a0 < -25932 ∨ 47847 ≤ a0 := by omega
    go_enter Tryd.func5, Tryd.ntmps5
    go_wp2_with (first | (go_at_call 10; refine (date_no _ _ h1).mono ?_; rintro e w1 ⟨rfl, rfl⟩) | (go_at_call 11; refine (dateOf_no _ _ h).mono ?_; rintro e w2 ⟨rfl, rfl⟩))
    go_ret
    exact ⟨ret_bool (by simp), Grown.refl _⟩

theorem civilDates_own : ownKnob Tryd.prog.godebug = none := by kernel_rfl
theorem gTab : Tryd.prog.globalNamed "sundial/civil.daysAhead" = some 0 := by kernel_rfl
theorem gTabType : (Tryd.prog.globals[0]?).map (·.type) = some 33 := by kernel_rfl
theorem cellsTab : Tryd.prog.cellsOf 33 = 13 := by kernel_rfl
theorem cellsNum : Tryd.prog.cellsOf 3 = 1 := by kernel_rfl
/-- What the row's list gives: the table's cells hold its thirteen numbers. -/
theorem civilDates_table {W : World} (h : laidMetH Tryd.prog Rows.civilDatesRow.laid W) : Lib.TabIs Tryd.prog W "sundial/civil.daysAhead" .i64 [0, 31, 59, 90, 120, 151, 181, 212, 243, 273, 304, 334, 365] :=
  Lib.tabIs_of_head (rest := []) gTab gTabType Tryd.underlying33 Tryd.underlying3 cellsNum cellsTab h
theorem civilDates_tab {W : World} (h : laidMetH Tryd.prog Rows.civilDatesRow.laid W) : Tab W := by
  intro m h1 h2
  have t := civilDates_table h
  rcases cases13 h1 h2 with e | e | e | e | e | e | e | e | e | e | e | e | e <;> subst e
  · exact t.cell gTab 0 (by decide)
  · exact t.cell gTab 1 (by decide)
  · exact t.cell gTab 2 (by decide)
  · exact t.cell gTab 3 (by decide)
  · exact t.cell gTab 4 (by decide)
  · exact t.cell gTab 5 (by decide)
  · exact t.cell gTab 6 (by decide)
  · exact t.cell gTab 7 (by decide)
  · exact t.cell gTab 8 (by decide)
  · exact t.cell gTab 9 (by decide)
  · exact t.cell gTab 10 (by decide)
  · exact t.cell gTab 11 (by decide)
  · exact t.cell gTab 12 (by decide)
/-- A world for the witness: the settled one, the table holding what its initialiser lays. -/
def laidHeap (w : World) : World := { w with heap := w.heap.modify 0 fun
    | .cells _ t frozen => .cells #[.int .i64 0, .int .i64 31, .int .i64 59, .int .i64 90, .int .i64 120, .int .i64 151, .int .i64 181, .int .i64 212, .int .i64 243, .int .i64 273, .int .i64 304, .int .i64 334, .int .i64 365] t frozen
    | o => o }
theorem civilDates_met (os : Os) : laidMet Tryd.prog Rows.civilDatesRow.laid ((laidHeap (World.holding Tryd.prog os ⟨#[], #[], []⟩)).forCall (fun _ _ => 0) ⟨#[], #[.int .i64 0], []⟩).memory :=
  laidMet_of_run' 8 (by kernel_rfl) (by kernel_rfl)
theorem civilDates_reads (os : Os) {H : Type} (enc : TypeId × Value → H) : ∃ places, DataW.whole enc Tryd.prog ((laidHeap (World.holding Tryd.prog os ⟨#[], #[], []⟩)).forCall (fun _ _ => 0) ⟨#[], #[.int .i64 0], []⟩).memory Tryd.f5.params.toList Rows.civilDatesSpec.vars false (#[.int .i64 0] : Array Value).toList 8 = some ([.lit (.int .i64 0)], [], places) :=
  ⟨[], by kernel_rfl⟩
theorem civilDates_contract (H : Type) (enc : TypeId × Value → H) (W : World) (base : Nat) (args : Array Value) (ds gs : List (DataW H)) (before : List MemPlace)
    (hval : ∀ (j : Nat) t v, Tryd.f5.params[j]? = some t → args[j]? = some v → Value.okWide Tryd.prog W .any base t v)
    (hW : DataW.Whole enc Tryd.prog Tryd.f5.params.toList Rows.civilDatesSpec.vars false W args.toList ds gs before) (hL : laidMetH Tryd.prog Rows.civilDatesRow.laid W) :
    Calls Tryd.prog 5 args W fun e W' => ∃ v, e = .returned v ∧ Rows.civilDatesSpec.post enc Tryd.prog Tryd.f5 false true false false W args v W' := by
  have hW' := hW
  obtain ⟨p, q, hA0, hV, rfl, hfz, hnd⟩ := hW
  have hA : DataW.TrodAll enc Tryd.prog W 0 (fun _ => true) true Tryd.f5.params.toList args.toList ds p := hA0
  rw [Tryd.params5] at hA hval
  obtain ⟨v0, vs0, d0, ds0, p0, q0, hargs, rfl, rfl, h0, r0⟩ := trodAll_cons hA
  obtain ⟨rfl, rfl, rfl⟩ := trodAll_nil r0
  obtain rfl : args = #[v0] := by cases args; simp_all
  obtain ⟨rfl, rfl⟩ := trodVars_none hV
  obtain ⟨a0, rfl, rfl, rfl, w0⟩ := open_int Tryd.underlying3 (hval 0 3 v0 rfl rfl) h0
  clear hA0
  simp only [List.append_nil] at hW'
  refine (civilDates_walk a0 w0 W (civilDates_tab hL)).mono fun e W' ⟨he, hg⟩ => ?_
  subst he
  exact ⟨_, rfl, post_of_same (pa := []) (pv := []) hW' (fun _ _ _ => (trodAll_cons_mk (shut_bool Tryd.underlying4 _) trodAll_mk0)) (fun sp _ => (trodAll_cons_mk (shut_int Tryd.underlying3 w0) trodAll_mk0)) (fun _ _ => rfl) rfl
    (hg.frame _) hg.2.1 (ok_one (by kernel_rfl) rfl (okWide_bool_mk Tryd.underlying4 _))⟩
set_option maxRecDepth 100000 in
theorem civilDates_lifted (os : Os) (started : os.Started) (H : Type) (enc : TypeId × Value → H) (F : Stop.Interp) :
    ReturnsInHanded {} Tryd.checked os 5 .any ((OpenSpec.ofChange Rows.civilDatesSpec).preRow enc Tryd.prog Tryd.f5 Rows.civilDatesRow.domain false Rows.civilDatesRow.laid) (((OpenSpec.ofChange Rows.civilDatesSpec).at F).post enc Tryd.prog Tryd.f5 false true false false) := by
  obtain ⟨places, hx⟩ := civilDates_reads os enc
  refine returnsInHanded_of_row (C := Tryd.checked) (s := OpenSpec.ofChange Rows.civilDatesSpec) civilDates_own started (by kernel_rfl) Tryd.func5
    (witness_row_at (enc := enc) (C := Tryd.checked) false (laidHeap (World.holding Tryd.prog os ⟨#[], #[], []⟩)) #[.int .i64 0] rfl (by kernel_rfl) (by kernel_rfl) (by kernel_rfl)
      (OpenSpec.preRow_of_cond 8 hx (by kernel_rfl) (fun k hk => by cases hk) (by kernel_rfl) (civilDates_met os))) ?_
  intro W base args ds gs before hval hW _ _ _ hL _ _
  exact civilDates_contract H enc W base args ds gs before hval hW hL
theorem civilDates_said : Rows.CivilDatesSaid :=
  OpenClaim.holds_of_cond 5 Tryd.f5 rfl rfl rfl rfl rfl rfl rfl ⟨rfl, rfl, rfl, rfl, rfl⟩ rfl rfl rfl rfl rfl (by kernel_rfl) Tryd.func5 (by kernel_rfl)
    (of_decide_eq_true (by kernel_rfl)) (by unfold Func.isWrapper; first | (rw [if_pos (by decide +kernel)]; kernel_rfl) | (rw [if_neg (by decide +kernel)]; exact ⟨rfl, rfl⟩))
    (fun os started H enc _ F => by rw [OpenClaim.pre_eq_preRow]; exact civilDates_lifted os started H enc F)
theorem civilDates_plain (f : FuncId) (fn : Func) (hf : Tryd.pinned.checked.prog.funcNamed "sundial/sundiallaw.CivilDates" = some f) (hfn : Tryd.pinned.checked.prog.funcs[f]? = some fn) :
    false = Tryd.pinned.checked.prog.looks [] ∧ ∀ (j : Nat) t, fn.params[j]? = some t → Tryd.pinned.checked.prog.wantsStandIn t = false := by
  obtain rfl : f = 5 := Option.some.inj ((show Tryd.prog.funcNamed "sundial/sundiallaw.CivilDates" = some 5 by kernel_rfl).symm.trans hf) |>.symm
  obtain rfl : fn = Tryd.f5 := (Option.some.inj (Tryd.func5.symm.trans hfn)).symm
  refine ⟨by kernel_rfl, fun j t ht => ?_⟩
  rw [Tryd.params5] at ht
  have hm : t = 3 := by have h := Array.mem_of_getElem? ht; simp at h; simpa using h
  rcases hm with rfl
  exact (show Tryd.prog.wantsStandIn 3 = false by kernel_rfl)
/-- The card. -/
theorem civilDates_card : Rows.CivilDatesCardSaid :=
  Claim7.holds_tied_plain_at .later [] _ _ _ _ civilDates_said (fun _ h => by cases h) (by kernel_rfl) (fun _ h => by cases h) civilDates_row_tie rfl ⟨rfl, rfl⟩ (by kernel_rfl) rfl civilDates_plain (by kernel_rfl)
#print axioms civilDates_card
end Go.Proofs.YtgncfbckgbkpcaaDoor
