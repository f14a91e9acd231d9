/- Proved: at every year, month and api.Day the law CivilFinds returns true: civil.Find answers as the document's answer does. The table daysAhead holds what its initialiser lays (tied to the program's text by the card). -/
import Derived.Test.YtgncfbckgbkpcabDoorCards
import Derived.Test.YtgncfbckgbkpcabDoorTie
import Derived.Test.YtgncfbckgbkpcabDoorMath
import Derived.Test.YtgncfbckgbkpcabDoorPlain
import Derived.Test.YtgncfbckgbkpcabDoorYear
import Derived.Test.YtgncfbckgbkpcabDoorLaid
import Derived.Test.YtgncfbckgbkpcabDoorBoxes
import Derived.Test.YtgncfbckgbkpcabDoorFind
import Derived.Test.YtgncfbckgbkpcabDoorFound
import Derived.Test.YtgncfbckgbkpcabDoorShapes
import Derived.WalkKit
import Derived.ProofKit
import Derived.OpenShut
import Derived.Deep.DeepHandedRow
import Derived.Lib.LaidTab
namespace Go.Proofs.YtgncfbckgbkpcabDoor
open Go.ChangeShapes Go.WideShapes Go.ChangeAt Go.RowKit
set_option linter.unusedVariables false

theorem civilFinds_walk (a0 a1 a2 a3 a4 : Int) (w0 : wfi a0) (w1 : wfi a1) (w2 : wfi a2) (w3 : wfi a3) (w4 : wfi a4) (w : World) (hT : Tab w) :
    Calls Tryd.prog 3 #[.int .i64 a0, .int .i64 a1, .agg #[.int .i64 a2, .int .i64 a3, .int .i64 a4]] w fun e w' => e = .returned (.bool true) ∧ Grown w w' := by
  clear w0 w1 w2 w3 w4
  go_enter Tryd.func3, Tryd.ntmps3
  go_wp2_with (first | (go_at_call 6; refine (find_any _ _ _ _ _ _ (hT.alloc _ _)).mono ?_; rintro e w1 ⟨rfl, hg1⟩; have hD := cells3 hg1 (box3 _ _ _ _ _); have hG := Grown_trans ((Grown.refl _).alloc _ _) hg1; clear hg1) | (go_at_call 7; refine (foundDay_any _ _ _ _ _ _).mono ?_; rintro e w2 ⟨rfl, hg2⟩))
  go_ret
  exact ⟨ret_bool (by simp), Grown_trans hG hg2⟩

theorem civilFinds_own : ownKnob Tryd.prog.godebug = none := by kernel_rfl
theorem gTab : Tryd.prog.globalNamed "sundial/civil.daysAhead" = some 0 := by kernel_rfl
theorem gTabType : (Tryd.prog.globals[0]?).map (·.type) = some 45 := by kernel_rfl
theorem cellsTab : Tryd.prog.cellsOf 45 = 13 := by kernel_rfl
theorem cellsNum : Tryd.prog.cellsOf 3 = 1 := by kernel_rfl
/-- What the row's list gives: the table's cells hold its thirteen numbers. -/
theorem civilFinds_table {W : World} (h : laidMetH Tryd.prog Rows.civilFindsRow.laid W) : Lib.TabIs Tryd.prog W "sundial/civil.daysAhead" .i64 [0, 31, 59, 90, 120, 151, 181, 212, 243, 273, 304, 334, 365] :=
  Lib.tabIs_of_head (rest := []) gTab gTabType Tryd.underlying45 Tryd.underlying3 cellsNum cellsTab h
theorem civilFinds_tab {W : World} (h : laidMetH Tryd.prog Rows.civilFindsRow.laid W) : Tab W := by
  intro m h1 h2
  have t := civilFinds_table h
  rcases cases13 h1 h2 with e | e | e | e | e | e | e | e | e | e | e | e | e <;> subst e
  · exact t.cell gTab 0 (by decide)
  · exact t.cell gTab 1 (by decide)
  · exact t.cell gTab 2 (by decide)
  · exact t.cell gTab 3 (by decide)
  · exact t.cell gTab 4 (by decide)
  · exact t.cell gTab 5 (by decide)
  · exact t.cell gTab 6 (by decide)
  · exact t.cell gTab 7 (by decide)
  · exact t.cell gTab 8 (by decide)
  · exact t.cell gTab 9 (by decide)
  · exact t.cell gTab 10 (by decide)
  · exact t.cell gTab 11 (by decide)
  · exact t.cell gTab 12 (by decide)
/-- A world for the witness: the settled one, the table holding what its initialiser lays. -/
def laidHeap (w : World) : World := { w with heap := w.heap.modify 0 fun
    | .cells _ t frozen => .cells #[.int .i64 0, .int .i64 31, .int .i64 59, .int .i64 90, .int .i64 120, .int .i64 151, .int .i64 181, .int .i64 212, .int .i64 243, .int .i64 273, .int .i64 304, .int .i64 334, .int .i64 365] t frozen
    | o => o }
theorem civilFinds_met (os : Os) : laidMet Tryd.prog Rows.civilFindsRow.laid ((laidHeap (World.holding Tryd.prog os ⟨#[], #[], []⟩)).forCall (fun _ _ => 0) ⟨#[], #[.int .i64 0, .int .i64 0, .agg #[.int .i64 0, .int .i64 0, .int .i64 0]], []⟩).memory :=
  laidMet_of_run' 8 (by kernel_rfl) (by kernel_rfl)
theorem civilFinds_reads (os : Os) {H : Type} (enc : TypeId × Value → H) : ∃ places, DataW.whole enc Tryd.prog ((laidHeap (World.holding Tryd.prog os ⟨#[], #[], []⟩)).forCall (fun _ _ => 0) ⟨#[], #[.int .i64 0, .int .i64 0, .agg #[.int .i64 0, .int .i64 0, .int .i64 0]], []⟩).memory Tryd.f3.params.toList Rows.civilFindsSpec.vars false (#[.int .i64 0, .int .i64 0, .agg #[.int .i64 0, .int .i64 0, .int .i64 0]] : Array Value).toList 8 = some ([.lit (.int .i64 0), .lit (.int .i64 0), .agg [.lit (.int .i64 0), .lit (.int .i64 0), .lit (.int .i64 0)]], [], places) :=
  ⟨[], by kernel_rfl⟩
theorem civilFinds_contract (H : Type) (enc : TypeId × Value → H) (W : World) (base : Nat) (args : Array Value) (ds gs : List (DataW H)) (before : List MemPlace)
    (hval : ∀ (j : Nat) t v, Tryd.f3.params[j]? = some t → args[j]? = some v → Value.okWide Tryd.prog W .any base t v)
    (hW : DataW.Whole enc Tryd.prog Tryd.f3.params.toList Rows.civilFindsSpec.vars false W args.toList ds gs before) (hL : laidMetH Tryd.prog Rows.civilFindsRow.laid W) :
    Calls Tryd.prog 3 args W fun e W' => ∃ v, e = .returned v ∧ Rows.civilFindsSpec.post enc Tryd.prog Tryd.f3 false true false false W args v W' := by
  have hW' := hW
  obtain ⟨p, q, hA0, hV, rfl, hfz, hnd⟩ := hW
  have hA : DataW.TrodAll enc Tryd.prog W 0 (fun _ => true) true Tryd.f3.params.toList args.toList ds p := hA0
  rw [Tryd.params3] at hA hval
  obtain ⟨v0, vs0, d0, ds0, p0, q0, hargs, rfl, rfl, h0, r0⟩ := trodAll_cons hA
  obtain ⟨v1, vs1, d1, ds1, p1, q1, rfl, rfl, rfl, h1, r1⟩ := trodAll_cons r0
  obtain ⟨v2, vs2, d2, ds2, p2, q2, rfl, rfl, rfl, h2, r2⟩ := trodAll_cons r1
  obtain ⟨rfl, rfl, rfl⟩ := trodAll_nil r2
  obtain rfl : args = #[v0, v1, v2] := by cases args; simp_all
  obtain ⟨rfl, rfl⟩ := trodVars_none hV
  obtain ⟨a0, rfl, rfl, rfl, w0⟩ := open_int Tryd.underlying3 (hval 0 3 v0 rfl rfl) h0
  obtain ⟨a1, rfl, rfl, rfl, w1⟩ := open_int Tryd.underlying3 (hval 1 3 v1 rfl rfl) h1
  obtain ⟨a2, a3, a4, rfl, rfl, rfl, w2, w3, w4⟩ := open_day (hval 2 23 v2 rfl rfl) h2
  clear hA0
  simp only [List.append_nil] at hW'
  refine (civilFinds_walk a0 a1 a2 a3 a4 w0 w1 w2 w3 w4 W (civilFinds_tab hL)).mono fun e W' ⟨he, hg⟩ => ?_
  subst he
  exact ⟨_, rfl, post_of_same (pa := []) (pv := []) hW' (fun _ _ _ => (trodAll_cons_mk (shut_bool Tryd.underlying4 _) trodAll_mk0)) (fun sp _ => (trodAll_cons_mk (shut_int Tryd.underlying3 w0) (trodAll_cons_mk (shut_int Tryd.underlying3 w1) (trodAll_cons_mk (shut_day w2 w3 w4) trodAll_mk0)))) (fun _ _ => rfl) rfl
    (hg.frame _) hg.2.1 (ok_one (by kernel_rfl) rfl (okWide_bool_mk Tryd.underlying4 _))⟩
set_option maxRecDepth 100000 in
theorem civilFinds_lifted (os : Os) (started : os.Started) (H : Type) (enc : TypeId × Value → H) (F : Stop.Interp) :
    ReturnsInHanded {} Tryd.checked os 3 .any ((OpenSpec.ofChange Rows.civilFindsSpec).preRow enc Tryd.prog Tryd.f3 Rows.civilFindsRow.domain false Rows.civilFindsRow.laid) (((OpenSpec.ofChange Rows.civilFindsSpec).at F).post enc Tryd.prog Tryd.f3 false true false false) := by
  obtain ⟨places, hx⟩ := civilFinds_reads os enc
  refine returnsInHanded_of_row (C := Tryd.checked) (s := OpenSpec.ofChange Rows.civilFindsSpec) civilFinds_own started (by kernel_rfl) Tryd.func3
    (witness_row_at (enc := enc) (C := Tryd.checked) false (laidHeap (World.holding Tryd.prog os ⟨#[], #[], []⟩)) #[.int .i64 0, .int .i64 0, .agg #[.int .i64 0, .int .i64 0, .int .i64 0]] rfl (by kernel_rfl) (by kernel_rfl) (by kernel_rfl)
      (OpenSpec.preRow_of_cond 8 hx (by kernel_rfl) (fun k hk => by cases hk) (by kernel_rfl) (civilFinds_met os))) ?_
  intro W base args ds gs before hval hW _ _ _ hL _ _
  exact civilFinds_contract H enc W base args ds gs before hval hW hL
theorem civilFinds_said : Rows.CivilFindsSaid :=
  OpenClaim.holds_of_cond 3 Tryd.f3 rfl rfl rfl rfl rfl rfl rfl ⟨rfl, rfl, rfl, rfl, rfl⟩ rfl rfl rfl rfl rfl (by kernel_rfl) Tryd.func3 (by kernel_rfl)
    (of_decide_eq_true (by kernel_rfl)) (by unfold Func.isWrapper; first | (rw [if_pos (by decide +kernel)]; kernel_rfl) | (rw [if_neg (by decide +kernel)]; exact ⟨rfl, rfl⟩))
    (fun os started H enc _ F => by rw [OpenClaim.pre_eq_preRow]; exact civilFinds_lifted os started H enc F)
theorem civilFinds_plain (f : FuncId) (fn : Func) (hf : Tryd.pinned.checked.prog.funcNamed "sundial/sundiallaw.CivilFinds" = some f) (hfn : Tryd.pinned.checked.prog.funcs[f]? = some fn) :
    false = Tryd.pinned.checked.prog.looks [] ∧ ∀ (j : Nat) t, fn.params[j]? = some t → Tryd.pinned.checked.prog.wantsStandIn t = false := by
  obtain rfl : f = 3 := Option.some.inj ((show Tryd.prog.funcNamed "sundial/sundiallaw.CivilFinds" = some 3 by kernel_rfl).symm.trans hf) |>.symm
  obtain rfl : fn = Tryd.f3 := (Option.some.inj (Tryd.func3.symm.trans hfn)).symm
  refine ⟨by kernel_rfl, fun j t ht => ?_⟩
  rw [Tryd.params3] at ht
  have hm : t = 3 ∨ t = 23 := by have h := Array.mem_of_getElem? ht; simp at h; simpa using h
  rcases hm with rfl | rfl
  · exact (show Tryd.prog.wantsStandIn 3 = false by kernel_rfl)
  · exact (show Tryd.prog.wantsStandIn 23 = false by kernel_rfl)
/-- The card. -/
theorem civilFinds_card : Rows.CivilFindsCardSaid :=
  Claim7.holds_tied_plain_at .later [] _ _ _ _ civilFinds_said (fun _ h => by cases h) (by kernel_rfl) (fun _ h => by cases h) civilFinds_row_tie rfl ⟨rfl, rfl⟩ (by kernel_rfl) rfl civilFinds_plain (by kernel_rfl)
#print axioms civilFinds_card
end Go.Proofs.YtgncfbckgbkpcabDoor
