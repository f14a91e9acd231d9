/- Proved: at every four ints the law DaysFound returns true: a day that is told by a weekday is that weekday, and within a week of what it is told by. The table daysAhead holds what its initialiser lays (tied to the program's text by the card). -/
import Derived.Test.YtgncfbckgbkpcacDoorCards
import Derived.Test.YtgncfbckgbkpcacDoorTie
import Derived.Test.YtgncfbckgbkpcacDoorMath
import Derived.Test.YtgncfbckgbkpcacDoorPlain
import Derived.Test.YtgncfbckgbkpcacDoorYear
import Derived.Test.YtgncfbckgbkpcacDoorLaid
import Derived.Test.YtgncfbckgbkpcacDoorBoxes
import Derived.Test.YtgncfbckgbkpcacDoorFind
import Derived.Test.YtgncfbckgbkpcacDoorShapes
import Derived.WalkKit
import Derived.ProofKit
import Derived.OpenShut
import Derived.Deep.DeepHandedRow
import Derived.Lib.LaidTab
import Derived.Deep.Cut
namespace Go.Proofs.YtgncfbckgbkpcacDoor
open Go.ChangeShapes Go.WideShapes Go.ChangeAt Go.RowKit
set_option linter.unusedVariables false

theorem df_facts {y m k d : Int} (y1 : 1900 ≤ y) (y2 : y ≤ 2099) (m1 : 1 ≤ m) (m2 : m ≤ 12) (k1 : 0 ≤ k) (k2 : k ≤ 6) (d1 : 1 ≤ d) (d2 : d ≤ 28) :
    (Cal.findE y m 3 k d = 0 ∧ Cal.findE y m 4 k d = 0 ∧ Cal.findE y m 2 k 0 = 0 ∧ Cal.findE y m 1 0 d = 0) ∧
    ∃ x3 x4 x2 : Int, (Cal.findV y m 3 k d = x3 ∧ Cal.findV y m 4 k d = x4 ∧ Cal.findV y m 2 k 0 = x2 ∧ Cal.findV y m 1 0 d = Cal.mb y m + d - 1) ∧
      ((Cal.wdy x3 != k) = false ∧ (Cal.wdy x4 != k) = false ∧ (Cal.wdy x2 != k) = false) ∧
      (Cal.mb y m + d - 1 ≤ x3 ∧ x3 < Cal.mb y m + d - 1 + 7) ∧ (x4 ≤ Cal.mb y m + d - 1 ∧ Cal.mb y m + d - 1 - 7 < x4) ∧ (x2 ≤ Cal.mb y m + Cal.dim y m - 1 ∧ Cal.mb y m + Cal.dim y m - 1 - 7 < x2) := by
  have l := Cal.dim_lo y m
  have r : 1899 ≤ y ∧ y ≤ 2100 ∧ 1 ≤ m ∧ m ≤ 12 := by omega
  have e3 := Cal.findE_yes (y := y) (m := m) (k := 3) (d := k) (n := d) (by simp [Cal.dayF]; omega) ⟨r, by omega⟩
  have e4 := Cal.findE_yes (y := y) (m := m) (k := 4) (d := k) (n := d) (by simp [Cal.dayF]; omega) ⟨r, by omega⟩
  have e2 := Cal.findE_yes (y := y) (m := m) (k := 2) (d := k) (n := 0) (by simp [Cal.dayF]; omega) ⟨r, by omega⟩
  have e1 := Cal.findE_yes (y := y) (m := m) (k := 1) (d := 0) (n := d) (by simp [Cal.dayF]; omega) ⟨r, by omega⟩
  have b3 := Cal.na_bd (Cal.mb y m + d - 1) k
  have b4 := Cal.nb_bd (Cal.mb y m + d - 1) k
  have b2 := Cal.nb_bd (Cal.mb y m + Cal.dim y m - 1) k
  have t3 := (Cal.na_at (n := Cal.mb y m + d - 1) k1 k2 b3.1 (Int.le_refl _)).2 rfl
  have t4 := (Cal.nb_at (n := Cal.mb y m + d - 1) k1 k2 (Int.le_refl _) b4.2).2 rfl
  have t2 := (Cal.nb_at (n := Cal.mb y m + Cal.dim y m - 1) k1 k2 (Int.le_refl _) b2.2).2 rfl
  refine ⟨⟨e3.1, e4.1, e2.1, e1.1⟩, Cal.na (Cal.mb y m + d - 1) k, Cal.nb (Cal.mb y m + d - 1) k, Cal.nb (Cal.mb y m + Cal.dim y m - 1) k, ⟨?_, ?_, ?_, ?_⟩, ⟨?_, ?_, ?_⟩, ⟨?_, ?_⟩, ⟨?_, ?_⟩, ?_, ?_⟩
  · rw [e3.2]; simp [Cal.fnd]
  · rw [e4.2]; simp [Cal.fnd]
  · rw [e2.2]; simp [Cal.fnd]
  · rw [e1.2]; simp [Cal.fnd]
  · simpa using t3
  · simpa using t4
  · simpa using t2
  all_goals omega
set_option maxRecDepth 20000 in
set_option maxHeartbeats 1600000 in
theorem daysFound_walk (a0 a1 a2 a3 : Int) (w0 : wfi a0) (w1 : wfi a1) (w2 : wfi a2) (w3 : wfi a3) (w : World) (hT : Tab w) :
    Calls Tryd.prog 4 #[.int .i64 a0, .int .i64 a1, .int .i64 a2, .int .i64 a3] w fun e w' => e = .returned (.bool true) ∧ Grown w w' := by
  have p0 := Cal.pk_lo a0 (show (0 : Int) < 200 by omega)
  have q0 := Cal.pk_hi a0 (show (0 : Int) < 200 by omega)
  have p1 := Cal.pk_lo a1 (show (0 : Int) < 12 by omega)
  have q1 := Cal.pk_hi a1 (show (0 : Int) < 12 by omega)
  have p2 := Cal.pk_lo a2 (show (0 : Int) < 7 by omega)
  have q2 := Cal.pk_hi a2 (show (0 : Int) < 7 by omega)
  have p3 := Cal.pk_lo a3 (show (0 : Int) < 28 by omega)
  have q3 := Cal.pk_hi a3 (show (0 : Int) < 28 by omega)
  obtain ⟨y, hy⟩ : ∃ y, Cal.pk a0 200 = y - 1900 := ⟨Cal.pk a0 200 + 1900, by omega⟩
  obtain ⟨m, hm⟩ : ∃ m, Cal.pk a1 12 = m - 1 := ⟨Cal.pk a1 12 + 1, by omega⟩
  obtain ⟨k, hk⟩ : ∃ k, Cal.pk a2 7 = k := ⟨_, rfl⟩
  obtain ⟨d, hd⟩ : ∃ d, Cal.pk a3 28 = d - 1 := ⟨Cal.pk a3 28 + 1, by omega⟩
  rw [hy] at p0 q0
  rw [hm] at p1 q1
  rw [hk] at p2 q2
  rw [hd] at p3 q3
  have sy : 1900 + (y - 1900) = y := by omega
  have sm : 1 + (m - 1) = m := by omega
  have sd : 1 + (d - 1) = d := by omega
  have y1 : 1900 ≤ y := by omega
  have y2 : y ≤ 2099 := by omega
  have m1 : 1 ≤ m := by omega
  have m2 : m ≤ 12 := by omega
  have k2 : k ≤ 6 := by omega
  have e1 : 1 ≤ d := by omega
  have e2 : d ≤ 28 := by omega
  clear q0 q1 q2 q3 p0 p1 p3
  obtain ⟨⟨E3, E4, E2, E1⟩, x3, x4, x2, ⟨V3, V4, V2, V1⟩, ⟨T3, T4, T2⟩, ⟨A1, A2⟩, ⟨B1, B2⟩, ⟨C1, C2⟩⟩ := df_facts y1 y2 m1 m2 p2 k2 e1 e2
  have lo := Cal.dim_lo y m
  have hi := Cal.dim_hi y m
  have bd := Cal.mb_bd (y := y) m (by omega) (by omega)
  have d1 : Cal.Day y m d := ⟨by omega, by omega, by omega, by omega, by omega, by omega⟩
  have d2 : Cal.Day y m (Cal.dim y m) := ⟨by omega, by omega, by omega, by omega, by omega, by omega⟩
  obtain ⟨D, hD⟩ : ∃ D, Cal.dim y m = D := ⟨_, rfl⟩
  obtain ⟨B, hB⟩ : ∃ B, Cal.mb y m = B := ⟨_, rfl⟩
  rw [hD] at lo hi d2 C1 C2
  rw [hB] at bd V1 A1 A2 B1 B2 C1 C2
  have hG : Grown w w := Grown.refl w
  go_enter Tryd.func4, Tryd.ntmps4
  go_upto_region 14 with (first | (go_at_call 8; have mk2 := mk; clear mk2; refine (number_yes _ _ _ _ hT d2).mono ?_; rintro e v1 ⟨rfl, hg1⟩; replace hG := Grown_trans hG hg1; replace hT := hT.grown hg1; clear hg1) | (go_at_call 7; refine (picked_any _ _ _ (by assumption) (by omega) (by omega)).mono ?_; rintro e v1 ⟨rfl, hw⟩; subst v1) | (go_at_call 8; refine (number_yes _ _ _ _ hT d1).mono ?_; rintro e v1 ⟨rfl, hg1⟩; replace hG := Grown_trans hG hg1; replace hT := hT.grown hg1; clear hg1) | (go_at_call 11; refine (find_any _ _ _ _ _ _ hT).mono ?_; rintro e v1 ⟨rfl, hg1⟩; replace hG := Grown_trans hG hg1; replace hT := hT.grown hg1; clear hg1) | (go_at_call 9; refine (days_yes _ _ _ hT (by omega) (by omega) (by omega) (by omega)).mono ?_; rintro e v1 ⟨rfl, hg1⟩; replace hG := Grown_trans hG hg1; replace hT := hT.grown hg1; clear hg1; have mk : True := trivial))
  clear hy hm hk hd w0 w1 w2 w3 E1 E2 E3 E4 V1 V2 V3 V4 sy sm sd d1 d2 hT
  go_wp2_with fail
  go_loop [125] (fun t => ∃ j : Int, 0 ≤ j ∧ j ≤ 3 ∧ t = .int .i64 j) (fun t => (3 - intOf t).toNat)
  case atStart => exact ⟨0, by omega, by omega, rfl⟩
  case round =>
    obtain ⟨j, j1, j2, rfl⟩ := hrel
    have jc : j = 0 ∨ j = 1 ∨ j = 2 ∨ j = 3 := by omega
    clear j1 j2
    rcases jc with rfl | rfl | rfl | rfl
    · go_wp2_with (go_at_call 12; refine (weekday_any _ _).mono ?_; rintro e u1 ⟨rfl, hw⟩; subst u1)
      go_round
      case rel => exact ⟨1, by omega, by omega, rfl⟩
      case measure => simp [intOf]
    · go_wp2_with (go_at_call 12; refine (weekday_any _ _).mono ?_; rintro e u1 ⟨rfl, hw⟩; subst u1)
      go_round
      case rel => exact ⟨2, by omega, by omega, rfl⟩
      case measure => simp [intOf]
    · go_wp2_with (go_at_call 12; refine (weekday_any _ _).mono ?_; rintro e u1 ⟨rfl, hw⟩; subst u1)
      go_round
      case rel => exact ⟨3, by omega, by omega, rfl⟩
      case measure => simp [intOf]
    · clear T2 T3 T4
      go_wp2
      go_ret
      exact ⟨rfl, hG.alloc _ _⟩

theorem daysFound_own : ownKnob Tryd.prog.godebug = none := by kernel_rfl
theorem gTab : Tryd.prog.globalNamed "sundial/civil.daysAhead" = some 0 := by kernel_rfl
theorem gTabType : (Tryd.prog.globals[0]?).map (·.type) = some 45 := by kernel_rfl
theorem cellsTab : Tryd.prog.cellsOf 45 = 13 := by kernel_rfl
theorem cellsNum : Tryd.prog.cellsOf 3 = 1 := by kernel_rfl
/-- What the row's list gives: the table's cells hold its thirteen numbers. -/
theorem daysFound_table {W : World} (h : laidMetH Tryd.prog Rows.daysFoundRow.laid W) : Lib.TabIs Tryd.prog W "sundial/civil.daysAhead" .i64 [0, 31, 59, 90, 120, 151, 181, 212, 243, 273, 304, 334, 365] :=
  Lib.tabIs_of_head (rest := []) gTab gTabType Tryd.underlying45 Tryd.underlying3 cellsNum cellsTab h
theorem daysFound_tab {W : World} (h : laidMetH Tryd.prog Rows.daysFoundRow.laid W) : Tab W := by
  intro m h1 h2
  have t := daysFound_table h
  rcases cases13 h1 h2 with e | e | e | e | e | e | e | e | e | e | e | e | e <;> subst e
  · exact t.cell gTab 0 (by decide)
  · exact t.cell gTab 1 (by decide)
  · exact t.cell gTab 2 (by decide)
  · exact t.cell gTab 3 (by decide)
  · exact t.cell gTab 4 (by decide)
  · exact t.cell gTab 5 (by decide)
  · exact t.cell gTab 6 (by decide)
  · exact t.cell gTab 7 (by decide)
  · exact t.cell gTab 8 (by decide)
  · exact t.cell gTab 9 (by decide)
  · exact t.cell gTab 10 (by decide)
  · exact t.cell gTab 11 (by decide)
  · exact t.cell gTab 12 (by decide)
/-- A world for the witness: the settled one, the table holding what its initialiser lays. -/
def laidHeap (w : World) : World := { w with heap := w.heap.modify 0 fun
    | .cells _ t frozen => .cells #[.int .i64 0, .int .i64 31, .int .i64 59, .int .i64 90, .int .i64 120, .int .i64 151, .int .i64 181, .int .i64 212, .int .i64 243, .int .i64 273, .int .i64 304, .int .i64 334, .int .i64 365] t frozen
    | o => o }
theorem daysFound_met (os : Os) : laidMet Tryd.prog Rows.daysFoundRow.laid ((laidHeap (World.holding Tryd.prog os ⟨#[], #[], []⟩)).forCall (fun _ _ => 0) ⟨#[], #[.int .i64 0, .int .i64 0, .int .i64 0, .int .i64 0], []⟩).memory :=
  laidMet_of_run' 8 (by kernel_rfl) (by kernel_rfl)
theorem daysFound_reads (os : Os) {H : Type} (enc : TypeId × Value → H) : ∃ places, DataW.whole enc Tryd.prog ((laidHeap (World.holding Tryd.prog os ⟨#[], #[], []⟩)).forCall (fun _ _ => 0) ⟨#[], #[.int .i64 0, .int .i64 0, .int .i64 0, .int .i64 0], []⟩).memory Tryd.f4.params.toList Rows.daysFoundSpec.vars false (#[.int .i64 0, .int .i64 0, .int .i64 0, .int .i64 0] : Array Value).toList 8 = some ([.lit (.int .i64 0), .lit (.int .i64 0), .lit (.int .i64 0), .lit (.int .i64 0)], [], places) :=
  ⟨[], by kernel_rfl⟩
theorem daysFound_contract (H : Type) (enc : TypeId × Value → H) (W : World) (base : Nat) (args : Array Value) (ds gs : List (DataW H)) (before : List MemPlace)
    (hval : ∀ (j : Nat) t v, Tryd.f4.params[j]? = some t → args[j]? = some v → Value.okWide Tryd.prog W .any base t v)
    (hW : DataW.Whole enc Tryd.prog Tryd.f4.params.toList Rows.daysFoundSpec.vars false W args.toList ds gs before) (hL : laidMetH Tryd.prog Rows.daysFoundRow.laid W) :
    Calls Tryd.prog 4 args W fun e W' => ∃ v, e = .returned v ∧ Rows.daysFoundSpec.post enc Tryd.prog Tryd.f4 false true false false W args v W' := by
  have hW' := hW
  obtain ⟨p, q, hA0, hV, rfl, hfz, hnd⟩ := hW
  have hA : DataW.TrodAll enc Tryd.prog W 0 (fun _ => true) true Tryd.f4.params.toList args.toList ds p := hA0
  rw [Tryd.params4] at hA hval
  obtain ⟨v0, vs0, d0, ds0, p0, q0, hargs, rfl, rfl, h0, r0⟩ := trodAll_cons hA
  obtain ⟨v1, vs1, d1, ds1, p1, q1, rfl, rfl, rfl, h1, r1⟩ := trodAll_cons r0
  obtain ⟨v2, vs2, d2, ds2, p2, q2, rfl, rfl, rfl, h2, r2⟩ := trodAll_cons r1
  obtain ⟨v3, vs3, d3, ds3, p3, q3, rfl, rfl, rfl, h3, r3⟩ := trodAll_cons r2
  obtain ⟨rfl, rfl, rfl⟩ := trodAll_nil r3
  obtain rfl : args = #[v0, v1, v2, v3] := by cases args; simp_all
  obtain ⟨rfl, rfl⟩ := trodVars_none hV
  obtain ⟨a0, rfl, rfl, rfl, w0⟩ := open_int Tryd.underlying3 (hval 0 3 v0 rfl rfl) h0
  obtain ⟨a1, rfl, rfl, rfl, w1⟩ := open_int Tryd.underlying3 (hval 1 3 v1 rfl rfl) h1
  obtain ⟨a2, rfl, rfl, rfl, w2⟩ := open_int Tryd.underlying3 (hval 2 3 v2 rfl rfl) h2
  obtain ⟨a3, rfl, rfl, rfl, w3⟩ := open_int Tryd.underlying3 (hval 3 3 v3 rfl rfl) h3
  clear hA0
  simp only [List.append_nil] at hW'
  refine (daysFound_walk a0 a1 a2 a3 w0 w1 w2 w3 W (daysFound_tab hL)).mono fun e W' ⟨he, hg⟩ => ?_
  subst he
  exact ⟨_, rfl, post_of_same (pa := []) (pv := []) hW' (fun _ _ _ => (trodAll_cons_mk (shut_bool Tryd.underlying4 _) trodAll_mk0)) (fun sp _ => (trodAll_cons_mk (shut_int Tryd.underlying3 w0) (trodAll_cons_mk (shut_int Tryd.underlying3 w1) (trodAll_cons_mk (shut_int Tryd.underlying3 w2) (trodAll_cons_mk (shut_int Tryd.underlying3 w3) trodAll_mk0))))) (fun _ _ => rfl) rfl
    (hg.frame _) hg.2.1 (ok_one (by kernel_rfl) rfl (okWide_bool_mk Tryd.underlying4 _))⟩
set_option maxRecDepth 100000 in
theorem daysFound_lifted (os : Os) (started : os.Started) (H : Type) (enc : TypeId × Value → H) (F : Stop.Interp) :
    ReturnsInHanded {} Tryd.checked os 4 .any ((OpenSpec.ofChange Rows.daysFoundSpec).preRow enc Tryd.prog Tryd.f4 Rows.daysFoundRow.domain false Rows.daysFoundRow.laid) (((OpenSpec.ofChange Rows.daysFoundSpec).at F).post enc Tryd.prog Tryd.f4 false true false false) := by
  obtain ⟨places, hx⟩ := daysFound_reads os enc
  refine returnsInHanded_of_row (C := Tryd.checked) (s := OpenSpec.ofChange Rows.daysFoundSpec) daysFound_own started (by kernel_rfl) Tryd.func4
    (witness_row_at (enc := enc) (C := Tryd.checked) false (laidHeap (World.holding Tryd.prog os ⟨#[], #[], []⟩)) #[.int .i64 0, .int .i64 0, .int .i64 0, .int .i64 0] rfl (by kernel_rfl) (by kernel_rfl) (by kernel_rfl)
      (OpenSpec.preRow_of_cond 8 hx (by kernel_rfl) (fun k hk => by cases hk) (by kernel_rfl) (daysFound_met os))) ?_
  intro W base args ds gs before hval hW _ _ _ hL _ _
  exact daysFound_contract H enc W base args ds gs before hval hW hL
theorem daysFound_said : Rows.DaysFoundSaid :=
  OpenClaim.holds_of_cond 4 Tryd.f4 rfl rfl rfl rfl rfl rfl rfl ⟨rfl, rfl, rfl, rfl, rfl⟩ rfl rfl rfl rfl rfl (by kernel_rfl) Tryd.func4 (by kernel_rfl)
    (of_decide_eq_true (by kernel_rfl)) (by unfold Func.isWrapper; first | (rw [if_pos (by decide +kernel)]; kernel_rfl) | (rw [if_neg (by decide +kernel)]; exact ⟨rfl, rfl⟩))
    (fun os started H enc _ F => by rw [OpenClaim.pre_eq_preRow]; exact daysFound_lifted os started H enc F)
theorem daysFound_plain (f : FuncId) (fn : Func) (hf : Tryd.pinned.checked.prog.funcNamed "sundial/sundialkeep.DaysFound" = some f) (hfn : Tryd.pinned.checked.prog.funcs[f]? = some fn) :
    false = Tryd.pinned.checked.prog.looks [] ∧ ∀ (j : Nat) t, fn.params[j]? = some t → Tryd.pinned.checked.prog.wantsStandIn t = false := by
  obtain rfl : f = 4 := Option.some.inj ((show Tryd.prog.funcNamed "sundial/sundialkeep.DaysFound" = some 4 by kernel_rfl).symm.trans hf) |>.symm
  obtain rfl : fn = Tryd.f4 := (Option.some.inj (Tryd.func4.symm.trans hfn)).symm
  refine ⟨by kernel_rfl, fun j t ht => ?_⟩
  rw [Tryd.params4] at ht
  have hm : t = 3 := by have h := Array.mem_of_getElem? ht; simp at h; first | simpa using h | (rcases h with h | h | h | h <;> simp [h]) | (rcases h with h | h | h <;> simp [h])
  rcases hm with rfl
  exact (show Tryd.prog.wantsStandIn 3 = false by kernel_rfl)
/-- The card. -/
theorem daysFound_card : Rows.DaysFoundCardSaid :=
  Claim7.holds_tied_plain_at .later [] _ _ _ _ daysFound_said (fun _ h => by cases h) (by kernel_rfl) (fun _ h => by cases h) daysFound_row_tie rfl ⟨rfl, rfl⟩ (by kernel_rfl) rfl daysFound_plain (by kernel_rfl)
#print axioms daysFound_card
end Go.Proofs.YtgncfbckgbkpcacDoor
