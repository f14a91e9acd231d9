/- Proved: at every int the law YearsLong returns true: of each year from 1900 to 2099 the next one begins 365 days later, and one more in a leap year; its months have that many days; February has a 29th just in a leap year. The table daysAhead holds what its initialiser lays (tied to the program's text by the card). -/
import Derived.Test.YtgncfbckgbkpcacDoorCards
import Derived.Test.YtgncfbckgbkpcacDoorTie
import Derived.Test.YtgncfbckgbkpcacDoorMath
import Derived.Test.YtgncfbckgbkpcacDoorPlain
import Derived.Test.YtgncfbckgbkpcacDoorYear
import Derived.Test.YtgncfbckgbkpcacDoorLaid
import Derived.Test.YtgncfbckgbkpcacDoorShapes
import Derived.WalkKit
import Derived.ProofKit
import Derived.OpenShut
import Derived.Deep.DeepHandedRow
import Derived.Lib.LaidTab
namespace Go.Proofs.YtgncfbckgbkpcacDoor
open Go.ChangeShapes Go.WideShapes Go.ChangeAt Go.RowKit
set_option linter.unusedVariables false

set_option maxHeartbeats 3200000 in
theorem yearsLong_walk (a0 : Int) (w0 : wfi a0) (w : World) (hT : Tab w) :
    Calls Tryd.prog 3 #[.int .i64 a0] w fun e w' => e = .returned (.bool true) ∧ Grown w w' := by
  have p1 := Cal.pk_lo a0 (show (0 : Int) < 200 by omega)
  have p2 := Cal.pk_hi a0 (show (0 : Int) < 200 by omega)
  have hp : ∀ W : World, Calls Tryd.prog 7 #[.int .i64 a0, .int .i64 200] W fun e w' => e = .returned (.int .i64 (Cal.pk a0 200)) ∧ w' = W := fun W => picked_any a0 200 W w0 (by omega) (by omega)
  obtain ⟨y, hy⟩ : ∃ y, Cal.pk a0 200 = y - 1900 := ⟨Cal.pk a0 200 + 1900, by omega⟩
  rw [hy] at p1 p2 hp
  have y1 : 1900 ≤ y := by omega
  have y2 : y ≤ 2099 := by omega
  have hs : 1900 + (y - 1900) = y := by omega
  clear w0 p1 p2 hy
  have hG : Grown w w := Grown.refl w
  have l0 := Cal.lp_lo y
  have d1 : Cal.Day y 1 1 := ⟨by omega, by omega, by omega, by omega, by omega, by have := Cal.dim_lo y 1; omega⟩
  have d2 : Cal.Day (y + 1) 1 1 := ⟨by omega, by omega, by omega, by omega, by omega, by have := Cal.dim_lo (y + 1) 1; omega⟩
  by_cases hl : Cal.leapB y = true
  · have d3 : Cal.Day y 2 29 := ⟨by omega, by omega, by omega, by omega, by omega, by simp [Cal.dim, Cal.lp, hl]⟩
    go_enter Tryd.func3, Tryd.ntmps3
    go_wp2_with (first | (go_at_call 7; refine (hp _).mono ?_; rintro e w1 ⟨rfl, hw⟩; subst w1) | (go_at_call 8; refine (number_yes _ _ _ _ hT (by first | exact d1 | exact d2 | exact d3)).mono ?_; rintro e w1 ⟨rfl, hg1⟩; replace hG := Grown_trans hG hg1; replace hT := hT.grown hg1; clear hg1))
    clear d1 d2 d3
    go_loopw [10, 11] (fun s t wr => ∃ m : Int, 1 ≤ m ∧ m ≤ 13 ∧ t = .int .i64 m ∧ s = .int .i64 (Cal.mb y m - Cal.mb y 1) ∧ Grown w wr ∧ Tab wr) (fun _ t _ => (13 - intOf t).toNat)
    case atStart => exact ⟨1, by omega, by omega, rfl, by rw [Int.sub_self], hG, hT⟩
    case round =>
      obtain ⟨m, hm1, hm2, rfl, rfl, hGr, hTr⟩ := hrel
      clear hT hG
      have b1 := Cal.mb_bd (y := y) m (by omega) (by omega)
      have b2 := Cal.mb_bd (y := y) 1 (by omega) (by omega)
      by_cases hlt : m ≤ 12
      · have hs : Hid (Cal.mb y (m + 1) = Cal.mb y m + Cal.dim y m) := Cal.mb_succ y hm1 hlt
        have l1 := Cal.dim_lo y m
        have l2 := Cal.dim_hi y m
        go_wp2_with (go_at_call 9; refine (days_yes _ _ _ hTr (by omega) (by omega) (by omega) (by omega)).mono ?_; rintro e w1 ⟨rfl, hg1⟩; replace hGr := Grown_trans hGr hg1; replace hTr := hTr.grown hg1; clear hg1)
        go_roundw
        case rel => exact ⟨m + 1, by omega, by omega, by go_num, int_eq (by rw [hs.out]; omega), hGr, hTr⟩
        case measure => simp [intOf]; omega
      · have m13 : m = 13 := by omega
        subst m13
        have f1 : Cal.mb y 13 - Cal.mb y 1 = 366 := by
          rw [Cal.mb_13, Cal.mb_one, Cal.yb_succ]; simp [Cal.lp, hl]; omega
        have f2 : Cal.mb (y + 1) 1 - Cal.mb y 1 = 366 := by
          rw [Cal.mb_one, Cal.mb_one, Cal.yb_succ]; simp [Cal.lp, hl]; omega
        rw [f1]
        clear f1 hlt hm1 hm2
        have b3 := Cal.mb_bd (y := y + 1) 1 (by omega) (by omega)
        go_wp2_with (go_at_call 10; refine (leap_any _ _).mono ?_; rintro e w' ⟨rfl, rfl⟩)
        go_ret
        exact ⟨rfl, hGr⟩
  · have d3 : ¬ Cal.Day y 2 29 := fun q => by have e := q.d2; simp [Cal.dim, Cal.lp, hl] at e
    go_enter Tryd.func3, Tryd.ntmps3
    go_wp2_with (first | (go_at_call 7; refine (hp _).mono ?_; rintro e w1 ⟨rfl, hw⟩; subst w1) | (go_at_call 8; refine (number_yes _ _ _ _ hT (by first | exact d1 | exact d2 | exact d3)).mono ?_; rintro e w1 ⟨rfl, hg1⟩; replace hG := Grown_trans hG hg1; replace hT := hT.grown hg1; clear hg1) | (go_at_call 8; refine (number_no _ _ _ _ hT d3).mono ?_; rintro e w1 ⟨rfl, hg1⟩; replace hG := Grown_trans hG hg1; replace hT := hT.grown hg1; clear hg1))
    clear d1 d2 d3
    go_loopw [10, 11] (fun s t wr => ∃ m : Int, 1 ≤ m ∧ m ≤ 13 ∧ t = .int .i64 m ∧ s = .int .i64 (Cal.mb y m - Cal.mb y 1) ∧ Grown w wr ∧ Tab wr) (fun _ t _ => (13 - intOf t).toNat)
    case atStart => exact ⟨1, by omega, by omega, rfl, by rw [Int.sub_self], hG, hT⟩
    case round =>
      obtain ⟨m, hm1, hm2, rfl, rfl, hGr, hTr⟩ := hrel
      clear hT hG
      have b1 := Cal.mb_bd (y := y) m (by omega) (by omega)
      have b2 := Cal.mb_bd (y := y) 1 (by omega) (by omega)
      by_cases hlt : m ≤ 12
      · have hs : Hid (Cal.mb y (m + 1) = Cal.mb y m + Cal.dim y m) := Cal.mb_succ y hm1 hlt
        have l1 := Cal.dim_lo y m
        have l2 := Cal.dim_hi y m
        go_wp2_with (go_at_call 9; refine (days_yes _ _ _ hTr (by omega) (by omega) (by omega) (by omega)).mono ?_; rintro e w1 ⟨rfl, hg1⟩; replace hGr := Grown_trans hGr hg1; replace hTr := hTr.grown hg1; clear hg1)
        go_roundw
        case rel => exact ⟨m + 1, by omega, by omega, by go_num, int_eq (by rw [hs.out]; omega), hGr, hTr⟩
        case measure => simp [intOf]; omega
      · have m13 : m = 13 := by omega
        subst m13
        have f1 : Cal.mb y 13 - Cal.mb y 1 = 365 := by
          rw [Cal.mb_13, Cal.mb_one, Cal.yb_succ]; simp [Cal.lp, hl]; omega
        have f2 : Cal.mb (y + 1) 1 - Cal.mb y 1 = 365 := by
          rw [Cal.mb_one, Cal.mb_one, Cal.yb_succ]; simp [Cal.lp, hl]; omega
        rw [f1]
        clear f1 hlt hm1 hm2
        have b3 := Cal.mb_bd (y := y + 1) 1 (by omega) (by omega)
        go_wp2_with (go_at_call 10; refine (leap_any _ _).mono ?_; rintro e w' ⟨rfl, rfl⟩)
        go_ret
        exact ⟨rfl, hGr⟩

theorem yearsLong_own : ownKnob Tryd.prog.godebug = none := by kernel_rfl
theorem gTab : Tryd.prog.globalNamed "sundial/civil.daysAhead" = some 0 := by kernel_rfl
theorem gTabType : (Tryd.prog.globals[0]?).map (·.type) = some 45 := by kernel_rfl
theorem cellsTab : Tryd.prog.cellsOf 45 = 13 := by kernel_rfl
theorem cellsNum : Tryd.prog.cellsOf 3 = 1 := by kernel_rfl
/-- What the row's list gives: the table's cells hold its thirteen numbers. -/
theorem yearsLong_table {W : World} (h : laidMetH Tryd.prog Rows.yearsLongRow.laid W) : Lib.TabIs Tryd.prog W "sundial/civil.daysAhead" .i64 [0, 31, 59, 90, 120, 151, 181, 212, 243, 273, 304, 334, 365] :=
  Lib.tabIs_of_head (rest := []) gTab gTabType Tryd.underlying45 Tryd.underlying3 cellsNum cellsTab h
theorem yearsLong_tab {W : World} (h : laidMetH Tryd.prog Rows.yearsLongRow.laid W) : Tab W := by
  intro m h1 h2
  have t := yearsLong_table h
  rcases cases13 h1 h2 with e | e | e | e | e | e | e | e | e | e | e | e | e <;> subst e
  · exact t.cell gTab 0 (by decide)
  · exact t.cell gTab 1 (by decide)
  · exact t.cell gTab 2 (by decide)
  · exact t.cell gTab 3 (by decide)
  · exact t.cell gTab 4 (by decide)
  · exact t.cell gTab 5 (by decide)
  · exact t.cell gTab 6 (by decide)
  · exact t.cell gTab 7 (by decide)
  · exact t.cell gTab 8 (by decide)
  · exact t.cell gTab 9 (by decide)
  · exact t.cell gTab 10 (by decide)
  · exact t.cell gTab 11 (by decide)
  · exact t.cell gTab 12 (by decide)
/-- A world for the witness: the settled one, the table holding what its initialiser lays. -/
def laidHeap (w : World) : World := { w with heap := w.heap.modify 0 fun
    | .cells _ t frozen => .cells #[.int .i64 0, .int .i64 31, .int .i64 59, .int .i64 90, .int .i64 120, .int .i64 151, .int .i64 181, .int .i64 212, .int .i64 243, .int .i64 273, .int .i64 304, .int .i64 334, .int .i64 365] t frozen
    | o => o }
theorem yearsLong_met (os : Os) : laidMet Tryd.prog Rows.yearsLongRow.laid ((laidHeap (World.holding Tryd.prog os ⟨#[], #[], []⟩)).forCall (fun _ _ => 0) ⟨#[], #[.int .i64 0], []⟩).memory :=
  laidMet_of_run' 8 (by kernel_rfl) (by kernel_rfl)
theorem yearsLong_reads (os : Os) {H : Type} (enc : TypeId × Value → H) : ∃ places, DataW.whole enc Tryd.prog ((laidHeap (World.holding Tryd.prog os ⟨#[], #[], []⟩)).forCall (fun _ _ => 0) ⟨#[], #[.int .i64 0], []⟩).memory Tryd.f3.params.toList Rows.yearsLongSpec.vars false (#[.int .i64 0] : Array Value).toList 8 = some ([.lit (.int .i64 0)], [], places) :=
  ⟨[], by kernel_rfl⟩
theorem yearsLong_contract (H : Type) (enc : TypeId × Value → H) (W : World) (base : Nat) (args : Array Value) (ds gs : List (DataW H)) (before : List MemPlace)
    (hval : ∀ (j : Nat) t v, Tryd.f3.params[j]? = some t → args[j]? = some v → Value.okWide Tryd.prog W .any base t v)
    (hW : DataW.Whole enc Tryd.prog Tryd.f3.params.toList Rows.yearsLongSpec.vars false W args.toList ds gs before) (hL : laidMetH Tryd.prog Rows.yearsLongRow.laid W) :
    Calls Tryd.prog 3 args W fun e W' => ∃ v, e = .returned v ∧ Rows.yearsLongSpec.post enc Tryd.prog Tryd.f3 false true false false W args v W' := by
  have hW' := hW
  obtain ⟨p, q, hA0, hV, rfl, hfz, hnd⟩ := hW
  have hA : DataW.TrodAll enc Tryd.prog W 0 (fun _ => true) true Tryd.f3.params.toList args.toList ds p := hA0
  rw [Tryd.params3] at hA hval
  obtain ⟨v0, vs0, d0, ds0, p0, q0, hargs, rfl, rfl, h0, r0⟩ := trodAll_cons hA
  obtain ⟨rfl, rfl, rfl⟩ := trodAll_nil r0
  obtain rfl : args = #[v0] := by cases args; simp_all
  obtain ⟨rfl, rfl⟩ := trodVars_none hV
  obtain ⟨a0, rfl, rfl, rfl, w0⟩ := open_int Tryd.underlying3 (hval 0 3 v0 rfl rfl) h0
  clear hA0
  simp only [List.append_nil] at hW'
  refine (yearsLong_walk a0 w0 W (yearsLong_tab hL)).mono fun e W' ⟨he, hg⟩ => ?_
  subst he
  exact ⟨_, rfl, post_of_same (pa := []) (pv := []) hW' (fun _ _ _ => (trodAll_cons_mk (shut_bool Tryd.underlying4 _) trodAll_mk0)) (fun sp _ => (trodAll_cons_mk (shut_int Tryd.underlying3 w0) trodAll_mk0)) (fun _ _ => rfl) rfl
    (hg.frame _) hg.2.1 (ok_one (by kernel_rfl) rfl (okWide_bool_mk Tryd.underlying4 _))⟩
set_option maxRecDepth 100000 in
theorem yearsLong_lifted (os : Os) (started : os.Started) (H : Type) (enc : TypeId × Value → H) (F : Stop.Interp) :
    ReturnsInHanded {} Tryd.checked os 3 .any ((OpenSpec.ofChange Rows.yearsLongSpec).preRow enc Tryd.prog Tryd.f3 Rows.yearsLongRow.domain false Rows.yearsLongRow.laid) (((OpenSpec.ofChange Rows.yearsLongSpec).at F).post enc Tryd.prog Tryd.f3 false true false false) := by
  obtain ⟨places, hx⟩ := yearsLong_reads os enc
  refine returnsInHanded_of_row (C := Tryd.checked) (s := OpenSpec.ofChange Rows.yearsLongSpec) yearsLong_own started (by kernel_rfl) Tryd.func3
    (witness_row_at (enc := enc) (C := Tryd.checked) false (laidHeap (World.holding Tryd.prog os ⟨#[], #[], []⟩)) #[.int .i64 0] rfl (by kernel_rfl) (by kernel_rfl) (by kernel_rfl)
      (OpenSpec.preRow_of_cond 8 hx (by kernel_rfl) (fun k hk => by cases hk) (by kernel_rfl) (yearsLong_met os))) ?_
  intro W base args ds gs before hval hW _ _ _ hL _ _
  exact yearsLong_contract H enc W base args ds gs before hval hW hL
theorem yearsLong_said : Rows.YearsLongSaid :=
  OpenClaim.holds_of_cond 3 Tryd.f3 rfl rfl rfl rfl rfl rfl rfl ⟨rfl, rfl, rfl, rfl, rfl⟩ rfl rfl rfl rfl rfl (by kernel_rfl) Tryd.func3 (by kernel_rfl)
    (of_decide_eq_true (by kernel_rfl)) (by unfold Func.isWrapper; first | (rw [if_pos (by decide +kernel)]; kernel_rfl) | (rw [if_neg (by decide +kernel)]; exact ⟨rfl, rfl⟩))
    (fun os started H enc _ F => by rw [OpenClaim.pre_eq_preRow]; exact yearsLong_lifted os started H enc F)
theorem yearsLong_plain (f : FuncId) (fn : Func) (hf : Tryd.pinned.checked.prog.funcNamed "sundial/sundialkeep.YearsLong" = some f) (hfn : Tryd.pinned.checked.prog.funcs[f]? = some fn) :
    false = Tryd.pinned.checked.prog.looks [] ∧ ∀ (j : Nat) t, fn.params[j]? = some t → Tryd.pinned.checked.prog.wantsStandIn t = false := by
  obtain rfl : f = 3 := Option.some.inj ((show Tryd.prog.funcNamed "sundial/sundialkeep.YearsLong" = some 3 by kernel_rfl).symm.trans hf) |>.symm
  obtain rfl : fn = Tryd.f3 := (Option.some.inj (Tryd.func3.symm.trans hfn)).symm
  refine ⟨by kernel_rfl, fun j t ht => ?_⟩
  rw [Tryd.params3] at ht
  have hm : t = 3 := by have h := Array.mem_of_getElem? ht; simp at h; first | simpa using h | (rcases h with h | h | h | h <;> simp [h]) | (rcases h with h | h | h <;> simp [h])
  rcases hm with rfl
  exact (show Tryd.prog.wantsStandIn 3 = false by kernel_rfl)
/-- The card. -/
theorem yearsLong_card : Rows.YearsLongCardSaid :=
  Claim7.holds_tied_plain_at .later [] _ _ _ _ yearsLong_said (fun _ h => by cases h) (by kernel_rfl) (fun _ h => by cases h) yearsLong_row_tie rfl ⟨rfl, rfl⟩ (by kernel_rfl) rfl yearsLong_plain (by kernel_rfl)
#print axioms yearsLong_card
end Go.Proofs.YtgncfbckgbkpcacDoor
