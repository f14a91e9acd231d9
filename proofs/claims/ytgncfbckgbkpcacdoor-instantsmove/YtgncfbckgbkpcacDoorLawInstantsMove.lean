/- Proved: at every input the law InstantsMove returns true: a clock that is ahead shows a moment earlier, by the offset and by what is saved. The table daysAhead holds what its initialiser lays (tied to the program's text by the card). -/
import Derived.Test.YtgncfbckgbkpcacDoorCards
import Derived.Test.YtgncfbckgbkpcacDoorTie
import Derived.Test.YtgncfbckgbkpcacDoorMath
import Derived.Test.YtgncfbckgbkpcacDoorPlain
import Derived.Test.YtgncfbckgbkpcacDoorYear
import Derived.Test.YtgncfbckgbkpcacDoorLaid
import Derived.Test.YtgncfbckgbkpcacDoorBoxes
import Derived.Test.YtgncfbckgbkpcacDoorMom
import Derived.Test.YtgncfbckgbkpcacDoorFind
import Derived.Test.YtgncfbckgbkpcacDoorInst
import Derived.Test.YtgncfbckgbkpcacDoorShapes
import Derived.WalkKit
import Derived.ProofKit
import Derived.OpenShut
import Derived.Deep.DeepHandedRow
import Derived.Lib.LaidTab
import Derived.Deep.Cut
import Derived.Deep.RegionHeld3
import Derived.Deep.RegionWith
namespace Go.Proofs.YtgncfbckgbkpcacDoor
open Go.ChangeShapes Go.WideShapes Go.ChangeAt Go.RowKit
set_option linter.unusedVariables false

theorem cells6_set {W : World} {b : Nat} {x y z p q r : Value} (u : Value) (h : (W.cell? ⟨b, 0, none⟩ = some x ∧ W.cell? ⟨b, 1, none⟩ = some y ∧ W.cell? ⟨b, 2, none⟩ = some z) ∧ W.cell? ⟨b, 3, none⟩ = some p ∧ W.cell? ⟨b, 4, none⟩ = some q ∧ W.cell? ⟨b, 5, none⟩ = some r) :
    ((W.setCell ⟨b, 5, none⟩ u).cell? ⟨b, 0, none⟩ = some x ∧ (W.setCell ⟨b, 5, none⟩ u).cell? ⟨b, 1, none⟩ = some y ∧ (W.setCell ⟨b, 5, none⟩ u).cell? ⟨b, 2, none⟩ = some z) ∧ (W.setCell ⟨b, 5, none⟩ u).cell? ⟨b, 3, none⟩ = some p ∧ (W.setCell ⟨b, 5, none⟩ u).cell? ⟨b, 4, none⟩ = some q ∧ (W.setCell ⟨b, 5, none⟩ u).cell? ⟨b, 5, none⟩ = some u := by
  obtain ⟨⟨h0, h1, h2⟩, h3, h4, h5⟩ := h
  have o : ∀ n : Nat, n ≠ 5 → (W.setCell ⟨b, 5, none⟩ u).cell? ⟨b, n, none⟩ = W.cell? ⟨b, n, none⟩ := fun n hn => World.cell?_setCell_other _ _ _ _ (by intro e; injection e; omega)
  exact ⟨⟨(o 0 (by omega)).trans h0, (o 1 (by omega)).trans h1, (o 2 (by omega)).trans h2⟩, (o 3 (by omega)).trans h3, (o 4 (by omega)).trans h4, World.cell?_setCell_same _ _ _ h5⟩
/-- What Instant says of a day of a month, by each clock. -/
theorem im_facts {y mo d ti o sv : Int} (y1 : 1900 ≤ y) (y2 : y ≤ 2099) (m1 : 1 ≤ mo) (m2 : mo ≤ 12) (d1 : 1 ≤ d) (d2 : d ≤ 28) (t1 : 0 ≤ ti) (t2 : ti ≤ 86399) (o1 : 0 ≤ o) (o2 : o ≤ 86399) (s1 : 0 ≤ sv) (s2 : sv ≤ 7199) :
    (Cal.instE y mo 1 0 d ti 0 o sv = 0 ∧ Cal.instE y mo 1 0 d ti 1 o sv = 0 ∧ Cal.instE y mo 1 0 d ti 2 o sv = 0) ∧
    Cal.instV y mo 1 0 d ti 0 o sv = 86400 * (Cal.mb y mo + d - 1) + ti - o - sv ∧ Cal.instV y mo 1 0 d ti 1 o sv = 86400 * (Cal.mb y mo + d - 1) + ti - o ∧ Cal.instV y mo 1 0 d ti 2 o sv = 86400 * (Cal.mb y mo + d - 1) + ti := by
  have l := Cal.dim_lo y mo
  have dz : Cal.dayF 1 0 d = 0 := by simp [Cal.dayF]; omega
  have e1 := Cal.findE_yes (y := y) (m := mo) (k := 1) (d := 0) (n := d) dz ⟨by omega, by omega⟩
  have f1 : Cal.fnd y mo 1 0 d = Cal.mb y mo + d - 1 := by simp [Cal.fnd]
  have z : ∀ cl : Int, cl = 0 ∨ cl = 1 ∨ cl = 2 → Cal.instE y mo 1 0 d ti cl o sv = 0 := fun cl hc => by
    have mz : Cal.momF mo 1 0 d ti cl = 0 := by unfold Cal.momF; rw [if_neg (by omega), if_pos hc, if_pos (by omega)]
    rw [Cal.instE_find mz ⟨by omega, by omega⟩]; exact e1.1
  have a0 := z 0 (by omega)
  have a1 := z 1 (by omega)
  have a2 := z 2 (by omega)
  refine ⟨⟨a0, a1, a2⟩, ?_, ?_, ?_⟩
  · rw [Cal.instV_yes a0, e1.2, f1]; simp
  · rw [Cal.instV_yes a1, e1.2, f1]; simp
  · rw [Cal.instV_yes a2, e1.2, f1]; simp
set_option maxRecDepth 20000 in
set_option maxHeartbeats 3200000 in
theorem instantsMove_walk (a0 a1 a2 a3 a4 a5 a6 : Int) (w0 : wfi a0) (w1 : wfi a1) (w2 : wfi a2) (w3 : wfi a3) (w4 : wfi a4) (w5 : wfi a5) (w6 : wfi a6) (w : World) (hT : Tab w) :
    Calls Tryd.prog 5 #[.int .i64 a0, .agg #[.int .i64 a1, .int .i64 a2, .int .i64 a3, .int .i64 a4], .int .i64 a5, .int .i64 a6] w fun e w' => e = .returned (.bool true) ∧ Grown w w' := by
  have p2 := Cal.pk_lo a2 (show (0 : Int) < 12 by omega)
  have q2 := Cal.pk_hi a2 (show (0 : Int) < 12 by omega)
  have p3 := Cal.pk_lo a3 (show (0 : Int) < 28 by omega)
  have q3 := Cal.pk_hi a3 (show (0 : Int) < 28 by omega)
  have p4 := Cal.pk_lo a4 (show (0 : Int) < 86400 by omega)
  have q4 := Cal.pk_hi a4 (show (0 : Int) < 86400 by omega)
  have p0 := Cal.pk_lo a0 (show (0 : Int) < 200 by omega)
  have q0 := Cal.pk_hi a0 (show (0 : Int) < 200 by omega)
  have p5 := Cal.pk_lo a5 (show (0 : Int) < 86400 by omega)
  have q5 := Cal.pk_hi a5 (show (0 : Int) < 86400 by omega)
  have p6 := Cal.pk_lo a6 (show (0 : Int) < 7200 by omega)
  have q6 := Cal.pk_hi a6 (show (0 : Int) < 7200 by omega)
  go_enter Tryd.func5, Tryd.ntmps5
  go_wp2
  go_region_held3 (fun w' => w'.cell? ⟨w.heap.size, 1, none⟩ = some (.int .i64 a2) ∧ w'.cell? ⟨w.heap.size, 2, none⟩ = some (.int .i64 a3) ∧ w'.cell? ⟨w.heap.size, 3, none⟩ = some (.int .i64 a4)) (simp [go_sem, World.cell?_alloc_past])
    (first | (go_at_call 7; refine (picked_any _ _ _ (by assumption) (by omega) (by omega)).mono ?_; rintro e v1 ⟨rfl, hw⟩; subst v1))
  all_goals
    rw [IntWalk.i64_in (1 + Cal.pk a2 12) (by omega), IntWalk.i64_in (1 + Cal.pk a3 28) (by omega)]
    generalize hV : World.drew _ = V
    have hG : Grown w V := by rw [← hV]; exact (((Grown.refl _).alloc _ _).alloc _ _).drew
    have hF : V.frozen? ⟨w.heap.size + 1, 5, none⟩ = false := by rw [← hV]; simp [go_sem]
    have hD : (V.cell? ⟨w.heap.size + 1, 0, none⟩ = some (.int .i64 (1 + Cal.pk a2 12)) ∧ V.cell? ⟨w.heap.size + 1, 1, none⟩ = some (.int .i64 1) ∧ V.cell? ⟨w.heap.size + 1, 2, none⟩ = some (.int .i64 0)) ∧
        V.cell? ⟨w.heap.size + 1, 3, none⟩ = some (.int .i64 (1 + Cal.pk a3 28)) ∧ V.cell? ⟨w.heap.size + 1, 4, none⟩ = some (.int .i64 (Cal.pk a4 86400)) ∧ V.cell? ⟨w.heap.size + 1, 5, none⟩ = some (.int .i64 0) := by
      rw [← hV]; simp [go_sem]
    clear hV
    rename_i hHeld
    clear hHeld
    obtain ⟨mo, hmo⟩ : ∃ x, 1 + Cal.pk a2 12 = x := ⟨_, rfl⟩
    obtain ⟨d, hd⟩ : ∃ x, 1 + Cal.pk a3 28 = x := ⟨_, rfl⟩
    obtain ⟨ti, hti⟩ : ∃ x, Cal.pk a4 86400 = x := ⟨_, rfl⟩
    obtain ⟨y, hy⟩ : ∃ x, Cal.pk a0 200 = x - 1900 := ⟨Cal.pk a0 200 + 1900, by omega⟩
    obtain ⟨o, ho⟩ : ∃ x, Cal.pk a5 86400 = x := ⟨_, rfl⟩
    obtain ⟨sv, hsv⟩ : ∃ x, Cal.pk a6 7200 = x := ⟨_, rfl⟩
    rw [hmo, hd, hti] at hD
    rw [hmo, hd, hti]
    have sy : 1900 + (y - 1900) = y := by omega
    have r1 : 1900 ≤ y := by omega
    have r2 : y ≤ 2099 := by omega
    have r3 : 1 ≤ mo := by omega
    have r4 : mo ≤ 12 := by omega
    have r5 : 1 ≤ d := by omega
    have r6 : d ≤ 28 := by omega
    have r7 : 0 ≤ ti := by omega
    have r8 : ti ≤ 86399 := by omega
    have r9 : 0 ≤ o := by omega
    have r10 : o ≤ 86399 := by omega
    have r11 : 0 ≤ sv := by omega
    have r12 : sv ≤ 7199 := by omega
    clear p2 q2 p3 q3 p4 q4 p0 q0 p5 q5 p6 q6 hmo hd hti w1 w2 w3 w4
    obtain ⟨⟨E0, E1, E2⟩, V0, V1, V2⟩ := im_facts r1 r2 r3 r4 r5 r6 r7 r8 r9 r10 r11 r12
    have lo := Cal.dim_lo y mo
    have bd := Cal.mb_bd (y := y) mo (by omega) (by omega)
    have dd : Cal.Day y mo d := ⟨by omega, by omega, by omega, by omega, by omega, by omega⟩
    obtain ⟨B, hB⟩ : ∃ B, Cal.mb y mo = B := ⟨_, rfl⟩
    rw [hB] at bd V0 V1 V2
    go_upto_region 6 with (first
      | (go_at_call 7; refine (picked_any _ _ _ (by assumption) (by omega) (by omega)).mono ?_; rintro e v1 ⟨rfl, hw⟩; subst v1)
      | (go_at_call 13; refine (inst_any _ _ _ _ _ _ _ _ _ _ (hT.grown hG)).mono ?_; rintro e v1 ⟨rfl, hg1⟩; replace hD := cells6 hg1 hD; replace hF := (hg1.2.1 _).trans hF; replace hG := Grown_trans hG hg1; clear hg1))
    go_upto_region 7 with fail
    replace hD := cells6_set (.int .i64 1) hD
    replace hG := hG.setCell (a := ⟨w.heap.size + 1, 5, none⟩) (show w.heap.size ≤ w.heap.size + 1 by omega) (.int .i64 1)
    replace hF := (World.frozen?_setCell _ ⟨w.heap.size + 1, 5, none⟩ _ (.int .i64 1)).trans hF
    go_upto_region 8 with (go_at_call 13; refine (inst_any _ _ _ _ _ _ _ _ _ _ (hT.grown hG)).mono ?_; rintro e v1 ⟨rfl, hg1⟩; replace hD := cells6 hg1 hD; replace hF := (hg1.2.1 _).trans hF; replace hG := Grown_trans hG hg1; clear hg1)
    go_upto_region 9 with fail
    replace hD := cells6_set (.int .i64 2) hD
    replace hG := hG.setCell (a := ⟨w.heap.size + 1, 5, none⟩) (show w.heap.size ≤ w.heap.size + 1 by omega) (.int .i64 2)
    replace hF := (World.frozen?_setCell _ ⟨w.heap.size + 1, 5, none⟩ _ (.int .i64 2)).trans hF
    go_wp2_with (first
      | (go_at_call 13; refine (inst_any _ _ _ _ _ _ _ _ _ _ (hT.grown hG)).mono ?_; rintro e v1 ⟨rfl, hg1⟩; replace hD := cells6 hg1 hD; replace hF := (hg1.2.1 _).trans hF; replace hG := Grown_trans hG hg1; clear hg1)
      | (go_at_call 8; refine (number_yes _ _ _ _ (hT.grown hG) dd).mono ?_; rintro e v1 ⟨rfl, hg1⟩; replace hD := cells6 hg1 hD; replace hF := (hg1.2.1 _).trans hF; replace hG := Grown_trans hG hg1; clear hg1))
    go_ret
    exact ⟨ret_bool (show (86400 * (B + d - 1) + ti == (B + d - 1) * 86400 + ti) = true by simp; omega), hG⟩

theorem instantsMove_own : ownKnob Tryd.prog.godebug = none := by kernel_rfl
theorem gTab : Tryd.prog.globalNamed "sundial/civil.daysAhead" = some 0 := by kernel_rfl
theorem gTabType : (Tryd.prog.globals[0]?).map (·.type) = some 45 := by kernel_rfl
theorem cellsTab : Tryd.prog.cellsOf 45 = 13 := by kernel_rfl
theorem cellsNum : Tryd.prog.cellsOf 3 = 1 := by kernel_rfl
/-- What the row's list gives: the table's cells hold its thirteen numbers. -/
theorem instantsMove_table {W : World} (h : laidMetH Tryd.prog Rows.instantsMoveRow.laid W) : Lib.TabIs Tryd.prog W "sundial/civil.daysAhead" .i64 [0, 31, 59, 90, 120, 151, 181, 212, 243, 273, 304, 334, 365] :=
  Lib.tabIs_of_head (rest := []) gTab gTabType Tryd.underlying45 Tryd.underlying3 cellsNum cellsTab h
theorem instantsMove_tab {W : World} (h : laidMetH Tryd.prog Rows.instantsMoveRow.laid W) : Tab W := by
  intro m h1 h2
  have t := instantsMove_table h
  rcases cases13 h1 h2 with e | e | e | e | e | e | e | e | e | e | e | e | e <;> subst e
  · exact t.cell gTab 0 (by decide)
  · exact t.cell gTab 1 (by decide)
  · exact t.cell gTab 2 (by decide)
  · exact t.cell gTab 3 (by decide)
  · exact t.cell gTab 4 (by decide)
  · exact t.cell gTab 5 (by decide)
  · exact t.cell gTab 6 (by decide)
  · exact t.cell gTab 7 (by decide)
  · exact t.cell gTab 8 (by decide)
  · exact t.cell gTab 9 (by decide)
  · exact t.cell gTab 10 (by decide)
  · exact t.cell gTab 11 (by decide)
  · exact t.cell gTab 12 (by decide)
/-- A world for the witness: the settled one, the table holding what its initialiser lays. -/
def laidHeap (w : World) : World := { w with heap := w.heap.modify 0 fun
    | .cells _ t frozen => .cells #[.int .i64 0, .int .i64 31, .int .i64 59, .int .i64 90, .int .i64 120, .int .i64 151, .int .i64 181, .int .i64 212, .int .i64 243, .int .i64 273, .int .i64 304, .int .i64 334, .int .i64 365] t frozen
    | o => o }
theorem instantsMove_met (os : Os) : laidMet Tryd.prog Rows.instantsMoveRow.laid ((laidHeap (World.holding Tryd.prog os ⟨#[], #[], []⟩)).forCall (fun _ _ => 0) ⟨#[], #[.int .i64 0, .agg #[.int .i64 0, .int .i64 0, .int .i64 0, .int .i64 0], .int .i64 0, .int .i64 0], []⟩).memory :=
  laidMet_of_run' 8 (by kernel_rfl) (by kernel_rfl)
theorem instantsMove_reads (os : Os) {H : Type} (enc : TypeId × Value → H) : ∃ places, DataW.whole enc Tryd.prog ((laidHeap (World.holding Tryd.prog os ⟨#[], #[], []⟩)).forCall (fun _ _ => 0) ⟨#[], #[.int .i64 0, .agg #[.int .i64 0, .int .i64 0, .int .i64 0, .int .i64 0], .int .i64 0, .int .i64 0], []⟩).memory Tryd.f5.params.toList Rows.instantsMoveSpec.vars false (#[.int .i64 0, .agg #[.int .i64 0, .int .i64 0, .int .i64 0, .int .i64 0], .int .i64 0, .int .i64 0] : Array Value).toList 8 = some ([.lit (.int .i64 0), .agg [.lit (.int .i64 0), .lit (.int .i64 0), .lit (.int .i64 0), .lit (.int .i64 0)], .lit (.int .i64 0), .lit (.int .i64 0)], [], places) :=
  ⟨[], by kernel_rfl⟩
theorem instantsMove_contract (H : Type) (enc : TypeId × Value → H) (W : World) (base : Nat) (args : Array Value) (ds gs : List (DataW H)) (before : List MemPlace)
    (hval : ∀ (j : Nat) t v, Tryd.f5.params[j]? = some t → args[j]? = some v → Value.okWide Tryd.prog W .any base t v)
    (hW : DataW.Whole enc Tryd.prog Tryd.f5.params.toList Rows.instantsMoveSpec.vars false W args.toList ds gs before) (hL : laidMetH Tryd.prog Rows.instantsMoveRow.laid W) :
    Calls Tryd.prog 5 args W fun e W' => ∃ v, e = .returned v ∧ Rows.instantsMoveSpec.post enc Tryd.prog Tryd.f5 false true false false W args v W' := by
  have hW' := hW
  obtain ⟨p, q, hA0, hV, rfl, hfz, hnd⟩ := hW
  have hA : DataW.TrodAll enc Tryd.prog W 0 (fun _ => true) true Tryd.f5.params.toList args.toList ds p := hA0
  rw [Tryd.params5] at hA hval
  obtain ⟨v0, vs0, d0, ds0, p0, q0, hargs, rfl, rfl, h0, r0⟩ := trodAll_cons hA
  obtain ⟨v1, vs1, d1, ds1, p1, q1, rfl, rfl, rfl, h1, r1⟩ := trodAll_cons r0
  obtain ⟨v2, vs2, d2, ds2, p2, q2, rfl, rfl, rfl, h2, r2⟩ := trodAll_cons r1
  obtain ⟨v3, vs3, d3, ds3, p3, q3, rfl, rfl, rfl, h3, r3⟩ := trodAll_cons r2
  obtain ⟨rfl, rfl, rfl⟩ := trodAll_nil r3
  obtain rfl : args = #[v0, v1, v2, v3] := by cases args; simp_all
  obtain ⟨rfl, rfl⟩ := trodVars_none hV
  obtain ⟨a0, rfl, rfl, rfl, w0⟩ := open_int Tryd.underlying3 (hval 0 3 v0 rfl rfl) h0
  obtain ⟨a1, a2, a3, a4, rfl, rfl, rfl, w1, w2, w3, w4⟩ := open_raw (hval 1 35 v1 rfl rfl) h1
  obtain ⟨a5, rfl, rfl, rfl, w5⟩ := open_int Tryd.underlying3 (hval 2 3 v2 rfl rfl) h2
  obtain ⟨a6, rfl, rfl, rfl, w6⟩ := open_int Tryd.underlying3 (hval 3 3 v3 rfl rfl) h3
  clear hA0
  simp only [List.append_nil] at hW'
  refine (instantsMove_walk a0 a1 a2 a3 a4 a5 a6 w0 w1 w2 w3 w4 w5 w6 W (instantsMove_tab hL)).mono fun e W' ⟨he, hg⟩ => ?_
  subst he
  exact ⟨_, rfl, post_of_same (pa := []) (pv := []) hW' (fun _ _ _ => (trodAll_cons_mk (shut_bool Tryd.underlying4 _) trodAll_mk0)) (fun sp _ => (trodAll_cons_mk (shut_int Tryd.underlying3 w0) (trodAll_cons_mk (shut_raw w1 w2 w3 w4) (trodAll_cons_mk (shut_int Tryd.underlying3 w5) (trodAll_cons_mk (shut_int Tryd.underlying3 w6) trodAll_mk0))))) (fun _ _ => rfl) rfl
    (hg.frame _) hg.2.1 (ok_one (by kernel_rfl) rfl (okWide_bool_mk Tryd.underlying4 _))⟩
set_option maxRecDepth 100000 in
theorem instantsMove_lifted (os : Os) (started : os.Started) (H : Type) (enc : TypeId × Value → H) (F : Stop.Interp) :
    ReturnsInHanded {} Tryd.checked os 5 .any ((OpenSpec.ofChange Rows.instantsMoveSpec).preRow enc Tryd.prog Tryd.f5 Rows.instantsMoveRow.domain false Rows.instantsMoveRow.laid) (((OpenSpec.ofChange Rows.instantsMoveSpec).at F).post enc Tryd.prog Tryd.f5 false true false false) := by
  obtain ⟨places, hx⟩ := instantsMove_reads os enc
  refine returnsInHanded_of_row (C := Tryd.checked) (s := OpenSpec.ofChange Rows.instantsMoveSpec) instantsMove_own started (by kernel_rfl) Tryd.func5
    (witness_row_at (enc := enc) (C := Tryd.checked) false (laidHeap (World.holding Tryd.prog os ⟨#[], #[], []⟩)) #[.int .i64 0, .agg #[.int .i64 0, .int .i64 0, .int .i64 0, .int .i64 0], .int .i64 0, .int .i64 0] rfl (by kernel_rfl) (by kernel_rfl) (by kernel_rfl)
      (OpenSpec.preRow_of_cond 8 hx (by kernel_rfl) (fun k hk => by cases hk) (by kernel_rfl) (instantsMove_met os))) ?_
  intro W base args ds gs before hval hW _ _ _ hL _ _
  exact instantsMove_contract H enc W base args ds gs before hval hW hL
theorem instantsMove_said : Rows.InstantsMoveSaid :=
  OpenClaim.holds_of_cond 5 Tryd.f5 rfl rfl rfl rfl rfl rfl rfl ⟨rfl, rfl, rfl, rfl, rfl⟩ rfl rfl rfl rfl rfl (by kernel_rfl) Tryd.func5 (by kernel_rfl)
    (of_decide_eq_true (by kernel_rfl)) (by unfold Func.isWrapper; first | (rw [if_pos (by decide +kernel)]; kernel_rfl) | (rw [if_neg (by decide +kernel)]; exact ⟨rfl, rfl⟩))
    (fun os started H enc _ F => by rw [OpenClaim.pre_eq_preRow]; exact instantsMove_lifted os started H enc F)
theorem instantsMove_plain (f : FuncId) (fn : Func) (hf : Tryd.pinned.checked.prog.funcNamed "sundial/sundialkeep.InstantsMove" = some f) (hfn : Tryd.pinned.checked.prog.funcs[f]? = some fn) :
    false = Tryd.pinned.checked.prog.looks [] ∧ ∀ (j : Nat) t, fn.params[j]? = some t → Tryd.pinned.checked.prog.wantsStandIn t = false := by
  obtain rfl : f = 5 := Option.some.inj ((show Tryd.prog.funcNamed "sundial/sundialkeep.InstantsMove" = some 5 by kernel_rfl).symm.trans hf) |>.symm
  obtain rfl : fn = Tryd.f5 := (Option.some.inj (Tryd.func5.symm.trans hfn)).symm
  refine ⟨by kernel_rfl, fun j t ht => ?_⟩
  rw [Tryd.params5] at ht
  have hm : t = 3 ∨ t = 35 := by have h := Array.mem_of_getElem? ht; simp at h; first | simpa using h | (rcases h with h | h | h | h <;> simp [h]) | (rcases h with h | h | h <;> simp [h])
  rcases hm with rfl | rfl
  · exact (show Tryd.prog.wantsStandIn 3 = false by kernel_rfl)
  · exact (show Tryd.prog.wantsStandIn 35 = false by kernel_rfl)
/-- The card. -/
theorem instantsMove_card : Rows.InstantsMoveCardSaid :=
  Claim7.holds_tied_plain_at .later [] _ _ _ _ instantsMove_said (fun _ h => by cases h) (by kernel_rfl) (fun _ h => by cases h) instantsMove_row_tie rfl ⟨rfl, rfl⟩ (by kernel_rfl) rfl instantsMove_plain (by kernel_rfl)
#print axioms instantsMove_card
end Go.Proofs.YtgncfbckgbkpcacDoor
