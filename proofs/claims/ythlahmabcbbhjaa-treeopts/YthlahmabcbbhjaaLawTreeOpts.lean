/- Proved: at every api.Forest, ways and number the law TreeOpts returns true: tree.Opt answers as the document's answer does. No condition. -/
import Derived.Test.YthlahmabcbbhjaaOpt
import Derived.Test.YthlahmabcbbhjaaTwi
import Derived.Test.YthlahmabcbbhjaaTreF
import Derived.Test.YthlahmabcbbhjaaTreB
import Derived.Test.YthlahmabcbbhjaaTreK
import Derived.Test.YthlahmabcbbhjaaOpnZ
namespace Go.Proofs.Ythlahmabcbbhjaa
open Go.ChangeShapes Go.WideShapes Go.ChangeAt Go.RowKit
set_option linter.unusedVariables false
set_option maxHeartbeats 3200000 in
theorem treeOpts_far (x : Fst) (ways n : Int) (w : World) (hx : FstOk w x) (hw : forF x = 0 → ways < 0 ∨ 7 < ways) :
    Calls Try.prog 3 #[.agg x.cells.toArray, .int .i64 ways, .int .i64 n] w fun e w' => e = .returned (.bool true) ∧ Gr w w' := by
  have HO : Hid _ := fun W (hg : Gr w W) => opt_far x ways W (hx.gr hg) hw
  have HF : Hid _ := fun W (hg : Gr w W) => forestFault_any x W (hx.gr hg)
  obtain ⟨E, hE⟩ : ∃ E, forF x = E := ⟨_, rfl⟩
  rw [hE] at hw
  simp only [hE] at HO HF
  clear hE
  obtain ⟨na, ncap, nodes, aa, acap, answers⟩ := x
  simp only [Fst.cells] at HO HF ⊢
  have HW : Hid _ := hw
  clear hw
  by_cases hE0 : E = 0
  · subst hE0
    have hn := HW.out rfl
    simp only [if_true] at HO
    go_enter Try.func3, Try.ntmps3
    go_wp2_with fail
    refine (HO.out _ (by repeat (with_reducible first | exact Gr.refl _ | refine Gr.drew ?_ | refine Gr.alloc ?_ _))).mono ?_
    rintro e w1 ⟨rfl, hg1⟩
    have k1 : w1.heap[w.heap.size]? = some (.cells #[.slice na nodes.length ncap, .slice aa answers.length acap] 25) := (hg1.block w.heap.size (by simp)).trans (heapA w _)
    obtain ⟨c1, f1⟩ := row_all k1
    have z1 : w.heap.size < w1.heap.size := (Array.getElem?_eq_some_iff.1 k1).1
    have HGW : Hid _ := (show Gr w w1 from ((Gr.refl _).alloc _).trans hg1)
    clear k1 hg1
    go_wp2_with fail
    refine (HF.out _ (by repeat (with_reducible first | exact HGW.out | refine Gr.drew ?_ | refine Gr.alloc ?_ _))).mono ?_
    rintro e w2 ⟨rfl, hgn⟩
    have hg2 := Gr.ofGrown hgn
    have k2 : w2.heap[w1.heap.size]? = some (.cells #[.slice none 0 0, .slice none 0 0] 25) := (hg2.block w1.heap.size (by simp)).trans (heapA w1 _)
    obtain ⟨c2, f2⟩ := row_all k2
    have HG2 : Hid _ := (show Gr w w2 from (HGW.out.alloc _).trans hg2)
    clear k2 hg2 hgn c1 f1
    rcases Int.lt_or_le ways 0 with g | g
    · have hb : decide (ways < 0) = true := by simpa using g
      go_wp2_with fail
      go_ret
      exact ⟨rfl, HG2.out⟩
    · have h7 : 7 < ways := by omega
      have hb : decide (ways < 0) = false := by simpa using g
      go_wp2_with fail
      go_ret
      exact ⟨rfl, HG2.out⟩
  · rw [if_neg hE0] at HO
    have g0 : (E != 0) = true := by simpa using hE0
    have g1 : (E == 0) = false := by simpa using hE0
    go_enter Try.func3, Try.ntmps3
    go_wp2_with fail
    refine (HO.out _ (by repeat (with_reducible first | exact Gr.refl _ | refine Gr.drew ?_ | refine Gr.alloc ?_ _))).mono ?_
    rintro e w1 ⟨rfl, hg1⟩
    have k1 : w1.heap[w.heap.size]? = some (.cells #[.slice na nodes.length ncap, .slice aa answers.length acap] 25) := (hg1.block w.heap.size (by simp)).trans (heapA w _)
    obtain ⟨c1, f1⟩ := row_all k1
    have z1 : w.heap.size < w1.heap.size := (Array.getElem?_eq_some_iff.1 k1).1
    have HGW : Hid _ := (show Gr w w1 from ((Gr.refl _).alloc _).trans hg1)
    clear k1 hg1
    go_wp2_with fail
    refine (HF.out _ (by repeat (with_reducible first | exact HGW.out | refine Gr.drew ?_ | refine Gr.alloc ?_ _))).mono ?_
    rintro e w2 ⟨rfl, hgn⟩
    have hg2 := Gr.ofGrown hgn
    have k2 : w2.heap[w1.heap.size]? = some (.cells #[.slice none 0 0, .slice none 0 0] 25) := (hg2.block w1.heap.size (by simp)).trans (heapA w1 _)
    obtain ⟨c2, f2⟩ := row_all k2
    have HG2 : Hid _ := (show Gr w w2 from (HGW.out.alloc _).trans hg2)
    clear k2 hg2 hgn c1 f1
    go_wp2_with fail
    go_ret
    exact ⟨rfl, HG2.out⟩
set_option maxHeartbeats 3200000 in
theorem treeOpts_ok (x : Fst) (ways n : Int) (w : World) (hx : FstOk w x) (h0 : forF x = 0) (hw0 : 0 ≤ ways) (hw7 : ways ≤ 7) (wn : (Lit.int .i64 n).wf = true) (hr : x.nodes.length * 40 ≤ 140737488351232) :
    Calls Try.prog 3 #[.agg x.cells.toArray, .int .i64 ways, .int .i64 n] w fun e w' => e = .returned (.bool true) ∧ Gr w w' := by
  have HO : Hid _ := fun W (hg : Gr w W) => opt_ok x ways W (hx.gr hg) h0 hw0 hw7
  have HF : Hid _ := fun W (hg : Gr w W) => forestFault_any x W (hx.gr hg)
  have HB : Hid _ := fun W (hg : Gr w W) => bounds_any x W (hx.gr hg) hr
  have HE : Hid _ := fun t W (hg : Gr w W) => evalOf_any x t W (hx.gr hg)
  simp only [h0] at HF HE
  have H0 : Hid _ := h0
  clear h0 hr
  obtain ⟨F, hF⟩ : ∃ F : Fst, F = x := ⟨_, rfl⟩
  have HFF : Hid _ := hF
  obtain ⟨na, ncap, nodes, aa, acap, answers⟩ := x
  rw [← hF] at HO HE HB
  rw [← hF] at H0
  have ec : F.cells = [.slice na nodes.length ncap, .slice aa answers.length acap] := by rw [hF]; rfl
  rw [ec] at HO HE HB
  clear ec hF
  simp only [Fst.cells] at HF ⊢
  have b0 : decide (ways < 0) = false := by simpa using hw0
  have b7 : decide (7 < ways) = false := by simpa using hw7
  go_enter Try.func3, Try.ntmps3
  go_wp2_with fail
  refine (HO.out _ (by repeat (with_reducible first | exact Gr.refl _ | refine Gr.drew ?_ | refine Gr.alloc ?_ _))).mono ?_
  rintro e w1 ⟨g, rfl, hM⟩
  have hg1 := hM.gr
  have k1 : w1.heap[w.heap.size]? = some (.cells #[.slice na nodes.length ncap, .slice aa answers.length acap] 25) := (hg1.block w.heap.size (by simp)).trans (heapA w _)
  obtain ⟨c1, f1⟩ := row_all k1
  have z1 : w.heap.size < w1.heap.size := (Array.getElem?_eq_some_iff.1 k1).1
  have hgw : Gr w w1 := ((Gr.refl _).alloc _).trans hg1
  have HGW : Hid _ := hgw
  have HM : Hid _ := hM
  have HFG : Hid _ := fun W (hg : Gr w1 W) => forestFault_any g W (hM.ok.gr hg)
  have HEG : Hid _ := fun t W (hg : Gr w1 W) => evalOf_any g t W (hM.ok.gr hg)
  have HGG : Hid _ := hM.good
  have HTW : Hid _ := fun (hm : isM ways = true) W (hg : Gr w1 W) => twins_any g.aa g.acap g.answers W (hM.ok.aat.gr hg) (fun x hx => (hM.ok.aok x hx).gr hg) (hM.twins hm) (good_of hM.good).a2 hM.ok.acap
  simp only [hM.good] at HFG HEG
  have ga2 := (good_of hM.good).a2
  have gn1 := (good_of hM.good).ne
  have K1 : Hid _ := k1
  clear k1 hg1 hM hgw
  obtain ⟨G, hG⟩ : ∃ G : Fst, G = g := ⟨_, rfl⟩
  obtain ⟨nb, nbcap, nodes2, ab, abcap, answers2⟩ := g
  rw [← hG] at HEG HM HGG
  have ec : G.cells = [.slice nb nodes2.length nbcap, .slice ab answers2.length abcap] := by rw [hG]; rfl
  rw [ec] at HEG
  clear ec hG
  simp only [Fst.cells] at HFG ⊢
  simp only at HTW ga2 gn1
  go_wp2_with fail
  refine (HF.out _ (by repeat (with_reducible first | exact HGW.out | refine Gr.drew ?_ | refine Gr.alloc ?_ _))).mono ?_
  rintro e w2 ⟨rfl, hgn⟩
  have hg2 : Gr w1 w2 := ((Gr.refl _).alloc _).trans (Gr.ofGrown hgn)
  have k2 : w2.heap[w1.heap.size]? = some (.cells #[.slice nb nodes2.length nbcap, .slice ab answers2.length abcap] 25) := ((Gr.ofGrown hgn).block w1.heap.size (by simp)).trans (heapA w1 _)
  have j2 := (hg2.block w.heap.size z1).trans K1.out
  obtain ⟨c2, f2⟩ := row_all k2
  obtain ⟨d2, e2⟩ := row_all j2
  have K2 : Hid _ := k2
  have J2 : Hid _ := j2
  have HG2 : Hid _ := hg2
  have z2 : w1.heap.size < w2.heap.size := (Array.getElem?_eq_some_iff.1 k2).1
  clear k2 j2 hg2 hgn c1 f1
  go_wp2_with fail
  refine (HFG.out _ HG2.out).mono ?_
  rintro e w3 ⟨rfl, hgn⟩
  have hg3 : Gr w2 w3 := Gr.ofGrown hgn
  have k3 := (hg3.block w1.heap.size z2).trans K2.out
  have j3 := (hg3.block w.heap.size (by omega)).trans J2.out
  obtain ⟨c3, f3⟩ := row_all k3
  obtain ⟨d3, e3⟩ := row_all j3
  have K3 : Hid _ := k3
  have J3 : Hid _ := j3
  have HG3 : Hid _ := HG2.out.trans hg3
  have z3 : w1.heap.size < w3.heap.size := (Array.getElem?_eq_some_iff.1 k3).1
  clear k3 j3 hg3 hgn c2 f2 d2 e2
  have hrem : ways.tmod 2 = ways % 2 := by rw [Int.tmod_eq_emod_of_nonneg hw0]
  by_cases hm : ways % 2 = 1
  · have hb : (ways.tmod 2 == 1) = true := by rw [hrem]; simpa using hm
    have hbm : isM ways = true := decide_eq_true hm
    go_wp2_with fail
    refine (HTW.out hbm _ (by exact HG3.out)).mono ?_
    rintro e w4 ⟨rfl, hg4⟩
    have k4 := (hg4.block w1.heap.size z3).trans K3.out
    have j4 := (hg4.block w.heap.size (by omega)).trans J3.out
    obtain ⟨c4, f4⟩ := row_all k4
    obtain ⟨d4, e4⟩ := row_all j4
    have K4 : Hid _ := k4
    have J4 : Hid _ := j4
    have HG4 : Hid _ := HG3.out.trans hg4
    have HGW4 : Hid _ := HGW.out.trans HG4.out
    have z4 : w1.heap.size < w4.heap.size := (Array.getElem?_eq_some_iff.1 k4).1
    clear k4 j4 hg4 c3 f3 d3 e3 hrem hm hb hbm
    go_wp2_with fail
    refine (HB.out _ (by repeat (with_reducible first | exact HGW4.out | refine Gr.drew ?_ | refine Gr.alloc ?_ _))).mono ?_
    rintro e w5 ⟨a, cap, zs, rfl, hz, wz, hbn, hg5⟩
    have k5 := (hg5.block w1.heap.size z4).trans K4.out
    have j5 := (hg5.block w.heap.size (by omega)).trans J4.out
    obtain ⟨c5, f5⟩ := row_all k5
    obtain ⟨d5, e5⟩ := row_all j5
    have K5 : Hid _ := k5
    have J5 : Hid _ := j5
    have HG5 : Hid _ := HG4.out.trans hg5
    have z5 : w1.heap.size < w5.heap.size := (Array.getElem?_eq_some_iff.1 k5).1
    have Hz : Hid _ := And.intro hz wz
    clear hbn k5 j5 hg5 hz wz c4 f4 d4 e4
    go_wp2_with fail
    refine (asked_any _ _ _ _ _ Hz.out.1 Hz.out.2 wn).mono ?_
    rintro e w6 ⟨t, rfl, wt, hw6⟩
    subst w6
    have tb := bounds_i64 wt
    obtain ⟨y0, x0, hy0, hx0, hv0⟩ := HM.out.same.same t tb.1 tb.2
    have HV0 : Hid _ := And.intro hy0 (And.intro hx0 hv0)
    clear tb hy0 hx0 hv0 wt
    go_wp2_with fail
    refine (HE.out _ _ (by exact (HGW.out.trans HG5.out))).mono ?_
    rintro e w6 ⟨y, rfl, hy, hyv, hg6⟩
    have k6 := (hg6.block w1.heap.size z5).trans K5.out
    have j6 := (hg6.block w.heap.size (by omega)).trans J5.out
    obtain ⟨c6, f6⟩ := row_all k6
    obtain ⟨d6, e6⟩ := row_all j6
    have K6 : Hid _ := k6
    have HG6 : Hid _ := HG5.out.trans hg6
    have z6 : w1.heap.size < w6.heap.size := (Array.getElem?_eq_some_iff.1 k6).1
    have Hy : Hid _ := hyv
    obtain ⟨off, sv, nm, a', cap', zs', jump⟩ := y
    clear k6 j6 c5 f5 d5 e5 hyv hg6
    simp only [Ans.cells]
    go_wp2_with fail
    have gA : Gr w6 (w6.alloc (Obj.cells #[.int .i64 off, .bool sv, .string nm, .slice a' zs'.length cap', .int .i64 jump] 37)) := (Gr.refl _).alloc _
    refine (HEG.out _ _ (by exact HG6.out.trans gA)).mono ?_
    rintro e w7 ⟨y, rfl, hy2, hyv2, hg7⟩
    have k7 := (hg7.block w6.heap.size (by simp)).trans (heapA w6 _)
    obtain ⟨c7, f7⟩ := row_all k7
    have hy3 := hy.gr (gA.trans hg7)
    have z7 : w6.heap.size < w7.heap.size := (Array.getElem?_eq_some_iff.1 k7).1
    have HG7 : Hid _ := (HG6.out.trans gA).trans hg7
    have Hy2 : Hid _ := same_of_val (Hy.out.trans ((show (evalA F t).val = (evalA G t).val by rw [evalA_yes H0.out HV0.out.2.1, evalA_yes HGG.out HV0.out.1]; exact HV0.out.2.2.symm).trans hyv2.symm))
    obtain ⟨off2, sv2, nm2, a2, cap2, zs2, jump2⟩ := y
    clear k7 c6 f6 d6 e6 hyv2 hg7 hy gA
    simp only [Ans.cells]
    go_wp2_with fail
    refine (sameAnswer_any ⟨off, sv, nm, a', cap', zs', jump⟩ ⟨off2, sv2, nm2, a2, cap2, zs2, jump2⟩ _ (hy3.gr (by repeat (with_reducible first | exact Gr.refl _ | refine Gr.drew ?_ | refine Gr.alloc ?_ _))) (hy2.gr (by repeat (with_reducible first | exact Gr.refl _ | refine Gr.drew ?_ | refine Gr.alloc ?_ _)))).mono ?_
    rintro e w8 ⟨rfl, hg8⟩
    go_wp2
    go_ret
    exact ⟨ret_bool Hy2.out, ((HGW.out.trans HG7.out).alloc _).trans hg8⟩
  · have hb2 : (ways % 2 == 1) = false := by simpa using hm
    obtain ⟨w4, hw4⟩ : ∃ W, W = w3 := ⟨_, rfl⟩
    subst hw4
    have c4 := c3
    have f4 := f3
    have d4 := d3
    have e4 := e3
    have K4 := K3
    have J4 := J3
    have HG4 := HG3
    have z4 := z3
    have HGW4 : Hid _ := HGW.out.trans HG4.out
    clear c3 f3 d3 e3 hrem hm
    go_wp2_with fail
    refine (HB.out _ (by repeat (with_reducible first | exact HGW4.out | refine Gr.drew ?_ | refine Gr.alloc ?_ _))).mono ?_
    rintro e w5 ⟨a, cap, zs, rfl, hz, wz, hbn, hg5⟩
    have k5 := (hg5.block w1.heap.size z4).trans K4.out
    have j5 := (hg5.block w.heap.size (by omega)).trans J4.out
    obtain ⟨c5, f5⟩ := row_all k5
    obtain ⟨d5, e5⟩ := row_all j5
    have K5 : Hid _ := k5
    have J5 : Hid _ := j5
    have HG5 : Hid _ := HG4.out.trans hg5
    have z5 : w1.heap.size < w5.heap.size := (Array.getElem?_eq_some_iff.1 k5).1
    have Hz : Hid _ := And.intro hz wz
    clear hbn k5 j5 hg5 hz wz c4 f4 d4 e4
    go_wp2_with fail
    refine (asked_any _ _ _ _ _ Hz.out.1 Hz.out.2 wn).mono ?_
    rintro e w6 ⟨t, rfl, wt, hw6⟩
    subst w6
    have tb := bounds_i64 wt
    obtain ⟨y0, x0, hy0, hx0, hv0⟩ := HM.out.same.same t tb.1 tb.2
    have HV0 : Hid _ := And.intro hy0 (And.intro hx0 hv0)
    clear tb hy0 hx0 hv0 wt
    go_wp2_with fail
    refine (HE.out _ _ (by exact (HGW.out.trans HG5.out))).mono ?_
    rintro e w6 ⟨y, rfl, hy, hyv, hg6⟩
    have k6 := (hg6.block w1.heap.size z5).trans K5.out
    have j6 := (hg6.block w.heap.size (by omega)).trans J5.out
    obtain ⟨c6, f6⟩ := row_all k6
    obtain ⟨d6, e6⟩ := row_all j6
    have K6 : Hid _ := k6
    have HG6 : Hid _ := HG5.out.trans hg6
    have z6 : w1.heap.size < w6.heap.size := (Array.getElem?_eq_some_iff.1 k6).1
    have Hy : Hid _ := hyv
    obtain ⟨off, sv, nm, a', cap', zs', jump⟩ := y
    clear k6 j6 c5 f5 d5 e5 hyv hg6
    simp only [Ans.cells]
    go_wp2_with fail
    have gA : Gr w6 (w6.alloc (Obj.cells #[.int .i64 off, .bool sv, .string nm, .slice a' zs'.length cap', .int .i64 jump] 37)) := (Gr.refl _).alloc _
    refine (HEG.out _ _ (by exact HG6.out.trans gA)).mono ?_
    rintro e w7 ⟨y, rfl, hy2, hyv2, hg7⟩
    have k7 := (hg7.block w6.heap.size (by simp)).trans (heapA w6 _)
    obtain ⟨c7, f7⟩ := row_all k7
    have hy3 := hy.gr (gA.trans hg7)
    have z7 : w6.heap.size < w7.heap.size := (Array.getElem?_eq_some_iff.1 k7).1
    have HG7 : Hid _ := (HG6.out.trans gA).trans hg7
    have Hy2 : Hid _ := same_of_val (Hy.out.trans ((show (evalA F t).val = (evalA G t).val by rw [evalA_yes H0.out HV0.out.2.1, evalA_yes HGG.out HV0.out.1]; exact HV0.out.2.2.symm).trans hyv2.symm))
    obtain ⟨off2, sv2, nm2, a2, cap2, zs2, jump2⟩ := y
    clear k7 c6 f6 d6 e6 hyv2 hg7 hy gA
    simp only [Ans.cells]
    go_wp2_with fail
    refine (sameAnswer_any ⟨off, sv, nm, a', cap', zs', jump⟩ ⟨off2, sv2, nm2, a2, cap2, zs2, jump2⟩ _ (hy3.gr (by repeat (with_reducible first | exact Gr.refl _ | refine Gr.drew ?_ | refine Gr.alloc ?_ _))) (hy2.gr (by repeat (with_reducible first | exact Gr.refl _ | refine Gr.drew ?_ | refine Gr.alloc ?_ _)))).mono ?_
    rintro e w8 ⟨rfl, hg8⟩
    go_wp2
    go_ret
    exact ⟨ret_bool Hy2.out, ((HGW.out.trans HG7.out).alloc _).trans hg8⟩
theorem treeOpts_walk (x : Fst) (ways n : Int) (w : World) (hx : FstOk w x) (_ww : (Lit.int .i64 ways).wf = true) (wn : (Lit.int .i64 n).wf = true) (hr : x.nodes.length * 40 ≤ 140737488351232) :
    Calls Try.prog 3 #[.agg x.cells.toArray, .int .i64 ways, .int .i64 n] w fun e w' => e = .returned (.bool true) ∧ Gr w w' := by
  by_cases h : forF x = 0 ∧ 0 ≤ ways ∧ ways ≤ 7
  · exact treeOpts_ok x ways n w hx h.1 h.2.1 h.2.2 wn hr
  · exact treeOpts_far x ways n w hx (fun h0 => by
      have : ¬ (0 ≤ ways ∧ ways ≤ 7) := fun k => h ⟨h0, k⟩
      omega)

theorem treeOpts_own : ownKnob Try.prog.godebug = none := by kernel_rfl
theorem treeOpts_laidOut : laidOutB Try.prog = true := by kernel_rfl
theorem treeOpts_rec : ∀ t ∈ Try.f3.params.toList, Try.prog.readableRec t = true ∧ t < Try.prog.types.size := by
  rw [Try.params3]
  intro t ht
  simp only [List.mem_cons, List.not_mem_nil, or_false] at ht
  rcases ht with rfl | rfl | rfl
  all_goals exact ⟨by kernel_rfl, of_decide_eq_true (by kernel_rfl)⟩
set_option maxRecDepth 100000 in
theorem treeOpts_lifted (os : Os) (started : os.Started) (H : Type) (enc : TypeId × Value → H) :
    ReturnsInHanded {} Try.checked os 3 .any (Rows.treeOptsSpec.pre6 enc Try.prog Try.f3 Rows.treeOptsRow.domain false) (Rows.treeOptsSpec.post enc Try.prog Try.f3 false true false false) := by
  refine returnsInHanded_of_change_sized (C := Try.checked) treeOpts_own started (by kernel_rfl) Try.func3
    (ChangeSpec.witness6 (enc := enc) (C := Try.checked) false ⟨#[], #[.agg #[.slice none 0 0, .slice none 0 0], .int .i64 0, .int .i64 0], []⟩ 8 (by kernel_rfl) (by kernel_rfl) (by kernel_rfl) (by kernel_rfl)) ?_
  intro W base args ds gs before hval0 hW hcnd hsz0 _
  have hval : ∀ (j : Nat) t v, Try.f3.params[j]? = some t → args[j]? = some v → Value.okWide Try.prog W .any base t v := hval0
  have hW' := hW
  obtain ⟨p, q, hA0, hV, rfl, hfz, hnd⟩ := hW
  have hA : DataW.TrodAll enc Try.prog W 0 (fun _ => true) true Try.f3.params.toList args.toList ds p := hA0
  have hAk := hA
  have hsz : (DataW.weightsEach Try.prog (Try.f3.params.toList ++ Rows.treeOptsSpec.plain.varTypes Try.prog) (ds ++ gs)).all (· ≤ reachBytes) = true := hsz0
  rw [Try.params3] at hA hval hsz
  obtain ⟨v0, vs0, d0, ds0, p0, q0, hargs, rfl, rfl, h0, r0⟩ := trodAll_cons hA
  obtain ⟨v1, vs1, d1, ds1, p1, q1, rfl, rfl, rfl, h1, r1⟩ := trodAll_cons r0
  obtain ⟨v2, vs2, d2, ds2, p2, q2, rfl, rfl, rfl, h2, r2⟩ := trodAll_cons r1
  obtain ⟨rfl, rfl, rfl⟩ := trodAll_nil r2
  obtain rfl : args = #[v0, v1, v2] := by cases args; simp_all
  obtain ⟨rfl, rfl⟩ := trodVars_none hV
  obtain ⟨x0, rfl, f0⟩ := open_forest (hval 0 25 v0 rfl rfl) h0
  obtain ⟨x1, rfl, _, _, f1⟩ := open_int Try.underlying3 (hval 1 3 v1 rfl rfl) h1
  obtain ⟨x2, rfl, _, _, f2⟩ := open_int Try.underlying3 (hval 2 3 v2 rfl rfl) h2
  have z0 := forest_reach h0 (fun k hk => by simpa using List.all_eq_true.1 hsz k (DataW.weights_mem_each (j := 0) (t := 25) rfl rfl k hk))
  clear hA0 hval0 hsz0
  refine (treeOpts_walk x0 x1 x2 W f0 f1 f2 z0).mono fun e W' ⟨he, hg⟩ => ?_
  subst he
  refine ⟨_, rfl, _, _, _, [], _, [], hW', ?_, gr_trodAll treeOpts_laidOut hg treeOpts_rec hAk (fun x hx => hW'.lt x (List.mem_append_left _ hx)) (fun x hx => by simpa using hW'.lt x (List.mem_append_left _ hx)), ?_, hg.frame _, fun h => by cases h⟩
  · exact trodAll_cons_mk (shut_bool Try.underlying4 _) trodAll_mk0
  · rfl

theorem treeOpts_holds : Rows.TreeOptsSaid :=
  OpenClaim.holds_of_wide 3 Try.f3 rfl rfl rfl rfl rfl rfl rfl ⟨rfl, rfl, rfl, rfl, rfl⟩ rfl rfl rfl rfl rfl (by kernel_rfl) Try.func3 (by kernel_rfl)
    (of_decide_eq_true (by kernel_rfl)) (by unfold Func.isWrapper; first | (rw [if_pos (by decide +kernel)]; kernel_rfl) | (rw [if_neg (by decide +kernel)]; exact ⟨rfl, rfl⟩))
    (fun os started H enc _ => treeOpts_lifted os started H enc)
#print axioms treeOpts_holds
end Go.Proofs.Ythlahmabcbbhjaa
