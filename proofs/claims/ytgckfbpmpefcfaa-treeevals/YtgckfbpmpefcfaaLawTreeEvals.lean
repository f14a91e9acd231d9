/- Proved: at every api.Forest and number the law TreeEvals returns true: tree.Eval answers as the document's answer does. No condition. -/
import Derived.Test.YtgckfbpmpefcfaaTreF
import Derived.Test.YtgckfbpmpefcfaaTreB
import Derived.Test.YtgckfbpmpefcfaaTreK
import Derived.Test.YtgckfbpmpefcfaaOpnZ
namespace Go.Proofs.Ytgckfbpmpefcfaa
open Go.ChangeShapes Go.WideShapes Go.ChangeAt Go.RowKit
set_option linter.unusedVariables false
theorem same_of_val {x y : Ans} (h : x.val = y.val) : Ans.same x y = true := by
  unfold Ans.val at h
  simp only [Prod.mk.injEq] at h
  unfold Ans.same
  exact decide_eq_true ⟨⟨h.1, h.2.1, h.2.2.1⟩, h.2.2.2.2, h.2.2.2.1⟩
set_option maxHeartbeats 1600000 in
theorem treeEvals_walk (x : Fst) (n : Int) (w : World) (hx : FstOk w x) (wn : (Lit.int .i64 n).wf = true) (hr : x.nodes.length * 40 ≤ 140737488351232) :
    Calls Try.prog 5 #[.agg x.cells.toArray, .int .i64 n] w fun e w' => e = .returned (.bool true) ∧ Gr w w' := by
  obtain ⟨na, ncap, nodes, aa, acap, answers⟩ := x
  obtain ⟨x, hF⟩ : ∃ F : Fst, F = ⟨na, ncap, nodes, aa, acap, answers⟩ := ⟨_, rfl⟩
  rw [← hF] at hx hr ⊢
  have ec : x.cells = [.slice na nodes.length ncap, .slice aa answers.length acap] := by rw [hF]; rfl
  have hb := fun W (hw : FstOk W x) => bounds_any x W hw hr
  have he := fun t W (hw : FstOk W x) => eval_any x t W hw
  have ho := fun t W (hw : FstOk W x) => evalOf_any x t W hw
  rw [ec] at hb he ho
  rw [ec]
  have HB : Hid _ := hb
  have HE : Hid _ := he
  have HO : Hid _ := ho
  clear hb he ho ec hF hr
  go_enter Try.func5, Try.ntmps5
  go_wp2_with fail
  refine (HB.out _ (hx.gr (by exact (Gr.refl _).alloc _))).mono ?_
  rintro e w1 ⟨a, cap, zs, rfl, hz, wz, hbn, hg1⟩
  clear hbn
  have k1 := (hg1.block w.heap.size (by simp)).trans (heapA w _)
  have K1 : Hid _ := k1
  have z1 : w.heap.size < w1.heap.size := by have := hg1.size; simp at this; omega
  have hgr : Gr w w1 := ((Gr.refl _).alloc _).trans hg1
  obtain ⟨c1, _⟩ := row_all k1
  have Hz : Hid _ := And.intro hz wz
  clear k1 hg1 hz wz
  go_wp2_with fail
  refine (asked_any _ _ _ _ _ Hz.out.1 Hz.out.2 wn).mono ?_
  rintro e w2 ⟨t, rfl, _, hw2⟩
  subst w2
  go_wp2_with fail
  refine (HE.out _ _ (hx.gr hgr)).mono ?_
  rintro e w2 ⟨y, rfl, hy, hyv, hg2⟩
  have hgr2 := hgr.trans hg2
  have k2 := (hg2.block w.heap.size z1).trans K1.out
  have K2 : Hid _ := k2
  have z2 : w.heap.size < w2.heap.size := Nat.lt_of_lt_of_le z1 hg2.size
  obtain ⟨c2, _⟩ := row_all k2
  have Hy : Hid _ := hyv
  obtain ⟨off, sv, nm, a', cap', zs', jump⟩ := y
  clear k2 c1 hyv hg2
  simp only [Ans.cells]
  go_wp2_with fail
  have gA : Gr w2 (w2.alloc (Obj.cells #[.int .i64 off, .bool sv, .string nm, .slice a' zs'.length cap', .int .i64 jump] 26)) := (Gr.refl _).alloc _
  refine (HO.out _ _ (hx.gr (hgr2.trans gA))).mono ?_
  rintro e w3 ⟨y, rfl, hy2, hyv2, hg3⟩
  have hgr3 := (hgr2.trans gA).trans hg3
  have k3 := (hg3.block w2.heap.size (by simp)).trans (heapA w2 _)
  obtain ⟨c3, _⟩ := row_all k3
  have hy3 := hy.gr (gA.trans hg3)
  have z3 : w2.heap.size < w3.heap.size := by have := hg3.size; simp at this; omega
  have Hy2 : Hid _ := same_of_val (Hy.out.trans hyv2.symm)
  obtain ⟨off2, sv2, nm2, a2, cap2, zs2, jump2⟩ := y
  clear k3 c2 hyv2 hg3 hy gA
  simp only [Ans.cells]
  go_wp2_with fail
  refine (sameAnswer_any ⟨off, sv, nm, a', cap', zs', jump⟩ ⟨off2, sv2, nm2, a2, cap2, zs2, jump2⟩ _ (hy3.gr (by exact (Gr.refl _).alloc _)) (hy2.gr (by exact (Gr.refl _).alloc _))).mono ?_
  rintro e w4 ⟨rfl, hg4⟩
  go_wp2
  go_ret
  exact ⟨ret_bool Hy2.out, (hgr3.alloc _).trans hg4⟩

theorem treeEvals_own : ownKnob Try.prog.godebug = none := by kernel_rfl
theorem treeEvals_laidOut : laidOutB Try.prog = true := by kernel_rfl
theorem treeEvals_rec : ∀ t ∈ Try.f5.params.toList, Try.prog.readableRec t = true ∧ t < Try.prog.types.size := by
  rw [Try.params5]
  intro t ht
  simp only [List.mem_cons, List.not_mem_nil, or_false] at ht
  rcases ht with rfl | rfl
  all_goals exact ⟨by kernel_rfl, of_decide_eq_true (by kernel_rfl)⟩
set_option maxRecDepth 100000 in
theorem treeEvals_lifted (os : Os) (started : os.Started) (H : Type) (enc : TypeId × Value → H) :
    ReturnsInHanded {} Try.checked os 5 .any (Rows.treeEvalsSpec.pre6 enc Try.prog Try.f5 Rows.treeEvalsRow.domain false) (Rows.treeEvalsSpec.post enc Try.prog Try.f5 false true false false) := by
  refine returnsInHanded_of_change_sized (C := Try.checked) treeEvals_own started (by kernel_rfl) Try.func5
    (ChangeSpec.witness6 (enc := enc) (C := Try.checked) false ⟨#[], #[.agg #[.slice none 0 0, .slice none 0 0], .int .i64 0], []⟩ 8 (by kernel_rfl) (by kernel_rfl) (by kernel_rfl) (by kernel_rfl)) ?_
  intro W base args ds gs before hval0 hW hcnd hsz0 _
  have hval : ∀ (j : Nat) t v, Try.f5.params[j]? = some t → args[j]? = some v → Value.okWide Try.prog W .any base t v := hval0
  have hW' := hW
  obtain ⟨p, q, hA0, hV, rfl, hfz, hnd⟩ := hW
  have hA : DataW.TrodAll enc Try.prog W 0 (fun _ => true) true Try.f5.params.toList args.toList ds p := hA0
  have hAk := hA
  have hsz : (DataW.weightsEach Try.prog (Try.f5.params.toList ++ Rows.treeEvalsSpec.plain.varTypes Try.prog) (ds ++ gs)).all (· ≤ reachBytes) = true := hsz0
  rw [Try.params5] at hA hval hsz
  obtain ⟨v0, vs0, d0, ds0, p0, q0, hargs, rfl, rfl, h0, r0⟩ := trodAll_cons hA
  obtain ⟨v1, vs1, d1, ds1, p1, q1, rfl, rfl, rfl, h1, r1⟩ := trodAll_cons r0
  obtain ⟨rfl, rfl, rfl⟩ := trodAll_nil r1
  obtain rfl : args = #[v0, v1] := by cases args; simp_all
  obtain ⟨rfl, rfl⟩ := trodVars_none hV
  obtain ⟨x0, rfl, f0⟩ := open_forest (hval 0 33 v0 rfl rfl) h0
  obtain ⟨x1, rfl, _, _, f1⟩ := open_int Try.underlying3 (hval 1 3 v1 rfl rfl) h1
  have z0 := forest_reach h0 (fun k hk => by simpa using List.all_eq_true.1 hsz k (DataW.weights_mem_each (j := 0) (t := 33) rfl rfl k hk))
  clear hA0 hval0 hsz0
  refine (treeEvals_walk x0 x1 W f0 f1 z0).mono fun e W' ⟨he, hg⟩ => ?_
  subst he
  refine ⟨_, rfl, _, _, _, [], _, [], hW', ?_, gr_trodAll treeEvals_laidOut hg treeEvals_rec hAk (fun x hx => hW'.lt x (List.mem_append_left _ hx)) (fun x hx => by simpa using hW'.lt x (List.mem_append_left _ hx)), ?_, hg.frame _, fun h => by cases h⟩
  · exact trodAll_cons_mk (shut_bool Try.underlying4 _) trodAll_mk0
  · rfl

theorem treeEvals_holds : Rows.TreeEvalsSaid :=
  OpenClaim.holds_of_wide 5 Try.f5 rfl rfl rfl rfl rfl rfl rfl ⟨rfl, rfl, rfl, rfl, rfl⟩ rfl rfl rfl rfl rfl (by kernel_rfl) Try.func5 (by kernel_rfl)
    (of_decide_eq_true (by kernel_rfl)) (by unfold Func.isWrapper; first | (rw [if_pos (by decide +kernel)]; kernel_rfl) | (rw [if_neg (by decide +kernel)]; exact ⟨rfl, rfl⟩))
    (fun os started H enc _ => treeEvals_lifted os started H enc)
#print axioms treeEvals_holds
end Go.Proofs.Ytgckfbpmpefcfaa
