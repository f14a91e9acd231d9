/- Proved: at every row of raw things and number the law ForestsGood returns true: a forest that may be tells one of its answers. No condition. -/
import Derived.Test.YtkmjoibekjhfgaaFoA
import Derived.Test.YtkmjoibekjhfgaaFoB
import Derived.Test.YtkmjoibekjhfgaaOpnR
namespace Go.Proofs.Ytkmjoibekjhfgaa
open Go.ChangeShapes Go.WideShapes Go.ChangeAt Go.RowKit
set_option linter.unusedVariables false
theorem same_of_val {x y : Ans} (h : x.val = y.val) : Ans.same x y = true := by
  unfold Ans.val at h
  simp only [Prod.mk.injEq] at h
  unfold Ans.same
  exact decide_eq_true ⟨⟨h.1, h.2.1, h.2.2.1⟩, h.2.2.2.2, h.2.2.2.1⟩
theorem evalA_mem {F : Fst} (h : forF F = 0) (t : Int) : evalA F t ∈ F.answers := by
  have hG := good_of h
  obtain ⟨h1, _⟩ := hG.evalI_lt t
  rw [evalA_yes h (List.getElem?_eq_getElem h1)]
  exact List.getElem_mem h1
set_option maxHeartbeats 1600000 in
theorem forestsGood_walk (x : Raws) (n : Int) (w : World) (hx : RawsAt w x.p x.l) (wn : (Lit.int .i64 n).wf = true) :
    Calls Try.prog 3 #[.slice x.p x.l.length x.cap, .int .i64 n] w fun e w' => e = .returned (.bool true) ∧ Gr w w' := by
  obtain ⟨p, cap, l⟩ := x
  simp only at hx ⊢
  have p1 := Cal.pk_lo n (k := 80) (by omega)
  have p2 := Cal.pk_hi n (k := 80) (by omega)
  go_enter Try.func3, Try.ntmps3
  go_wp2_with fail
  refine (forest_any _ _ _ _ hx).mono ?_
  rintro e w1 ⟨F, rfl, hF, h0, hg1⟩
  obtain ⟨na, ncap, nodes, aa, acap, answers⟩ := F
  obtain ⟨X, hX⟩ : ∃ F : Fst, F = ⟨na, ncap, nodes, aa, acap, answers⟩ := ⟨_, rfl⟩
  have hXa : X.aa = aa := by rw [hX]
  have hXl : X.answers = answers := by rw [hX]
  have he := fun t W (hw : FstOk W X) => eval_any X t W hw
  have hc := fun W (hw : FstOk W X) => check_any X W hw
  have ec : X.cells = [.slice na nodes.length ncap, .slice aa answers.length acap] := by rw [hX]; rfl
  rw [← hX] at hF h0 ⊢
  rw [ec] at he hc ⊢
  have HE : Hid _ := he
  have HC : Hid _ := hc
  have H0 : Hid _ := h0
  have HX : Hid _ := And.intro hXa hXl
  clear he hc h0 hX ec hXa hXl hx
  obtain ⟨W1, hW1⟩ : ∃ W1, W1 = w1.alloc (Obj.cells #[.slice na nodes.length ncap, .slice aa answers.length acap] 26) := ⟨_, rfl⟩
  have gW : Gr w1 W1 := by rw [hW1]; exact (Gr.refl _).alloc _
  have kW : W1.heap[w1.heap.size]? = some (.cells #[.slice na nodes.length ncap, .slice aa answers.length acap] 26) := by rw [hW1]; exact heapA _ _
  go_wp2_with (go_at_call 5; refine (picked_any _ _ _ wn (by omega) (by omega)).mono ?_; rintro e w2 ⟨rfl, hw2⟩; subst w2)
  rw [← hW1]
  clear hW1
  have zW : w1.heap.size < W1.heap.size := (Array.getElem?_eq_some_iff.1 kW).1
  have KW : Hid _ := kW
  clear kW
  refine (HE.out _ _ (hF.gr gW)).mono ?_
  rintro e w2 ⟨y, rfl, hy, hyv, hg2⟩
  have Hyv : Hid _ := hyv
  have k2 := (hg2.block _ zW).trans KW.out
  have K2 : Hid _ := k2
  have z2 : w1.heap.size < w2.heap.size := Nat.lt_of_lt_of_le zW hg2.size
  obtain ⟨c2, _⟩ := row_all k2
  clear hyv k2
  rw [H0.out]
  obtain ⟨off, sv, nm, a', cap', zs', jump⟩ := y
  simp only [Ans.cells]
  have gX : Gr w2 (w2.alloc (Obj.cells #[.int .i64 off, .bool sv, .string nm, .slice a' zs'.length cap', .int .i64 jump] 33)) := (Gr.refl _).alloc _
  have gA := (gW.trans hg2).trans gX
  have kA := heapA w2 (Obj.cells #[.int .i64 off, .bool sv, .string nm, .slice a' zs'.length cap', .int .i64 jump] 33)
  have KA : Hid _ := kA
  clear kA
  go_wp2_with fail
  refine (HC.out _ (hF.gr gA)).mono ?_
  rintro e w3 ⟨rfl, hg3⟩
  have g3 := Gr.ofGrown hg3
  rw [H0.out]
  have k3 := (g3.block _ (by simp; omega)).trans ((Below.heap_alloc _ _ _ z2).trans K2.out)
  obtain ⟨c3, _⟩ := row_all k3
  have kb := (g3.block w2.heap.size (by simp)).trans KA.out
  have KB : Hid _ := kb
  have hF3 := hF.gr (gA.trans g3)
  have hy3 := hy.gr (gX.trans g3)
  have hm := evalA_mem H0.out (Cal.pk n 80 - 30)
  have hat := hF3.aat
  have hok := hF3.aok
  rw [HX.out.1, HX.out.2] at hat
  rw [HX.out.2] at hok hm
  have HCF : Hid _ := fun (_ : Unit) => containsFunc_any ⟨off, sv, nm, a', cap', zs', jump⟩ w2.heap.size aa acap answers w3 hat hok hy3 KB.out ⟨_, hm, same_of_val Hyv.out⟩
  have hgf := ((hg1.trans gA).trans g3)
  clear k3 kb c2 hm hat hok hF3 hy3 hg3 gA gX gW hF hy g3
  go_wp2_with (go_at_call 8; refine (HCF.out ()).mono ?_; rintro e w4 ⟨rfl, hg4⟩)
  go_ret
  exact ⟨rfl, hgf.trans hg4⟩

theorem forestsGood_own : ownKnob Try.prog.godebug = none := by kernel_rfl
theorem forestsGood_laidOut : laidOutB Try.prog = true := by kernel_rfl
theorem forestsGood_rec : ∀ t ∈ Try.f3.params.toList, Try.prog.readableRec t = true ∧ t < Try.prog.types.size := by
  rw [Try.params3]
  intro t ht
  simp only [List.mem_cons, List.not_mem_nil, or_false] at ht
  rcases ht with rfl | rfl
  all_goals exact ⟨by kernel_rfl, of_decide_eq_true (by kernel_rfl)⟩
set_option maxRecDepth 100000 in
theorem forestsGood_lifted (os : Os) (started : os.Started) (H : Type) (enc : TypeId × Value → H) :
    ReturnsInHanded {} Try.checked os 3 .any (Rows.forestsGoodSpec.pre6 enc Try.prog Try.f3 Rows.forestsGoodRow.domain false) (Rows.forestsGoodSpec.post enc Try.prog Try.f3 false true false false) := by
  refine returnsInHanded_of_change_sized (C := Try.checked) forestsGood_own started (by kernel_rfl) Try.func3
    (ChangeSpec.witness6 (enc := enc) (C := Try.checked) false ⟨#[], #[.slice none 0 0, .int .i64 0], []⟩ 8 (by kernel_rfl) (by kernel_rfl) (by kernel_rfl) (by kernel_rfl)) ?_
  intro W base args ds gs before hval0 hW hcnd hsz0 _
  have hval : ∀ (j : Nat) t v, Try.f3.params[j]? = some t → args[j]? = some v → Value.okWide Try.prog W .any base t v := hval0
  have hW' := hW
  obtain ⟨p, q, hA0, hV, rfl, hfz, hnd⟩ := hW
  have hA : DataW.TrodAll enc Try.prog W 0 (fun _ => true) true Try.f3.params.toList args.toList ds p := hA0
  have hAk := hA
  have hsz : (DataW.weightsEach Try.prog (Try.f3.params.toList ++ Rows.forestsGoodSpec.plain.varTypes Try.prog) (ds ++ gs)).all (· ≤ reachBytes) = true := hsz0
  rw [Try.params3] at hA hval hsz
  obtain ⟨v0, vs0, d0, ds0, p0, q0, hargs, rfl, rfl, h0, r0⟩ := trodAll_cons hA
  obtain ⟨v1, vs1, d1, ds1, p1, q1, rfl, rfl, rfl, h1, r1⟩ := trodAll_cons r0
  obtain ⟨rfl, rfl, rfl⟩ := trodAll_nil r1
  obtain rfl : args = #[v0, v1] := by cases args; simp_all
  obtain ⟨rfl, rfl⟩ := trodVars_none hV
  obtain ⟨x0, rfl, f0⟩ := open_raws (hval 0 22 v0 rfl rfl) h0
  obtain ⟨x1, rfl, _, _, f1⟩ := open_int Try.underlying3 (hval 1 3 v1 rfl rfl) h1
  clear hA0 hval0 hsz0
  refine (forestsGood_walk x0 x1 W f0 f1).mono fun e W' ⟨he, hg⟩ => ?_
  subst he
  refine ⟨_, rfl, _, _, _, [], _, [], hW', ?_, gr_trodAll forestsGood_laidOut hg forestsGood_rec hAk (fun x hx => hW'.lt x (List.mem_append_left _ hx)) (fun x hx => by simpa using hW'.lt x (List.mem_append_left _ hx)), ?_, hg.frame _, fun h => by cases h⟩
  · exact trodAll_cons_mk (shut_bool Try.underlying4 _) trodAll_mk0
  · rfl

theorem forestsGood_holds : Rows.ForestsGoodSaid :=
  OpenClaim.holds_of_wide 3 Try.f3 rfl rfl rfl rfl rfl rfl rfl ⟨rfl, rfl, rfl, rfl, rfl⟩ rfl rfl rfl rfl rfl (by kernel_rfl) Try.func3 (by kernel_rfl)
    (of_decide_eq_true (by kernel_rfl)) (by unfold Func.isWrapper; first | (rw [if_pos (by decide +kernel)]; kernel_rfl) | (rw [if_neg (by decide +kernel)]; exact ⟨rfl, rfl⟩))
    (fun os started H enc _ => forestsGood_lifted os started H enc)
#print axioms forestsGood_holds
end Go.Proofs.Ytkmjoibekjhfgaa
