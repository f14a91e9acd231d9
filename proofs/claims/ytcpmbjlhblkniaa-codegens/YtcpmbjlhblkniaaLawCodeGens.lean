/- Proved: at every api.Forest and number the law CodeGens returns true: the program that code.Gen makes of a forest may be run and tells what the forest does. No condition. -/
import Derived.Test.YtcpmbjlhblkniaaGenA
import Derived.Test.YtcpmbjlhblkniaaRunR
import Derived.Test.YtcpmbjlhblkniaaTreO
import Derived.Test.YtcpmbjlhblkniaaTreF
import Derived.Test.YtcpmbjlhblkniaaTreB
import Derived.Test.YtcpmbjlhblkniaaTreK
import Derived.Test.YtcpmbjlhblkniaaOpnZ
namespace Go.Proofs.Ytcpmbjlhblkniaa
open Go.ChangeShapes Go.WideShapes Go.ChangeAt Go.RowKit
set_option linter.unusedVariables false
set_option maxRecDepth 100000
theorem fault_val {x y : Ans} (h : x.val = y.val) : x.fault = y.fault := by
  unfold Ans.val at h
  simp only [Prod.mk.injEq] at h
  obtain ⟨h1, h2, h3, h4, h5⟩ := h
  unfold Ans.fault
  rw [h1, h3, h4, h5]
/-- What is made of a forest may be run, and tells what the forest does. -/
theorem gen_tells {f : Fst} {p : Prg} (h0 : forF f = 0) (hc : p.code = (Gn.all f.nodes).code) (hp : p.pool = (Gn.all f.nodes).pool) (hv : p.answers.map Ans.val = f.answers.map Ans.val) (h8 : (Gn.all f.nodes).code.length ≤ 8000) (h2 : (Gn.all f.nodes).pool.length ≤ 2000) :
    (Ver.verify p).2.2 = 0 ∧ ∀ t, (ranA p t).val = (evalA f t).val := by
  have hG := good_of h0
  have hl : p.answers.length = f.answers.length := by simpa using congrArg List.length hv
  have hat : ∀ (i : Nat) x y, p.answers[i]? = some x → f.answers[i]? = some y → x.val = y.val := fun i x y hx hy => by
    have := congrArg (·[i]?) hv
    simpa [hx, hy] using this
  have hz : ∀ x ∈ p.answers, x.fault = 0 := fun x hx => by
    obtain ⟨i, hi⟩ := List.getElem?_of_mem hx
    obtain ⟨y, hy⟩ : ∃ y, f.answers[i]? = some y := ⟨_, List.getElem?_eq_getElem (by rw [← hl]; exact (List.getElem?_eq_some_iff.1 hi).1)⟩
    rw [fault_val (hat i x y hi hy)]
    exact hG.ans y (List.mem_of_getElem? hy)
  obtain ⟨v1, v2⟩ := Gn.gen_law h0 hc hp hl hz (by rw [hc]; exact h8) (by rw [hp]; exact h2)
  refine ⟨v1, fun t => ?_⟩
  have hlt := (hG.evalI_lt t).1
  obtain ⟨y, hy⟩ : ∃ y, f.answers[evalI f t]? = some y := ⟨_, List.getElem?_eq_getElem hlt⟩
  obtain ⟨x, hx⟩ : ∃ x, p.answers[evalI f t]? = some x := ⟨_, List.getElem?_eq_getElem (by rw [hl]; exact hlt)⟩
  rw [ranA_yes v1 (by rw [v2 t, Int.toNat_natCast]; exact hx), evalA_yes h0 hy]
  exact hat _ x y hx hy
theorem big_many {f : Fst} (h0 : forF f = 0) (h : 8000 < (Gn.all f.nodes).code.length ∨ 2000 < (Gn.all f.nodes).pool.length) : 1000 < f.nodes.length := by
  have := Gn.all_size (good_of h0)
  omega
set_option maxHeartbeats 3200000 in
theorem codeGens_walk (x : Fst) (n : Int) (w : World) (hx : FstOk w x) (wn : (Lit.int .i64 n).wf = true) (hr : x.nodes.length * 40 ≤ 140737488351232) :
    Calls Try.prog 3 #[.agg x.cells.toArray, .int .i64 n] w fun e w' => e = .returned (.bool true) ∧ Gr w w' := by
  obtain ⟨na, ncap, nodes, aa, acap, answers⟩ := x
  obtain ⟨x, hF⟩ : ∃ F : Fst, F = ⟨na, ncap, nodes, aa, acap, answers⟩ := ⟨_, rfl⟩
  rw [← hF] at hx hr ⊢
  have ec : x.cells = [.slice na nodes.length ncap, .slice aa answers.length acap] := by rw [hF]; rfl
  have hnl : x.nodes.length = nodes.length := by rw [hF]
  have hgn := fun W (hw : FstOk W x) => gen_any x W hw
  have hb := fun W (hw : FstOk W x) => bounds_any x W hw hr
  have hff := fun W (hw : FstOk W x) => forestFault_any x W hw
  have ho := fun t W (hw : FstOk W x) => evalOf_any x t W hw
  rw [ec] at hb hff ho hgn
  rw [ec]
  have HGN : Hid _ := hgn
  have HB : Hid _ := hb
  have HX : Hid _ := hx
  have HNL : Hid _ := hnl
  by_cases h0 : forF x = 0
  · have H0 : Hid _ := h0
    simp only [h0] at hff ho
    have HFF : Hid _ := hff
    have HO : Hid _ := ho
    clear hgn hb hff ho ec hF hr h0 hx hnl
    go_enter Try.func3, Try.ntmps3
    go_wp2_with fail
    refine (HGN.out _ (HX.out.gr (by exact (Gr.refl _).alloc _))).mono ?_
    rintro e w1 hpost
    have hg1 := hpost.gr
    have hgr : Gr w w1 := ((Gr.refl _).alloc _).trans hg1
    have k1 := (hg1.block w.heap.size (by simp)).trans (heapA w _)
    have z1 : w.heap.size < w1.heap.size := Nat.lt_of_lt_of_le (by simp) hg1.size
    have K1 : Hid _ := k1
    obtain ⟨c1, _⟩ := row_all k1
    clear k1 hg1
    by_cases hbig : 8000 < (Gn.all x.nodes).code.length ∨ 2000 < (Gn.all x.nodes).pool.length
    · have he := hpost.big H0.out hbig
      subst he
      have hmany := big_many H0.out hbig
      rw [HNL.out] at hmany
      have d1 : decide ((1000 : Int) < (nodes.length : Int)) = true := by rw [decide_eq_true_iff]; omega
      have d2 : decide (1000 < nodes.length) = true := by simpa using hmany
      clear hpost hbig hmany
      go_wp2_with fail
      refine (HFF.out _ (HX.out.gr (by exact hgr.alloc _))).mono ?_
      rintro e w2 ⟨rfl, hg2⟩
      have hg2' := Gr.ofGrown hg2
      have k2 := (hg2'.block w.heap.size (by simp; omega)).trans ((Below.heap_alloc _ _ _ z1).trans K1.out)
      obtain ⟨c2, _⟩ := row_all k2
      have hgr2 := (hgr.alloc (.cells #[.slice none 0 0, .slice none 0 0, .slice none 0 0] 29)).trans hg2'
      clear hg2 k2 c1
      go_wp2_with fail
      go_ret
      exact ⟨rfl, hgr2⟩
    · have h8 : (Gn.all x.nodes).code.length ≤ 8000 := by omega
      have h2 : (Gn.all x.nodes).pool.length ≤ 2000 := by omega
      obtain ⟨P, rfl, hP, hpc, hpp, hpv⟩ := hpost.good H0.out h8 h2
      have HT : Hid _ := gen_tells H0.out hpc hpp hpv h8 h2
      clear hpost hbig h8 h2 hpc hpp hpv
      have hrn := fun t W (hw : PrgOk W P) => ranOf_any P t W hw rfl
      obtain ⟨ca, ccap, code, pa, pcap, pool, pc, pcp, ans⟩ := P
      obtain ⟨P, hPP⟩ : ∃ P : Prg, P = ⟨ca, ccap, code, pa, pcap, pool, pc, pcp, ans⟩ := ⟨_, rfl⟩
      have ep : P.cells = [.slice ca code.length ccap, .slice pa pool.length pcap, .slice pc ans.length pcp] := by rw [hPP]; rfl
      rw [← hPP] at hP HT hrn ⊢
      rw [ep] at hrn ⊢
      have HRN : Hid _ := hrn
      have HP : Hid _ := hP
      clear hrn ep hPP hP
      go_wp2_with fail
      refine (HFF.out _ (HX.out.gr (by exact hgr.alloc _))).mono ?_
      rintro e w2 ⟨rfl, hg2⟩
      have hg2' := Gr.ofGrown hg2
      have k2 := (hg2'.block w.heap.size (by simp; omega)).trans ((Below.heap_alloc _ _ _ z1).trans K1.out)
      have k3 := (hg2'.block w1.heap.size (by simp)).trans (heapA w1 _)
      obtain ⟨c2, _⟩ := row_all k2
      obtain ⟨c3, _⟩ := row_all k3
      have K2 : Hid _ := k2
      have K3 : Hid _ := k3
      have hg12 := ((Gr.refl w1).alloc (.cells #[.slice ca code.length ccap, .slice pa pool.length pcap, .slice pc ans.length pcp] 29)).trans hg2'
      have hgr2 := hgr.trans hg12
      have HP2 : Hid _ := HP.out.gr hg12
      have z2 : w.heap.size < w2.heap.size := Nat.lt_of_lt_of_le z1 hg12.size
      have z3 : w1.heap.size < w2.heap.size := Nat.lt_of_lt_of_le (by simp) hg2'.size
      clear hg2 k2 k3 c1 hg2' hg12 hgr
      go_wp2_with fail
      refine (HB.out _ (HX.out.gr hgr2)).mono ?_
      rintro e w3 ⟨a, cap, zs, rfl, hz, wz, hbn, hg3⟩
      clear hbn
      have k4 := (hg3.block w.heap.size z2).trans K2.out
      have k5 := (hg3.block w1.heap.size z3).trans K3.out
      obtain ⟨c4, _⟩ := row_all k4
      obtain ⟨c5, _⟩ := row_all k5
      have K4 : Hid _ := k4
      have hgr3 := hgr2.trans hg3
      have HP3 : Hid _ := HP2.out.gr hg3
      have z4 : w.heap.size < w3.heap.size := Nat.lt_of_lt_of_le z2 hg3.size
      have Hz : Hid _ := And.intro hz wz
      clear hg3 k4 k5 c2 c3 hz wz hgr2
      go_wp2_with fail
      refine (asked_any _ _ _ _ _ Hz.out.1 Hz.out.2 wn).mono ?_
      rintro e w4 ⟨t, rfl, _, hw4⟩
      subst w4
      go_wp2_with fail
      refine (HRN.out t _ HP3.out).mono ?_
      rintro e w4 ⟨y4, rfl, hy4, hv4, hg4⟩
      rw [HT.out.1]
      rw [HT.out.2 t] at hv4
      have k6 := (hg4.block w.heap.size z4).trans K4.out
      obtain ⟨c6, _⟩ := row_all k6
      have hgr4 := hgr3.trans hg4
      have z5 : w.heap.size < w4.heap.size := Nat.lt_of_lt_of_le z4 hg4.size
      have Hv4 : Hid _ := hv4
      obtain ⟨KK, hKK⟩ : ∃ KK, KK = ranK P t := ⟨_, rfl⟩
      rw [← hKK]
      obtain ⟨off, sv, nm, a4, cp4, zs4, jump⟩ := y4
      clear hv4 hKK k6 c4 c5
      simp only [Ans.cells]
      go_wp2_with fail
      refine (HO.out t _ (HX.out.gr (by repeat (with_reducible first | exact hgr4 | refine Gr.drew ?_ | refine Gr.alloc ?_ _ | refine Gr.setCell ?_ (by simp) _)))).mono ?_
      rintro e w5 ⟨y5, rfl, hy5, hv5, hg5⟩
      have k7 := (hg5.block w4.heap.size (by simp)).trans (heapA w4 _)
      obtain ⟨c7, _⟩ := row_all k7
      have gW : Gr w4 w5 := ((Gr.refl _).alloc _).trans hg5
      have hyW := hy4.gr gW
      have hgr5 := hgr4.trans gW
      have z6 : w4.heap.size < w5.heap.size := Nat.lt_of_lt_of_le (by simp) hg5.size
      have HSV : Hid _ := same_of_val (Hv4.out.trans hv5.symm)
      obtain ⟨off2, sv2, nm2, a5, cp5, zs5, jump2⟩ := y5
      clear k7 c6 hg5 gW hv5 hy4
      simp only [Ans.cells]
      go_wp2_with fail
      refine (sameAnswer_any ⟨off, sv, nm, a4, cp4, zs4, jump⟩ ⟨off2, sv2, nm2, a5, cp5, zs5, jump2⟩ _ (hyW.gr (by repeat (with_reducible first | exact Gr.refl _ | refine Gr.drew ?_ | refine Gr.alloc ?_ _ | refine Gr.setCell ?_ (by simp) _))) (hy5.gr (by repeat (with_reducible first | exact Gr.refl _ | refine Gr.drew ?_ | refine Gr.alloc ?_ _ | refine Gr.setCell ?_ (by simp) _)))).mono ?_
      rintro e w6 ⟨rfl, hg6⟩
      go_wp2_with fail
      go_ret
      refine ⟨ret_bool HSV.out, ?_⟩
      refine Gr.trans ?_ hg6
      repeat (with_reducible first | exact hgr5 | refine Gr.drew ?_ | refine Gr.alloc ?_ _ | refine Gr.setCell ?_ (by simp) _)
  · have H0 : Hid _ := h0
    obtain ⟨E, hE⟩ : ∃ E, forF x = E := ⟨_, rfl⟩
    have g0 : (E != 0) = true := by rw [← hE]; simpa using h0
    have g1 : (E == E) = true := by simp
    simp only [hE] at hff
    have HE : Hid _ := hE
    have HFF : Hid _ := hff
    clear hgn hb hff ho ec hF hr h0 hx hnl hE
    go_enter Try.func3, Try.ntmps3
    go_wp2_with fail
    refine (HGN.out _ (HX.out.gr (by exact (Gr.refl _).alloc _))).mono ?_
    rintro e w1 hpost
    have he := hpost.bad H0.out
    rw [HE.out] at he
    subst he
    have hg1 := hpost.gr
    have hgr : Gr w w1 := ((Gr.refl _).alloc _).trans hg1
    have k1 := (hg1.block w.heap.size (by simp)).trans (heapA w _)
    have z1 : w.heap.size < w1.heap.size := Nat.lt_of_lt_of_le (by simp) hg1.size
    obtain ⟨c1, _⟩ := row_all k1
    clear hg1 hpost k1
    go_wp2_with fail
    refine (HFF.out _ (HX.out.gr (by exact hgr.alloc _))).mono ?_
    rintro e w2 ⟨rfl, hg2⟩
    have hg2' := Gr.ofGrown hg2
    have k3 := (hg2'.block w1.heap.size (by simp)).trans (heapA w1 _)
    obtain ⟨c3, _⟩ := row_all k3
    have hgr2 := (hgr.alloc (.cells #[.slice none 0 0, .slice none 0 0, .slice none 0 0] 29)).trans hg2'
    clear hg2 k3 c1
    go_wp2_with fail
    go_ret
    exact ⟨rfl, hgr2⟩
theorem codeGens_own : ownKnob Try.prog.godebug = none := by kernel_rfl
theorem codeGens_laidOut : laidOutB Try.prog = true := by kernel_rfl
theorem codeGens_rec : ∀ t ∈ Try.f3.params.toList, Try.prog.readableRec t = true ∧ t < Try.prog.types.size := by
  rw [Try.params3]
  intro t ht
  simp only [List.mem_cons, List.not_mem_nil, or_false] at ht
  rcases ht with rfl | rfl
  all_goals exact ⟨by kernel_rfl, of_decide_eq_true (by kernel_rfl)⟩
set_option maxRecDepth 100000 in
theorem codeGens_lifted (os : Os) (started : os.Started) (H : Type) (enc : TypeId × Value → H) :
    ReturnsInHanded {} Try.checked os 3 .any (Rows.codeGensSpec.pre6 enc Try.prog Try.f3 Rows.codeGensRow.domain false) (Rows.codeGensSpec.post enc Try.prog Try.f3 false true false false) := by
  refine returnsInHanded_of_change_sized (C := Try.checked) codeGens_own started (by kernel_rfl) Try.func3
    (ChangeSpec.witness6 (enc := enc) (C := Try.checked) false ⟨#[], #[.agg #[.slice none 0 0, .slice none 0 0], .int .i64 0], []⟩ 8 (by kernel_rfl) (by kernel_rfl) (by kernel_rfl) (by kernel_rfl)) ?_
  intro W base args ds gs before hval0 hW hcnd hsz0 _
  have hval : ∀ (j : Nat) t v, Try.f3.params[j]? = some t → args[j]? = some v → Value.okWide Try.prog W .any base t v := hval0
  have hW' := hW
  obtain ⟨p, q, hA0, hV, rfl, hfz, hnd⟩ := hW
  have hA : DataW.TrodAll enc Try.prog W 0 (fun _ => true) true Try.f3.params.toList args.toList ds p := hA0
  have hAk := hA
  have hsz : (DataW.weightsEach Try.prog (Try.f3.params.toList ++ Rows.codeGensSpec.plain.varTypes Try.prog) (ds ++ gs)).all (· ≤ reachBytes) = true := hsz0
  rw [Try.params3] at hA hval hsz
  obtain ⟨v0, vs0, d0, ds0, p0, q0, hargs, rfl, rfl, h0, r0⟩ := trodAll_cons hA
  obtain ⟨v1, vs1, d1, ds1, p1, q1, rfl, rfl, rfl, h1, r1⟩ := trodAll_cons r0
  obtain ⟨rfl, rfl, rfl⟩ := trodAll_nil r1
  obtain rfl : args = #[v0, v1] := by cases args; simp_all
  obtain ⟨rfl, rfl⟩ := trodVars_none hV
  obtain ⟨x0, rfl, f0⟩ := open_forest (hval 0 25 v0 rfl rfl) h0
  obtain ⟨x1, rfl, _, _, f1⟩ := open_int Try.underlying3 (hval 1 3 v1 rfl rfl) h1
  have z0 := forest_reach h0 (fun k hk => by simpa using List.all_eq_true.1 hsz k (DataW.weights_mem_each (j := 0) (t := 25) rfl rfl k hk))
  clear hA0 hval0 hsz0
  refine (codeGens_walk x0 x1 W f0 f1 z0).mono fun e W' ⟨he, hg⟩ => ?_
  subst he
  refine ⟨_, rfl, _, _, _, [], _, [], hW', ?_, gr_trodAll codeGens_laidOut hg codeGens_rec hAk (fun x hx => hW'.lt x (List.mem_append_left _ hx)) (fun x hx => by simpa using hW'.lt x (List.mem_append_left _ hx)), ?_, hg.frame _, fun h => by cases h⟩
  · exact trodAll_cons_mk (shut_bool Try.underlying4 _) trodAll_mk0
  · rfl

theorem codeGens_holds : Rows.CodeGensSaid :=
  OpenClaim.holds_of_wide 3 Try.f3 rfl rfl rfl rfl rfl rfl rfl ⟨rfl, rfl, rfl, rfl, rfl⟩ rfl rfl rfl rfl rfl (by kernel_rfl) Try.func3 (by kernel_rfl)
    (of_decide_eq_true (by kernel_rfl)) (by unfold Func.isWrapper; first | (rw [if_pos (by decide +kernel)]; kernel_rfl) | (rw [if_neg (by decide +kernel)]; exact ⟨rfl, rfl⟩))
    (fun os started H enc _ => codeGens_lifted os started H enc)
#print axioms codeGens_holds
end Go.Proofs.Ytcpmbjlhblkniaa
