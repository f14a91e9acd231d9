/- Proved: at every row of raw things and two numbers the law OptSame returns true: a forest tells the same however it is made less. No condition. -/
import Derived.Test.YthlahmabcbbhjaaOpt
import Derived.Test.YthlahmabcbbhjaaFoA
import Derived.Test.YthlahmabcbbhjaaFoB
import Derived.Test.YthlahmabcbbhjaaOpnR
import Derived.Deep.DeepCutAuto
import Derived.Deep.CutBlock
namespace Go.Proofs.Ythlahmabcbbhjaa
open Go.ChangeShapes Go.WideShapes Go.ChangeAt Go.RowKit
set_option linter.unusedVariables false
/-- A box that holds a forest that was made less. -/
structure BoxMade (m s b : Bool) (X : Fst) (w1 w : World) (gb : Nat) (g : Fst) : Prop where
  box : w.heap[gb]? = some (.cells g.cells.toArray 25)
  made : Made m s b X g w1 w
theorem boxMade_alloc {m s b : Bool} {X g : Fst} {w1 w w3 : World} (h : Made m s b X g w w3) (hg : Gr w1 w) : BoxMade m s b X w1 (w3.alloc (.cells #[.slice g.na g.nodes.length g.ncap, .slice g.aa g.answers.length g.acap] 25)) w3.heap.size g :=
  ⟨heapA _ _, ⟨h.ok.gr ((Gr.refl _).alloc _), h.good, h.same, (hg.trans h.gr).alloc _, h.twins, h.least, h.nodup, h.deep⟩⟩
theorem boxMade_set {m s b : Bool} {X g : Fst} {w1 w w3 : World} {gb : Nat} (h : Made m s b X g w w3) (hg : Gr w1 w) (k : w3.heap[gb]? = some (.cells #[.slice none 0 0, .slice none 0 0] 25)) (hb : w1.heap.size ≤ gb) : BoxMade m s b X w1 ((w3.setCell ⟨gb, 0, none⟩ (.slice g.na g.nodes.length g.ncap)).setCell ⟨gb, 1, none⟩ (.slice g.aa g.answers.length g.acap)) gb g :=
  ⟨by
    have k1 := heap_setCell_same _ gb 1 _ _ (.slice g.aa g.answers.length g.acap) (heap_setCell_same w3 gb 0 _ _ (.slice g.na g.nodes.length g.ncap) k)
    simpa [Fst.cells] using k1, Made.but (w := w1) ⟨h.ok, h.good, h.same, hg.trans h.gr, h.twins, h.least, h.nodup, h.deep⟩ ⟨⟨_, k⟩⟩ (but2 _ _ _ _) hb rfl rfl⟩
set_option maxHeartbeats 3200000 in
theorem optSame_walk (x : Raws) (m n : Int) (w : World) (hx : RawsAt w x.p x.l) (wm : (Lit.int .i64 m).wf = true) (wn : (Lit.int .i64 n).wf = true) :
    Calls Try.prog 4 #[.slice x.p x.l.length x.cap, .int .i64 m, .int .i64 n] w fun e w' => e = .returned (.bool true) ∧ Gr w w' := by
  obtain ⟨p, cap, l⟩ := x
  simp only at hx ⊢
  have p1 := Cal.pk_lo n (k := 80) (by omega)
  have p2 := Cal.pk_hi n (k := 80) (by omega)
  have m1 := Cal.pk_lo m (k := 8) (by omega)
  have m2 := Cal.pk_hi m (k := 8) (by omega)
  have m3 := Cal.pk_lo m (k := 9) (by omega)
  have m4 := Cal.pk_hi m (k := 9) (by omega)
  have HPM : Hid _ := fun k W (h0 : 0 < k) (h1 : k < 1099511627776) => picked_any m k W wm h0 h1
  have HPN : Hid _ := fun k W (h0 : 0 < k) (h1 : k < 1099511627776) => picked_any n k W wn h0 h1
  go_enter Try.func4, Try.ntmps4
  go_wp2_with fail
  refine (forest_any _ _ _ _ hx).mono ?_
  rintro e w1 ⟨F, rfl, hF, h0, hg1⟩
  have HO : Hid _ := fun k W (hg : Gr w1 W) (k0 : 0 ≤ k) (k7 : k ≤ 7) => opt_ok F k W (hF.gr hg) h0 k0 k7
  have HB : Hid _ := fun k W (hg : Gr w1 W) (k7 : 7 < k) => opt_far F k W (hF.gr hg) (fun _ => Or.inr k7)
  have HE : Hid _ := fun t W (hg : Gr w1 W) => eval_any F t W (hF.gr hg)
  simp only [h0, if_true] at HB HE
  have HG1 : Hid _ := hg1
  have H0 : Hid _ := h0
  obtain ⟨na, ncap, nodes, aa, acap, answers⟩ := F
  obtain ⟨X, hX⟩ : ∃ X : Fst, X = ⟨na, ncap, nodes, aa, acap, answers⟩ := ⟨_, rfl⟩
  have ec : X.cells = [.slice na nodes.length ncap, .slice aa answers.length acap] := by rw [hX]; rfl
  rw [← hX] at HO HB HE H0
  rw [ec] at HO HB HE
  clear ec hX hx hF h0 hg1
  simp only [Fst.cells]
  go_upto_region 2 with fail
  obtain ⟨W1, hW1⟩ : ∃ W1, W1 = w1.alloc (Obj.cells #[.slice na nodes.length ncap, .slice aa answers.length acap] 25) := ⟨_, rfl⟩
  rw [← hW1]
  have gW : Gr w1 W1 := by rw [hW1]; exact (Gr.refl _).alloc _
  have kW : W1.heap[w1.heap.size]? = some (.cells #[.slice na nodes.length ncap, .slice aa answers.length acap] 25) := by rw [hW1]; exact heapA _ _
  clear hW1
  have KW : Hid _ := kW
  obtain ⟨c1, f1⟩ := row_all kW
  have z1 : w1.heap.size < W1.heap.size := (Array.getElem?_eq_some_iff.1 kW).1
  clear kW
  go_cut [8, 9] (fun s8 s9 wx => ∃ (gb : Nat) (g : Fst), s8 = .pointer (some ⟨gb, 0, none⟩) ∧ s9 = .int .i64 0 ∧ w1.heap.size < gb ∧ BoxMade (isM (Cal.pk m 8)) (isS (Cal.pk m 8)) (isB (Cal.pk m 8)) X W1 wx gb g)
  case first =>
    go_region_with (first
      | (go_at_call 14; refine (HPM.out _ _ (by omega) (by omega)).mono ?_; rintro e w2 ⟨rfl, hw2⟩; subst w2)
      | (go_at_call 6; refine (HO.out _ _ (by repeat (with_reducible first | exact gW | refine Gr.drew ?_ | refine Gr.alloc ?_ _)) m1 (by omega)).mono ?_; rintro e w3 ⟨g, rfl, hM⟩
         try (have k3 : w3.heap[W1.heap.size]? = some (.cells #[.slice none 0 0, .slice none 0 0] 25) := (hM.gr.block W1.heap.size (by simp)).trans (heapA W1 _)
              have c3 := (row_all k3).1
              have f3 := (row_all k3).2)
         simp only [Fst.cells]))
    all_goals go_wp2_with fail
    all_goals go_meet
    all_goals first
      | exact ⟨_, g, rfl, rfl, by have := hM.gr.size; simp at this; omega, boxMade_alloc hM (by repeat (with_reducible first | exact Gr.refl _ | refine Gr.drew ?_ | refine Gr.alloc ?_ _))⟩
      | exact ⟨_, g, rfl, rfl, z1, boxMade_set hM (by repeat (with_reducible first | exact Gr.refl _ | refine Gr.drew ?_ | refine Gr.alloc ?_ _)) k3 (Nat.le_refl _)⟩
  case rest =>
    obtain ⟨gb, g, rfl, rfl, hgb, hM⟩ := hcut
    have k2 := hM.box
    have j2 := (hM.made.gr.block _ z1).trans KW.out
    obtain ⟨nb, nbcap, nodes2, ab, abcap, answers2⟩ := g
    obtain ⟨G, hG⟩ : ∃ G : Fst, G = ⟨nb, nbcap, nodes2, ab, abcap, answers2⟩ := ⟨_, rfl⟩
    have ec : G.cells = [.slice nb nodes2.length nbcap, .slice ab answers2.length abcap] := by rw [hG]; rfl
    simp only [Fst.cells] at k2
    rw [← hG] at hM
    have HEG : Hid _ := fun t W (hg : Gr wc W) => eval_any G t W (hM.made.ok.gr hg)
    rw [ec] at HEG
    simp only [hM.made.good] at HEG
    have HM : Hid _ := hM
    have HGW : Hid _ := gW.trans hM.made.gr
    have K2 : Hid _ := k2
    have J2 : Hid _ := j2
    have z2 : gb < wc.heap.size := (Array.getElem?_eq_some_iff.1 k2).1
    obtain ⟨d2, e2⟩ := row_all j2
    clear k2 j2 hM ec hG c1 f1
    go_wp2_with (go_at_call 14; refine (HPN.out _ _ (by omega) (by omega)).mono ?_; rintro e w2 ⟨rfl, hw2⟩; subst w2)
    refine (HE.out _ _ (by exact HGW.out)).mono ?_
    rintro e w3 ⟨y, rfl, hy, hyv, hg3⟩
    have k3 := (hg3.block _ z2).trans K2.out
    have j3 := (hg3.block w1.heap.size (by omega)).trans J2.out
    obtain ⟨c3, f3⟩ := row_all k3
    obtain ⟨d3, e3⟩ := row_all j3
    have K3 : Hid _ := k3
    have J3 : Hid _ := j3
    have HG3 : Hid _ := hg3
    have z3 : gb < w3.heap.size := (Array.getElem?_eq_some_iff.1 k3).1
    have Hy : Hid _ := hyv
    obtain ⟨off, sv, nm, a', cap', zs', jump⟩ := y
    clear k3 j3 hyv hg3 d2 e2
    simp only [Ans.cells]
    go_wp2_with fail
    have gA : Gr w3 (w3.alloc (Obj.cells #[.int .i64 off, .bool sv, .string nm, .slice a' zs'.length cap', .int .i64 jump] 37)) := (Gr.refl _).alloc _
    refine (HEG.out _ _ (by exact HG3.out.trans gA)).mono ?_
    rintro e w4 ⟨y, rfl, hy2, hyv2, hg4⟩
    have k4 := (hg4.block w3.heap.size (by simp)).trans (heapA w3 _)
    have j4 := (hg4.block w1.heap.size (by simp; omega)).trans ((gA.block _ (by omega)).trans J3.out)
    obtain ⟨c4, f4⟩ := row_all k4
    obtain ⟨d4, e4⟩ := row_all j4
    have K4 : Hid _ := k4
    have J4 : Hid _ := j4
    have hy3 := hy.gr (gA.trans hg4)
    have z4 : w3.heap.size < w4.heap.size := (Array.getElem?_eq_some_iff.1 k4).1
    have HG4 : Hid _ := (HG3.out.trans gA).trans hg4
    obtain ⟨y0, x0, hy0, hx0, hv0⟩ := HM.out.made.same.same (Cal.pk n 80 - 30) (by unfold minI; omega) (by unfold maxI; omega)
    have Hy2 : Hid _ := same_of_val (Hy.out.trans ((show (evalA X (Cal.pk n 80 - 30)).val = (evalA G (Cal.pk n 80 - 30)).val by rw [evalA_yes H0.out hx0, evalA_yes HM.out.made.good hy0]; exact hv0.symm).trans hyv2.symm))
    obtain ⟨off2, sv2, nm2, a2, cap2, zs2, jump2⟩ := y
    clear k4 j4 c3 f3 d3 e3 hyv2 hg4 hy gA hy0 hx0 hv0
    simp only [Ans.cells]
    go_upto_region 6 with fail
    obtain ⟨W5, hW5⟩ : ∃ W5, W5 = w4.alloc (Obj.cells #[.int .i64 off2, .bool sv2, .string nm2, .slice a2 zs2.length cap2, .int .i64 jump2] 37) := ⟨_, rfl⟩
    rw [← hW5]
    have g5 : Gr w4 W5 := by rw [hW5]; exact (Gr.refl _).alloc _
    have k5 : W5.heap[w4.heap.size]? = some (.cells #[.int .i64 off2, .bool sv2, .string nm2, .slice a2 zs2.length cap2, .int .i64 jump2] 37) := by rw [hW5]; exact heapA _ _
    clear hW5
    have j5 := (g5.block _ (by omega)).trans J4.out
    have K5 : Hid _ := k5
    have HG5 : Hid _ := g5
    have z5 : w4.heap.size < W5.heap.size := (Array.getElem?_eq_some_iff.1 k5).1
    obtain ⟨d5, e5⟩ := row_all j5
    clear c4 f4 d4 e4 j5 k5 g5
    have z6 : w1.heap.size < W5.heap.size := by omega
    have hwr9 : IntKind.i64.wrap (8 + Cal.pk m 9) = 8 + Cal.pk m 9 := IntWalk.i64_in _ ⟨by omega, by omega⟩
    go_cut [16] (fun s16 wx => s16 = .int .i64 2 ∧ Gr W5 wx)
    case first =>
      go_region_with (first
        | (go_at_call 14; refine (HPM.out _ _ (by omega) (by omega)).mono ?_; rintro e w6 ⟨rfl, hw6⟩; subst w6)
        | (go_at_call 6; refine (HB.out _ _ (by repeat (with_reducible first | exact HGW.out.trans (HG4.out.trans HG5.out) | refine Gr.drew ?_ | refine Gr.alloc ?_ _)) (by omega)).mono ?_; rintro e w7 ⟨rfl, hg7⟩
           try (have k7 : w7.heap[W5.heap.size]? = some (.cells #[.slice none 0 0, .slice none 0 0] 25) := (hg7.block W5.heap.size (by simp)).trans (heapA W5 _)
                have c7 := (row_all k7).1
                have f7 := (row_all k7).2)))
      all_goals go_wp2_with fail
      all_goals go_meet
      all_goals
        refine ⟨rfl, ?_⟩
        have hgx : Gr W5 w7 := Gr.trans (by repeat (with_reducible first | exact Gr.refl _ | refine Gr.drew ?_ | refine Gr.alloc ?_ _)) hg7
        repeat (with_reducible first | exact hgx | refine Gr.drew ?_ | refine Gr.alloc ?_ _ | refine Gr.setCell ?_ (Nat.le_refl _) _)
    case rest =>
      obtain ⟨rfl, hgx⟩ := hcut
      have k6 := (hgx.block _ z5).trans K5.out
      have l6 := ((HG5.out.trans hgx).block _ z4).trans K4.out
      obtain ⟨c6, f6⟩ := row_all k6
      obtain ⟨d6, e6⟩ := row_all l6
      have hyA := hy3.gr (HG5.out.trans hgx)
      have hyB := hy2.gr (HG5.out.trans hgx)
      have HGX : Hid _ := hgx
      clear hgx k6 l6 d5 e5
      go_wp2_with fail
      refine (same_any ⟨off, sv, nm, a', cap', zs', jump⟩ ⟨off2, sv2, nm2, a2, cap2, zs2, jump2⟩ _ (hyA.gr (by repeat (with_reducible first | exact Gr.refl _ | refine Gr.drew ?_ | refine Gr.alloc ?_ _))) (hyB.gr (by repeat (with_reducible first | exact Gr.refl _ | refine Gr.drew ?_ | refine Gr.alloc ?_ _)))).mono ?_
      rintro e w8 ⟨rfl, hg8⟩
      have HY2 := Hy2.out
      rw [HY2]
      go_wp2
      go_ret
      exact ⟨rfl, (((HG1.out.trans HGW.out).trans HG4.out).trans (HG5.out.trans HGX.out)).trans hg8⟩

theorem optSame_own : ownKnob Try.prog.godebug = none := by kernel_rfl
theorem optSame_laidOut : laidOutB Try.prog = true := by kernel_rfl
theorem optSame_rec : ∀ t ∈ Try.f4.params.toList, Try.prog.readableRec t = true ∧ t < Try.prog.types.size := by
  rw [Try.params4]
  intro t ht
  simp only [List.mem_cons, List.not_mem_nil, or_false] at ht
  rcases ht with rfl | rfl | rfl
  all_goals exact ⟨by kernel_rfl, of_decide_eq_true (by kernel_rfl)⟩
set_option maxRecDepth 100000 in
theorem optSame_lifted (os : Os) (started : os.Started) (H : Type) (enc : TypeId × Value → H) :
    ReturnsInHanded {} Try.checked os 4 .any (Rows.optSameSpec.pre6 enc Try.prog Try.f4 Rows.optSameRow.domain false) (Rows.optSameSpec.post enc Try.prog Try.f4 false true false false) := by
  refine returnsInHanded_of_change_sized (C := Try.checked) optSame_own started (by kernel_rfl) Try.func4
    (ChangeSpec.witness6 (enc := enc) (C := Try.checked) false ⟨#[], #[.slice none 0 0, .int .i64 0, .int .i64 0], []⟩ 8 (by kernel_rfl) (by kernel_rfl) (by kernel_rfl) (by kernel_rfl)) ?_
  intro W base args ds gs before hval0 hW hcnd hsz0 _
  have hval : ∀ (j : Nat) t v, Try.f4.params[j]? = some t → args[j]? = some v → Value.okWide Try.prog W .any base t v := hval0
  have hW' := hW
  obtain ⟨p, q, hA0, hV, rfl, hfz, hnd⟩ := hW
  have hA : DataW.TrodAll enc Try.prog W 0 (fun _ => true) true Try.f4.params.toList args.toList ds p := hA0
  have hAk := hA
  have hsz : (DataW.weightsEach Try.prog (Try.f4.params.toList ++ Rows.optSameSpec.plain.varTypes Try.prog) (ds ++ gs)).all (· ≤ reachBytes) = true := hsz0
  rw [Try.params4] at hA hval hsz
  obtain ⟨v0, vs0, d0, ds0, p0, q0, hargs, rfl, rfl, h0, r0⟩ := trodAll_cons hA
  obtain ⟨v1, vs1, d1, ds1, p1, q1, rfl, rfl, rfl, h1, r1⟩ := trodAll_cons r0
  obtain ⟨v2, vs2, d2, ds2, p2, q2, rfl, rfl, rfl, h2, r2⟩ := trodAll_cons r1
  obtain ⟨rfl, rfl, rfl⟩ := trodAll_nil r2
  obtain rfl : args = #[v0, v1, v2] := by cases args; simp_all
  obtain ⟨rfl, rfl⟩ := trodVars_none hV
  obtain ⟨x0, rfl, f0⟩ := open_raws (hval 0 42 v0 rfl rfl) h0
  obtain ⟨x1, rfl, _, _, f1⟩ := open_int Try.underlying3 (hval 1 3 v1 rfl rfl) h1
  obtain ⟨x2, rfl, _, _, f2⟩ := open_int Try.underlying3 (hval 2 3 v2 rfl rfl) h2
  clear hA0 hval0 hsz0
  refine (optSame_walk x0 x1 x2 W f0 f1 f2).mono fun e W' ⟨he, hg⟩ => ?_
  subst he
  refine ⟨_, rfl, _, _, _, [], _, [], hW', ?_, gr_trodAll optSame_laidOut hg optSame_rec hAk (fun x hx => hW'.lt x (List.mem_append_left _ hx)) (fun x hx => by simpa using hW'.lt x (List.mem_append_left _ hx)), ?_, hg.frame _, fun h => by cases h⟩
  · exact trodAll_cons_mk (shut_bool Try.underlying4 _) trodAll_mk0
  · rfl

theorem optSame_holds : Rows.OptSameSaid :=
  OpenClaim.holds_of_wide 4 Try.f4 rfl rfl rfl rfl rfl rfl rfl ⟨rfl, rfl, rfl, rfl, rfl⟩ rfl rfl rfl rfl rfl (by kernel_rfl) Try.func4 (by kernel_rfl)
    (of_decide_eq_true (by kernel_rfl)) (by unfold Func.isWrapper; first | (rw [if_pos (by decide +kernel)]; kernel_rfl) | (rw [if_neg (by decide +kernel)]; exact ⟨rfl, rfl⟩))
    (fun os started H enc _ => optSame_lifted os started H enc)
#print axioms optSame_holds
end Go.Proofs.Ythlahmabcbbhjaa
