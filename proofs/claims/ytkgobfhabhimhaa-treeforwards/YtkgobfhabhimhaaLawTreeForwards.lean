/- Proved: at every list of spans and number the law TreeForwards returns true: tree.Forward answers as the document's answer does. No condition. -/
import Derived.Test.YtkgobfhabhimhaaFwd
import Derived.Test.YtkgobfhabhimhaaSpnE
import Derived.Test.YtkgobfhabhimhaaOpnS
import Derived.Test.YtkgobfhabhimhaaTreF
import Derived.Test.YtkgobfhabhimhaaTreK
import Derived.Deep.RegionHeld3
namespace Go.Proofs.Ytkgobfhabhimhaa
open Go.ChangeShapes Go.WideShapes Go.ChangeAt Go.RowKit
set_option linter.unusedVariables false
theorem Try.infoSpan : ∃ i, Try.prog.info? 55 = some i ∧ i.zero = some (.agg #[.int .i64 0, .int .i64 0, .bool false, .string ⟨#[]⟩]) ∧ i.size = 4 ∧ i.bytes = 40 :=
  ⟨_, rfl, by kernel_rfl, by kernel_rfl, by kernel_rfl⟩
theorem lastV_mem {α : Type} (t : Int) : ∀ (l : List (Int × α)) (d : α), lastV d l t = d ∨ ∃ q ∈ l, lastV d l t = q.2
  | [], d => Or.inl rfl
  | q :: l, d => by
    show lastV (if q.1 ≤ t then q.2 else d) l t = d ∨ ∃ x ∈ q :: l, lastV (if q.1 ≤ t then q.2 else d) l t = x.2
    rcases lastV_mem t l (if q.1 ≤ t then q.2 else d) with h | ⟨x, hx, h⟩
    · by_cases g : q.1 ≤ t
      · rw [if_pos g] at h ⊢; exact Or.inr ⟨q, by simp, h⟩
      · rw [if_neg g] at h ⊢; exact Or.inl h
    · exact Or.inr ⟨x, by simp [hx], h⟩
theorem spanV_mem {l : List Spn} (h : 0 < l.length) (t : Int) : ∃ x ∈ l, spanV l t = x.clk := by
  cases l with
  | nil => simp at h
  | cons x r =>
    rcases lastV_mem t (r.map fun y => (y.frm, y.clk)) x.clk with h | ⟨q, hq, h⟩
    · exact ⟨x, by simp, h⟩
    · obtain ⟨y, hy, rfl⟩ := List.mem_map.1 hq
      exact ⟨y, by simp [hy], h⟩
theorem spanV_ok {l : List Spn} (h : 0 < l.length) (hok : ∀ x ∈ l, SpnOk x) (t : Int) (W : World) : AnsOk W ⟨(spanV l t).1, (spanV l t).2.1, (spanV l t).2.2, none, 0, [], 0⟩ := by
  obtain ⟨x, hx, e⟩ := spanV_mem h t
  have g := hok x hx
  rw [e]
  exact ⟨g.off, by show (Lit.int .i64 0).wf = true; decide, g.nm, Nat.le_refl _, IntsAt.nil _ _, fun z hz => by simp at hz⟩
set_option maxHeartbeats 3200000 in
theorem treeForwards_walk (x : Spns) (n : Int) (w : World) (hx : SpansAt w x.p x.l) (wn : (Lit.int .i64 n).wf = true) (hr : x.l.length * 40 ≤ 140737488351232) :
    Calls Try.prog 3 #[.slice x.p x.l.length x.cap, .int .i64 n] w fun e w' => e = .returned (.bool true) ∧ Gr w w' := by
  obtain ⟨a, cap, l⟩ := x
  simp only at hx hr ⊢
  obtain ⟨i0, hi, hi1, hi2, hi3⟩ := Try.infoSpan
  have hok := spans_ok hx
  by_cases h0 : spnsF l = 0
  · have HF : Hid _ := fun a cap W (h : SpansAt W a l) => forward_any a cap l W h h0
    have HS : Hid _ := fun W (h : SpansAt W a l) => SpansFault_any a cap l W h
    obtain ⟨s0, s1, s2, s3⟩ := spans_good h0
    have HA : Hid _ := fun t W (h : SpansAt W a l) => spanAt_any a cap l t W h s0
    have HE : Hid _ := fun W (h : SpansAt W a l) => edgesF_any a cap l W h s1
    simp only [h0] at HS
    have H0 : Hid _ := h0
    clear h0
    rcases l with _ | ⟨y, r⟩
    · simp at s0
    obtain ⟨_, b, o, rfl, hb, _⟩ := hx.cell 0 y rfl
    simp only [List.length_cons] at HF HS HA HE s1
    simp only [List.length_cons]
    go_enter Try.func3, Try.ntmps3
    go_wp2_with (at_builtin; (refine wpList_append_lies _ rfl _ _ _ rfl w.heap.size 55 i0 _ 4 40 Try.underlying22 hi hi1 hi2 hi3 rfl (by decide) (.slice none 0 0) 0 [] (by rfl) (owns_nil _ _ _ _) ⟨b, o, none⟩ (r.length + 1) cap (spnL (y :: r)) (by rfl) (spnL_len _) (spnL_news hx) (spnL_cell _) (by omega) (by unfold maxLen; simp at hr; omega) (by simp at hr; omega) (Nat.le_refl _) _ rfl ?_))
    intro g cap' w1 hown hgrow hat hlt
    have hg1 : Gr w w1 := (Gr.refl _).by_ hgrow (by simp [Value.ownBlock])
    have hown' : w1.ownsRow w.heap.size 55 4 (.slice (some ⟨g, 0, none⟩) (r.length + 1) cap') (y :: r).length (spnL (y :: r)) := by simpa using hown
    obtain ⟨a2, cap2, he2, hs2⟩ := owns_spans hok hown'
    cases he2
    clear hown hown' hgrow hat hlt
    go_wp2_with fail
    refine (HF.out _ cap' _ hs2).mono ?_
    rintro e w2 ⟨f, rfl, hf, hgood, htell, hg2⟩
    have hgr := hg1.trans hg2
    obtain ⟨na, ncap, nodes, aa, acap, answers⟩ := f
    have hgn := good_of hgood
    have hn1 := hgn.ne
    have hn2 := hgn.n8
    have hn3 := hgn.a2
    simp only at hn1 hn2 hn3
    obtain ⟨F, hF⟩ : ∃ F : Fst, F = ⟨na, ncap, nodes, aa, acap, answers⟩ := ⟨_, rfl⟩
    have hFF := fun W (h : FstOk W F) => forestFault_any F W h
    have hEV := fun t W (h : FstOk W F) => evalOf_any F t W h
    rw [← hF] at hf hgood htell
    simp only [hgood] at hFF hEV
    have ec : F.cells = [.slice na nodes.length ncap, .slice aa answers.length acap] := by rw [hF]; rfl
    rw [ec] at hFF hEV
    have HFF : Hid _ := hFF
    have HEV : Hid _ := hEV
    have HT : Hid _ := htell
    have HG : Hid _ := hgood
    clear hgn hFF hEV htell hgood hF ec HF hs2 hg1 hg2
    simp only [Fst.cells]
    go_wp2_with fail
    refine (HS.out _ (hx.gr (by repeat (with_reducible first | exact hgr | refine Gr.alloc ?_ _ | refine Gr.setCell ?_ (by simp) _)))).mono ?_
    rintro e w3 ⟨rfl, hg3⟩
    have k3 := (hg3.block w2.heap.size (by simp)).trans (heapA w2 _)
    obtain ⟨c3, f3⟩ := row_all k3
    have K3 : Hid _ := k3
    have hgr3 := (hgr.alloc (.cells #[.slice na nodes.length ncap, .slice aa answers.length acap] 26)).trans hg3
    have hf3 := (hf.gr ((Gr.refl _).alloc (.cells #[.slice na nodes.length ncap, .slice aa answers.length acap] 26))).gr hg3
    have z3 : w2.heap.size < w3.heap.size := by have := hg3.size; simp at this; omega
    clear k3 hf hg3
    go_wp2_with fail
    refine (HFF.out _ hf3).mono ?_
    rintro e w4 ⟨rfl, hg4⟩
    have hgr4 := hgr3.trans (Gr.ofGrown hg4)
    have hf4 := hf3.grown hg4
    have k4 := ((Gr.ofGrown hg4).block w2.heap.size z3).trans K3.out
    have K4 : Hid _ := k4
    have z4 : w2.heap.size < w4.heap.size := Nat.lt_of_lt_of_le z3 (Gr.ofGrown hg4).size
    obtain ⟨c4, f4⟩ := row_all k4
    clear k4 c3 f3 hf3 hg4
    go_wp2_with fail
    refine (HE.out _ (hx.gr hgr4)).mono ?_
    rintro e w5 ⟨ea, ecap, zs, rfl, hz, wz, hg5⟩
    have hgr5 := hgr4.trans hg5
    have hf5 := hf4.gr hg5
    have k5 := (hg5.block w2.heap.size z4).trans K4.out
    have K5 : Hid _ := k5
    have z5 : w2.heap.size < w5.heap.size := Nat.lt_of_lt_of_le z4 hg5.size
    obtain ⟨c5, f5⟩ := row_all k5
    have Hz : Hid _ := And.intro hz wz
    clear k5 c4 f4 hf4 hg5 hz wz
    go_wp2_with fail
    refine (asked_any _ _ _ _ _ Hz.out.1 Hz.out.2 wn).mono ?_
    rintro e w6 ⟨t, rfl, _, hw6⟩
    subst w6
    go_wp2_with fail
    refine (inside_any t _).mono ?_
    rintro e w6 ⟨rfl, hw6⟩
    subst w6
    obtain ⟨bb, hbb⟩ : ∃ bb, (decide (-2208988800 ≤ t) && decide (t < 4102444800)) = bb := ⟨_, rfl⟩
    rw [hbb]
    clear hbb
    cases bb with
    | false =>
      go_wp2_with fail
      go_ret
      exact ⟨rfl, hgr5⟩
    | true =>
      go_wp2_with fail
      refine (HEV.out t _ hf5).mono ?_
      rintro e w6 ⟨y6, rfl, hy6, hv6, hg6⟩
      obtain ⟨yt, hyt, hvt⟩ := HT.out t
      rw [evalA_yes HG.out hyt, hvt] at hv6
      have hgr6 := hgr5.trans hg6
      have Hv6 : Hid _ := hv6
      obtain ⟨off, sv, nm, a', cp', zs', jump⟩ := y6
      clear hv6 hyt hvt hg6 c5 f5
      simp only [Ans.cells]
      go_wp2_with fail
      refine name_world (p := fun W => Code.wp _ _ _ _ W) _ (fun W hW => ?_)
      have gW : Gr w6 W := by rw [hW]; exact (Gr.refl _).alloc _
      have kW : W.heap[w6.heap.size]? = some (.cells #[.int .i64 off, .bool sv, .string nm, .slice a' zs'.length cp', .int .i64 jump] 39) := by rw [hW]; exact heapA _ _
      have zW : w6.heap.size < W.heap.size := by rw [hW]; simp
      clear hW
      have hyW := hy6.gr gW
      have hgW := hgr6.trans gW
      have cW := (row_all kW).1
      have hO : W.cell? ⟨w6.heap.size, 0, none⟩ = some (.int .i64 off) ∧ W.cell? ⟨w6.heap.size, 1, none⟩ = some (.bool sv) ∧ W.cell? ⟨w6.heap.size, 2, none⟩ = some (.string nm) ∧ W.cell? ⟨w6.heap.size, 3, none⟩ = some (.slice a' zs'.length cp') ∧ W.cell? ⟨w6.heap.size, 4, none⟩ = some (.int .i64 jump) := ⟨cW 0, cW 1, cW 2, cW 3, cW 4⟩
      go_region_held3 (fun w' => w'.cell? ⟨w6.heap.size, 0, none⟩ = some (.int .i64 off) ∧ w'.cell? ⟨w6.heap.size, 1, none⟩ = some (.bool sv) ∧ w'.cell? ⟨w6.heap.size, 2, none⟩ = some (.string nm) ∧ w'.cell? ⟨w6.heap.size, 3, none⟩ = some (.slice a' zs'.length cp') ∧ w'.cell? ⟨w6.heap.size, 4, none⟩ = some (.int .i64 jump)) (first | with_reducible exact hO | (simpa [go_sem] using hO))
        (first
          | (go_at_call 12; refine (HA.out t _ (hx.gr (by repeat (with_reducible first | exact hgW | refine Gr.drew ?_)))).mono ?_; rintro e w7 ⟨rfl, hg7⟩
             have hg7' : Gr W w7 := ⟨hg7.os, hg7.out, hg7.size, hg7.block⟩
             have c7 := (row_all ((hg7'.block _ zW).trans kW)).1
             replace hO := And.intro (c7 0) (And.intro (c7 1) (And.intro (c7 2) (And.intro (c7 3) (c7 4)))))
          | (go_at_call 11; refine (sameAnswer_any ⟨off, sv, nm, a', cp', zs', jump⟩ ⟨(spanV (y :: r) t).1, (spanV (y :: r) t).2.1, (spanV (y :: r) t).2.2, none, 0, [], 0⟩ _ ((hyW.gr hg7').gr (by repeat (with_reducible first | exact Gr.refl _ | refine Gr.drew ?_))) (spanV_ok s0 hok t _)).mono ?_; rintro e w8 ⟨rfl, hg8⟩
             have hg8' : Gr w7 w8 := ⟨hg8.os, hg8.out, hg8.size, hg8.block⟩
             have c8 := (row_all (((hg7'.trans hg8').block _ zW).trans kW)).1
             replace hO := And.intro (c8 0) (And.intro (c8 1) (And.intro (c8 2) (And.intro (c8 3) (c8 4))))))
      have hgr8 := hgW.trans (hg7'.trans hg8')
      go_wp2
      go_ret
      exact ⟨ret_bool (same_of_val Hv6.out), hgr8⟩
  · have HB : Hid _ := fun a cap W (h : SpansAt W a l) => forward_bad a cap l W h h0
    have HS : Hid _ := fun W (h : SpansAt W a l) => SpansFault_any a cap l W h
    obtain ⟨E, hE⟩ : ∃ E, spnsF l = E := ⟨_, rfl⟩
    rw [hE] at h0
    simp only [hE] at HB HS
    clear hE
    have g0 : (E != 0) = true := by simpa using h0
    rcases l with _ | ⟨y, r⟩
    · rcases a with _ | a
      all_goals
        go_enter Try.func3, Try.ntmps3
        go_wp2_with fail
        refine (HB.out none 0 _ ⟨by simp, fun i x h => by simp at h⟩).mono ?_
        rintro e w1 ⟨rfl, hg1⟩
        go_wp2_with fail
        refine (HS.out _ ⟨by simp, fun i x h => by simp at h⟩).mono ?_
        rintro e w2 ⟨rfl, hg2⟩
        have k2 := (hg2.block w1.heap.size (by simp)).trans (heapA w1 _)
        obtain ⟨c2, f2⟩ := row_all k2
        clear k2
        go_wp2_with fail
        go_ret
        exact ⟨rfl, (hg1.alloc _).trans hg2⟩
    · obtain ⟨_, b, o, rfl, hb, _⟩ := hx.cell 0 y rfl
      simp only [List.length_cons] at HB HS
      simp only [List.length_cons]
      go_enter Try.func3, Try.ntmps3
      go_wp2_with (at_builtin; (refine wpList_append_lies _ rfl _ _ _ rfl w.heap.size 55 i0 _ 4 40 Try.underlying22 hi hi1 hi2 hi3 rfl (by decide) (.slice none 0 0) 0 [] (by rfl) (owns_nil _ _ _ _) ⟨b, o, none⟩ (r.length + 1) cap (spnL (y :: r)) (by rfl) (spnL_len _) (spnL_news hx) (spnL_cell _) (by omega) (by unfold maxLen; simp at hr; omega) (by simp at hr; omega) (Nat.le_refl _) _ rfl ?_))
      intro g cap' w1 hown hgrow hat hlt
      have hg1 : Gr w w1 := (Gr.refl _).by_ hgrow (by simp [Value.ownBlock])
      have hown' : w1.ownsRow w.heap.size 55 4 (.slice (some ⟨g, 0, none⟩) (r.length + 1) cap') (y :: r).length (spnL (y :: r)) := by simpa using hown
      obtain ⟨a2, cap2, he2, hs2⟩ := owns_spans hok hown'
      cases he2
      clear hown hown' hgrow hat hlt
      go_wp2_with fail
      refine (HB.out _ cap' _ hs2).mono ?_
      rintro e w2 ⟨rfl, hg2⟩
      go_wp2_with fail
      refine (HS.out _ (hx.gr (by exact (hg1.trans hg2).alloc _))).mono ?_
      rintro e w3 ⟨rfl, hg3⟩
      have k2 := (hg3.block w2.heap.size (by simp)).trans (heapA w2 _)
      obtain ⟨c2, f2⟩ := row_all k2
      clear k2
      go_wp2_with fail
      go_ret
      exact ⟨rfl, ((hg1.trans hg2).alloc _).trans hg3⟩

theorem treeForwards_own : ownKnob Try.prog.godebug = none := by kernel_rfl
theorem treeForwards_laidOut : laidOutB Try.prog = true := by kernel_rfl
theorem treeForwards_rec : ∀ t ∈ Try.f3.params.toList, Try.prog.readableRec t = true ∧ t < Try.prog.types.size := by
  rw [Try.params3]
  intro t ht
  simp only [List.mem_cons, List.not_mem_nil, or_false] at ht
  rcases ht with rfl | rfl
  all_goals exact ⟨by kernel_rfl, of_decide_eq_true (by kernel_rfl)⟩
set_option maxRecDepth 100000 in
theorem treeForwards_lifted (os : Os) (started : os.Started) (H : Type) (enc : TypeId × Value → H) :
    ReturnsInHanded {} Try.checked os 3 .any (Rows.treeForwardsSpec.pre6 enc Try.prog Try.f3 Rows.treeForwardsRow.domain false) (Rows.treeForwardsSpec.post enc Try.prog Try.f3 false true false false) := by
  refine returnsInHanded_of_change_sized (C := Try.checked) treeForwards_own started (by kernel_rfl) Try.func3
    (ChangeSpec.witness6 (enc := enc) (C := Try.checked) false ⟨#[], #[.slice none 0 0, .int .i64 0], []⟩ 8 (by kernel_rfl) (by kernel_rfl) (by kernel_rfl) (by kernel_rfl)) ?_
  intro W base args ds gs before hval0 hW hcnd hsz0 _
  have hval : ∀ (j : Nat) t v, Try.f3.params[j]? = some t → args[j]? = some v → Value.okWide Try.prog W .any base t v := hval0
  have hW' := hW
  obtain ⟨p, q, hA0, hV, rfl, hfz, hnd⟩ := hW
  have hA : DataW.TrodAll enc Try.prog W 0 (fun _ => true) true Try.f3.params.toList args.toList ds p := hA0
  have hAk := hA
  have hsz : (DataW.weightsEach Try.prog (Try.f3.params.toList ++ Rows.treeForwardsSpec.plain.varTypes Try.prog) (ds ++ gs)).all (· ≤ reachBytes) = true := hsz0
  rw [Try.params3] at hA hval hsz
  obtain ⟨v0, vs0, d0, ds0, p0, q0, hargs, rfl, rfl, h0, r0⟩ := trodAll_cons hA
  obtain ⟨v1, vs1, d1, ds1, p1, q1, rfl, rfl, rfl, h1, r1⟩ := trodAll_cons r0
  obtain ⟨rfl, rfl, rfl⟩ := trodAll_nil r1
  obtain rfl : args = #[v0, v1] := by cases args; simp_all
  obtain ⟨rfl, rfl⟩ := trodVars_none hV
  obtain ⟨x0, rfl, f0⟩ := open_spans (hval 0 22 v0 rfl rfl) h0
  obtain ⟨x1, rfl, _, _, f1⟩ := open_int Try.underlying3 (hval 1 3 v1 rfl rfl) h1
  have z0 := spans_reach h0 (fun k hk => by simpa using List.all_eq_true.1 hsz k (DataW.weights_mem_each (j := 0) (t := 22) rfl rfl k hk))
  clear hA0 hval0 hsz0
  refine (treeForwards_walk x0 x1 W f0 f1 z0).mono fun e W' ⟨he, hg⟩ => ?_
  subst he
  refine ⟨_, rfl, _, _, _, [], _, [], hW', ?_, gr_trodAll treeForwards_laidOut hg treeForwards_rec hAk (fun x hx => hW'.lt x (List.mem_append_left _ hx)) (fun x hx => by simpa using hW'.lt x (List.mem_append_left _ hx)), ?_, hg.frame _, fun h => by cases h⟩
  · exact trodAll_cons_mk (shut_bool Try.underlying4 _) trodAll_mk0
  · rfl

theorem treeForwards_holds : Rows.TreeForwardsSaid :=
  OpenClaim.holds_of_wide 3 Try.f3 rfl rfl rfl rfl rfl rfl rfl ⟨rfl, rfl, rfl, rfl, rfl⟩ rfl rfl rfl rfl rfl (by kernel_rfl) Try.func3 (by kernel_rfl)
    (of_decide_eq_true (by kernel_rfl)) (by unfold Func.isWrapper; first | (rw [if_pos (by decide +kernel)]; kernel_rfl) | (rw [if_neg (by decide +kernel)]; exact ⟨rfl, rfl⟩))
    (fun os started H enc _ => treeForwards_lifted os started H enc)
#print axioms treeForwards_holds
end Go.Proofs.Ytkgobfhabhimhaa
