/- Contract: Eval of a forest (P4.5), by the program. -/
import Derived.Test.YtcpmbjlhblkniaaDoorTreV
import Derived.Test.YtcpmbjlhblkniaaDoorTreN
import Derived.Test.YtcpmbjlhblkniaaDoorTreC
import Derived.Test.YtcpmbjlhblkniaaDoorAnsV
namespace Go.Proofs.YtcpmbjlhblkniaaDoor
open Go.ChangeShapes Go.WideShapes Go.ChangeAt Go.RowKit
set_option linter.unusedVariables false
/-- What a forest tells for a number; with an error nothing. -/
def evalA (f : Fst) (t : Int) : Ans := if forF f = 0 then f.answers.getD (evalI f t) zeroA else zeroA
theorem evalA_no {f : Fst} {t : Int} (h : forF f ≠ 0) : evalA f t = zeroA := by rw [evalA, if_neg h]
theorem evalA_yes {f : Fst} {t : Int} (h : forF f = 0) {x : Ans} (hx : f.answers[evalI f t]? = some x) : evalA f t = x := by rw [evalA, if_pos h, List.getD_eq_getElem?_getD, hx]; rfl
/-- How far a node is from its leaves, at most: read off its cells. -/
def muC : Option Value → Option Value → Option Value → Nat
  | some (.bool false), some (.int .i64 l), some (.int .i64 m) => (max l m).toNat + 1
  | _, _, _ => 0
def muN (n : Tre.Nod) : Nat := muC (some (.bool n.leaf)) (some (.int .i64 n.less)) (some (.int .i64 n.more))
theorem mu_lt {f : Fst} (h : Good f) {i j : Nat} {a b l m : Int} {nd : Tre.Nod} (hi : f.nodes[i]? = some ⟨false, a, b, l, m⟩) (hj : f.nodes[j]? = some nd) (hl : (j : Int) = l ∨ (j : Int) = m) : muN nd < muN ⟨false, a, b, l, m⟩ := by
  obtain ⟨leaf, a', b', l', m'⟩ := nd
  have h1 := h.inner hi
  have e : muN ⟨false, a, b, l, m⟩ = (max l m).toNat + 1 := rfl
  rw [e]
  cases leaf with
  | true => have : muN ⟨true, a', b', l', m'⟩ = 0 := rfl; omega
  | false =>
    have h2 := h.inner hj
    have : muN ⟨false, a', b', l', m'⟩ = (max l' m').toNat + 1 := rfl
    omega
theorem node_set {w : World} {b : Nat} {t : TypeId} (n m : Tre.Nod) (h : w.heap[b]? = some (.cells (Nod.cells n).toArray t)) :
    (((((w.setCell ⟨b, 0, none⟩ (.bool m.leaf)).setCell ⟨b, 1, none⟩ (.int .i64 m.ans)).setCell ⟨b, 2, none⟩ (.int .i64 m.bound)).setCell ⟨b, 3, none⟩ (.int .i64 m.less)).setCell ⟨b, 4, none⟩ (.int .i64 m.more)).heap[b]? = some (.cells (Nod.cells m).toArray t) := by
  have h0 := heap_setCell_same w b 0 _ t (.bool m.leaf) h
  have h1 := heap_setCell_same _ b 1 _ t (.int .i64 m.ans) h0
  have h2 := heap_setCell_same _ b 2 _ t (.int .i64 m.bound) h1
  have h3 := heap_setCell_same _ b 3 _ t (.int .i64 m.less) h2
  have h4 := heap_setCell_same _ b 4 _ t (.int .i64 m.more) h3
  rw [h4]
  simp [Nod.cells]
theorem mu_at {w : World} {b : Nat} {t : TypeId} {n : Tre.Nod} (h : w.heap[b]? = some (.cells (Nod.cells n).toArray t)) : muC (w.cell? ⟨b, 0, none⟩) (w.cell? ⟨b, 3, none⟩) (w.cell? ⟨b, 4, none⟩) = muN n := by
  obtain ⟨c, _⟩ := row_all h
  rw [c, c, c]; rfl
theorem node_step {F : Fst} (hG : Good F) {wr w1 : World} {T : TypeId} {k j : Nat} {a bo l m t V : Int} {x' : Tre.Nod} (hk : F.nodes[k]? = some ⟨false, a, bo, l, m⟩) (hj : F.nodes[j]? = some x') (hjl : (j : Int) = l ∨ (j : Int) = m)
    (hm : wr.heap[w1.heap.size]? = some (.cells (Nod.cells ⟨false, a, bo, l, m⟩).toArray T)) (hg : Gr w1 wr) (hz : w1.heap.size < wr.heap.size) (hv : valN F.nodes t (k + 1) k = valN F.nodes t k j) (hV : valN F.nodes t (k + 1) k = V) :
    (∃ (k : Nat) (nd : Tre.Nod), F.nodes[k]? = some nd ∧ Gr w1 (((((wr.setCell ⟨w1.heap.size, 0, none⟩ (.bool x'.leaf)).setCell ⟨w1.heap.size, 1, none⟩ (.int .i64 x'.ans)).setCell ⟨w1.heap.size, 2, none⟩ (.int .i64 x'.bound)).setCell ⟨w1.heap.size, 3, none⟩ (.int .i64 x'.less)).setCell ⟨w1.heap.size, 4, none⟩ (.int .i64 x'.more)) ∧
      w1.heap.size < (((((wr.setCell ⟨w1.heap.size, 0, none⟩ (.bool x'.leaf)).setCell ⟨w1.heap.size, 1, none⟩ (.int .i64 x'.ans)).setCell ⟨w1.heap.size, 2, none⟩ (.int .i64 x'.bound)).setCell ⟨w1.heap.size, 3, none⟩ (.int .i64 x'.less)).setCell ⟨w1.heap.size, 4, none⟩ (.int .i64 x'.more)).heap.size ∧
      (((((wr.setCell ⟨w1.heap.size, 0, none⟩ (.bool x'.leaf)).setCell ⟨w1.heap.size, 1, none⟩ (.int .i64 x'.ans)).setCell ⟨w1.heap.size, 2, none⟩ (.int .i64 x'.bound)).setCell ⟨w1.heap.size, 3, none⟩ (.int .i64 x'.less)).setCell ⟨w1.heap.size, 4, none⟩ (.int .i64 x'.more)).heap[w1.heap.size]? = some (.cells (Nod.cells nd).toArray T) ∧ valN F.nodes t (k + 1) k = V) ∧
    ∀ W, W = (((((wr.setCell ⟨w1.heap.size, 0, none⟩ (.bool x'.leaf)).setCell ⟨w1.heap.size, 1, none⟩ (.int .i64 x'.ans)).setCell ⟨w1.heap.size, 2, none⟩ (.int .i64 x'.bound)).setCell ⟨w1.heap.size, 3, none⟩ (.int .i64 x'.less)).setCell ⟨w1.heap.size, 4, none⟩ (.int .i64 x'.more)) →
      muC (W.cell? ⟨w1.heap.size, 0, none⟩) (W.cell? ⟨w1.heap.size, 3, none⟩) (W.cell? ⟨w1.heap.size, 4, none⟩) < muC (wr.cell? ⟨w1.heap.size, 0, none⟩) (wr.cell? ⟨w1.heap.size, 3, none⟩) (wr.cell? ⟨w1.heap.size, 4, none⟩) := by
  have hn := node_set _ x' hm
  have hi := hG.inner hk
  refine ⟨⟨j, x', hj, ?_, ?_, hn, ?_⟩, ?_⟩
  · exact ((((hg.setCell (Nat.le_refl _) _).setCell (Nat.le_refl _) _).setCell (Nat.le_refl _) _).setCell (Nat.le_refl _) _).setCell (Nat.le_refl _) _
  · simpa [World.setCell] using hz
  · rw [← hV, hv]
    exact hG.fuel t _ _ _ (by omega) (by omega) (List.getElem?_eq_some_iff.1 hj).1
  · rintro W rfl
    rw [mu_at hn, mu_at hm]
    exact mu_lt hG hk hj hjl
set_option maxHeartbeats 3200000 in
theorem eval_any (f : Fst) (t : Int) (w : World) (hf : FstOk w f) :
    Calls Tryd.prog 8 #[.agg f.cells.toArray, .int .i64 t] w fun e w' => ∃ y : Ans, e = .returned (.tuple #[.agg y.cells.toArray, .int .i64 (forF f)]) ∧ AnsOk w' y ∧ y.val = (evalA f t).val ∧ Gr w w' := by
  obtain ⟨na, ncap, nodes, aa, acap, answers⟩ := f
  obtain ⟨F, hF⟩ : ∃ F : Fst, F = ⟨na, ncap, nodes, aa, acap, answers⟩ := ⟨_, rfl⟩
  have HF : Hid _ := hF
  rw [← hF] at hf ⊢
  have ec : F.cells = [.slice na nodes.length ncap, .slice aa answers.length acap] := by rw [hF]; rfl
  have en : F.nodes = nodes := by rw [hF]
  have ea : F.answers = answers := by rw [hF]
  have e1 : F.na = na := by rw [hF]
  have e2 : F.aa = aa := by rw [hF]
  have hch := fun W (hw : FstOk W F) => check_any F W hw
  rw [ec] at hch
  rw [ec]
  have hnat := hf.nat
  have haat := hf.aat
  rw [en, e1] at hnat
  rw [ea, e2] at haat
  have hns := hnat.len
  have has := haat.len
  unfold maxLen at hns has
  have EN : Hid _ := en
  have EA : Hid _ := ea
  have Hch : Hid _ := hch
  clear hF ec en ea e1 e2 hch HF
  by_cases h0 : forF F = 0
  · have g0 : (forF F != 0) = false := by simpa using h0
    have H0 : Hid _ := h0
    have hG := good_of h0
    have n1 := hG.ne
    have n2 := hG.n8
    have n3 := hG.a2
    rw [EN.out] at n1 n2
    rw [EA.out] at n3
    obtain ⟨hv1, hv2⟩ := hG.evalI_lt t
    rw [EN.out] at hv2
    rw [EA.out] at hv1
    have HV : Hid _ := hv2
    clear h0 hv2
    go_enter Tryd.func8, Tryd.ntmps8
    go_wp2_with fail
    refine (Hch.out _ (hf.grown (((Grown.refl _).alloc _ _).alloc _ _))).mono ?_
    rintro e w1 ⟨rfl, hg1⟩
    have k1 := (Grown_block hg1 w.heap.size (by simp; omega)).trans (heapB w _ _)
    have k2 := (Grown_block hg1 (w.heap.size + 1) (by simp)).trans (heapC w _ _)
    have z1 : w.heap.size + 2 ≤ w1.heap.size := by have := hg1.2.2; simp at this; omega
    have hgr : Gr w w1 := (((Gr.refl _).alloc _).alloc _).trans (Gr.ofGrown hg1)
    clear hg1
    have K1 : Hid _ := k1
    have K2 : Hid _ := k2
    obtain ⟨c1, f1⟩ := row_all k1
    clear k1 k2
    obtain ⟨x, hx⟩ : ∃ x, nodes[nodes.length - 1]? = some x := ⟨_, List.getElem?_eq_getElem (by omega)⟩
    obtain ⟨b, o, rfl, hb, hc⟩ := hnat.cell _ x hx
    obtain ⟨q0, q1, q2, q3, q4⟩ := hc.gr hb hgr
    have hb' := Nat.lt_of_lt_of_le hb hgr.size
    simp [Nod.cells] at q0 q1 q2 q3 q4
    have eix : ((nodes.length : Int) - 1).toNat = nodes.length - 1 := by omega
    have Hx : Hid _ := hx
    clear hx hc
    go_wp2_with fail
    have hgm : Gr w1 (w1.alloc (Obj.cells (Nod.cells x).toArray 65)) := (Gr.refl _).alloc _
    have hm0 := heapA w1 (Obj.cells (Nod.cells x).toArray 65)
    have zm : w1.heap.size < (w1.alloc (Obj.cells (Nod.cells x).toArray 65)).heap.size := by simp
    go_loopw [22] (fun u wr => ∃ (k : Nat) (nd : Tre.Nod), nodes[k]? = some nd ∧ Gr w1 wr ∧ w1.heap.size < wr.heap.size ∧ wr.heap[w1.heap.size]? = some (.cells (Nod.cells nd).toArray 65) ∧ valN nodes t (k + 1) k = valN nodes t nodes.length (nodes.length - 1)) (fun _ wr => muC (wr.cell? ⟨w1.heap.size, 0, none⟩) (wr.cell? ⟨w1.heap.size, 3, none⟩) (wr.cell? ⟨w1.heap.size, 4, none⟩))
    case atStart => exact ⟨nodes.length - 1, x, Hx.out, hgm, zm, hm0, by rw [show nodes.length - 1 + 1 = nodes.length from by omega]⟩
    case round =>
      obtain ⟨k, nd, hk, hgw, hzw, hmw, hval⟩ := hrel
      have HK : Hid _ := hk
      have HM : Hid _ := hmw
      have HVL : Hid _ := hval
      have hmu : Hid _ := mu_at hmw
      have r1 := (hgw.block w.heap.size (by omega)).trans K1.out
      have R2 : Hid _ := (hgw.block (w.heap.size + 1) (by omega)).trans K2.out
      obtain ⟨d1, _⟩ := row_all r1
      obtain ⟨dm, fm⟩ := row_all hmw
      have hgw2 := hgr.trans hgw
      clear hk hmw hval r1 c1 f1 q0 q1 q2 q3 q4 hgm hm0 zm Hx
      obtain ⟨leaf, a, bo, l, m⟩ := nd
      simp only [Nod.cells] at dm
      cases leaf with
      | true =>
        have hE : ((evalI F t : Nat) : Int) = a := by rw [HV.out, ← HVL.out]; exact valN_leaf HK.out
        obtain ⟨x', hx'⟩ : ∃ x', answers[evalI F t]? = some x' := ⟨_, List.getElem?_eq_getElem hv1⟩
        obtain ⟨b2, o2, rfl, hb2, hc2⟩ := haat.cell _ x' hx'
        have hok := (hf.aok x' (by rw [EA.out]; exact List.mem_of_getElem? hx')).gr hgw2
        have hsm := fault_small (hG.ans x' (by rw [EA.out]; exact List.mem_of_getElem? hx'))
        have EV : Hid _ := evalA_yes H0.out (t := t) (x := x') (by rw [EA.out]; exact hx')
        obtain ⟨q0, q1, q2, q3, q4⟩ := hc2.gr hb2 hgw2
        have hat : a.toNat = evalI F t := by omega
        rw [← hat] at q0 q1 q2 q3 q4
        have ha0 : 0 ≤ a := by omega
        have ha1 : a < answers.length := by omega
        clear hx' hc2 hE hat hv1 hG
        obtain ⟨off, sv, nm, a', cap', zs, jump⟩ := x'
        simp [Ans.cells] at q0 q1 q2 q3 q4
        simp only at hsm
        obtain ⟨s1, s2⟩ := hsm
        have s1' : zs.length ≤ 8000 := by omega
        have s2' : nm.size ≤ 8000 := by omega
        have HO : Hid _ := hok
        have hzz := hok.zs
        clear hok
        simp only at hzz
        go_wp2_with (go_at_call 20; refine (copied_any _ _ _ _ _ _ _ _ hzz s2' s1').mono ?_; rintro e w5 ⟨a5, cap5, rfl, hcap5, hnew, hz5, hg5⟩; obtain ⟨e5, f5⟩ := row_all ((hg5.block (w.heap.size + 1) (by omega)).trans R2.out))
        have HOo := HO.out
        refine bodyPost_ret (v := .tuple #[.agg #[.int .i64 off, .bool sv, .string nm, .slice a5 zs.length cap5, .int .i64 jump], .int .i64 0]) (by simp [results, Tryd.results8, go_sem, e5]) rfl ⟨⟨off, sv, nm, a5, cap5, zs, jump⟩, ?_, ?_, ?_, ?_⟩
        · rw [H0.out]; rfl
        · refine ⟨HOo.off, HOo.jump, HOo.nm, hcap5, ?_, HOo.wz⟩
          show IntsAt _ a5 zs
          repeat (with_reducible first | exact hz5 | refine IntsAt.sets ?_ hnew (by show w.heap.size + 1 < _; omega) _)
        · rw [EV.out]; rfl
        · repeat (with_reducible first | exact hgw2.trans hg5 | refine Gr.setCell ?_ (by simp) _)
      | false =>
        obtain ⟨r1, r2, r3, r4⟩ := hG.inner (EN.out ▸ HK.out)
        have hkl := (List.getElem?_eq_some_iff.1 HK.out).1
        by_cases ht : t < bo
        · obtain ⟨x', hx'⟩ : ∃ x', nodes[l.toNat]? = some x' := ⟨_, List.getElem?_eq_getElem (by omega)⟩
          obtain ⟨b', o', e, hb1, hc1⟩ := hnat.cell _ x' hx'
          cases e
          obtain ⟨q0, q1, q2, q3, q4⟩ := hc1.gr hb1 hgw2
          simp [Nod.cells] at q0 q1 q2 q3 q4
          have hst := node_step hG (t := t) (V := valN nodes t nodes.length (nodes.length - 1)) (by rw [EN.out]; exact HK.out) (by rw [EN.out]; exact hx') (Or.inl (by omega)) HM.out hgw hzw (by rw [EN.out]; exact valN_less HK.out ht) (by rw [EN.out]; exact HVL.out)
          rw [EN.out] at hst
          have HST : Hid _ := hst
          have hb2 : b ≠ w1.heap.size := by omega
          clear hx' hc1 hst
          go_wp2
          exact ⟨HST.out.1, HST.out.2 _ rfl⟩
        · obtain ⟨x', hx'⟩ : ∃ x', nodes[m.toNat]? = some x' := ⟨_, List.getElem?_eq_getElem (by omega)⟩
          obtain ⟨b', o', e, hb1, hc1⟩ := hnat.cell _ x' hx'
          cases e
          obtain ⟨q0, q1, q2, q3, q4⟩ := hc1.gr hb1 hgw2
          simp [Nod.cells] at q0 q1 q2 q3 q4
          have hst := node_step hG (t := t) (V := valN nodes t nodes.length (nodes.length - 1)) (by rw [EN.out]; exact HK.out) (by rw [EN.out]; exact hx') (Or.inr (by omega)) HM.out hgw hzw (by rw [EN.out]; exact valN_more HK.out ht) (by rw [EN.out]; exact HVL.out)
          rw [EN.out] at hst
          have HST : Hid _ := hst
          have hb2 : b ≠ w1.heap.size := by omega
          clear hx' hc1 hst
          go_wp2
          exact ⟨HST.out.1, HST.out.2 _ rfl⟩
  · have g0 : (forF F != 0) = true := by simpa using h0
    have EV : Hid _ := evalA_no (t := t) h0
    clear h0
    go_enter Tryd.func8, Tryd.ntmps8
    go_wp2_with fail
    refine (Hch.out _ (hf.grown (((Grown.refl _).alloc _ _).alloc _ _))).mono ?_
    rintro e w1 ⟨rfl, hg1⟩
    have k2 := (Grown_block hg1 (w.heap.size + 1) (by simp)).trans (heapC w _ _)
    have hgr : Gr w w1 := (((Gr.refl _).alloc _).alloc _).trans (Gr.ofGrown hg1)
    obtain ⟨c2, f2⟩ := row_all k2
    clear hg1 k2
    go_wp2
    refine bodyPost_ret (v := .tuple #[.agg #[.int .i64 0, .bool false, .string ⟨#[]⟩, .slice none 0 0, .int .i64 0], .int .i64 (forF F)]) (by simp [results, Tryd.results8, go_sem, c2]) rfl ⟨zeroA, rfl, ?_, ?_, ?_⟩
    · exact ⟨by decide, by decide, by decide, by decide, IntsAt.nil _ _, fun z hz => by cases hz⟩
    · rw [EV.out]
    · repeat (with_reducible first | exact hgr | refine Gr.setCell ?_ (by simp) _)
end Go.Proofs.YtcpmbjlhblkniaaDoor
