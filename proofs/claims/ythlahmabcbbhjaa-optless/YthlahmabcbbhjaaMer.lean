/- Contract: a forest merged. -/
import Derived.Test.YthlahmabcbbhjaaMrg
import Derived.Test.YthlahmabcbbhjaaGro
import Derived.Test.YthlahmabcbbhjaaFiC
import Derived.Test.YthlahmabcbbhjaaOptM
import Derived.Test.YthlahmabcbbhjaaCop
import Derived.Test.YthlahmabcbbhjaaFlat
import Derived.Test.YthlahmabcbbhjaaFstB
namespace Go.Proofs.Ythlahmabcbbhjaa
open Go.ChangeShapes Go.WideShapes Go.ChangeAt Go.RowKit Go.Maps
set_option linter.unusedVariables false
theorem part_get : ∀ (l : List (Int × Int)) (i : Nat) (q : Int × Int), l[i]? = some q → (partL l)[i * 2]? = some (.int .i64 q.1) ∧ (partL l)[i * 2 + 1]? = some (.int .i64 q.2)
  | [], i, q, h => by simp at h
  | p :: l, 0, q, h => by simp at h; subst h; exact ⟨rfl, rfl⟩
  | p :: l, i + 1, q, h => by
    have := part_get l i q (by simpa using h)
    rw [show (i + 1) * 2 = i * 2 + 2 by omega, show i * 2 + 2 + 1 = i * 2 + 1 + 2 by omega]
    simpa [partL] using this
theorem part_len (l : List (Int × Int)) : (partL l).length = l.length * 2 := by
  induction l with
  | nil => rfl
  | cons p l ih => simp only [partL, List.flatMap_cons, List.length_append, List.length_cons, List.length_nil] at ih ⊢; omega
/-- A row of parts that the call owns, as growing a tree takes it. -/
theorem owns_cmp {w : World} {base : Nat} {v : Value} {qs : List (Int × Int)} (h : w.ownsRow base 89 2 v qs.length (partL qs)) (h0 : 0 < qs.length) :
    ∃ (g cap : Nat) (cs : Array Value), v = .slice (some ⟨g, 0, none⟩) qs.length cap ∧ base ≤ g ∧ g < w.heap.size ∧ w.heap[g]? = some (.cells cs 89) ∧ CmpR cs qs 0 ∧ qs.length ≤ cap ∧ cap ≤ maxLen := by
  rcases h.2 with ⟨hv, hn⟩ | ⟨g, cap, cur, hv, hb, hg, h1, h2, h3⟩
  · omega
  · have cl : ∀ j u, (partL qs)[j]? = some u → cur[j]? = some u := fun j u hu => by
      have hc := h.cells (g := g) (by rw [hv]; rfl) j u hu
      rw [show (⟨g, 0, none⟩ : Addr).add j = ⟨g, 0 + j, none⟩ from Go.WideShapes.add_plain .., (row_all hg).1, Nat.zero_add] at hc
      exact hc
    refine ⟨g, cap, cur, hv, hb, (Array.getElem?_eq_some_iff.1 hg).1, hg, ⟨fun j x hj => ?_, fun j x _ hj => ⟨cl _ _ (part_get qs j x hj).1, cl _ _ (part_get qs j x hj).2⟩, ?_⟩, h1, h2⟩
    · rw [compact_one, List.getElem?_take] at hj
      by_cases k : j < 0 + 1
      · rw [if_pos k] at hj; exact ⟨cl _ _ (part_get qs j x hj).1, cl _ _ (part_get qs j x hj).2⟩
      · rw [if_neg k] at hj; cases hj
    · obtain ⟨q, hq⟩ : ∃ q, qs[qs.length - 1]? = some q := ⟨_, List.getElem?_eq_getElem (by omega)⟩
      have := (Array.getElem?_eq_some_iff.1 (cl _ _ (part_get qs _ q hq).2)).1
      omega
theorem low_of {w : World} {f : Fst} (hf : FstOk w f) : NodesLow w.heap.size w f.na f.nodes :=
  ⟨fun i x hx => by
    obtain ⟨b, o, e, hb, hc⟩ := hf.nat.cell i x hx
    exact ⟨b, o, e, hb, hc⟩⟩
set_option maxHeartbeats 3200000 in
theorem merge_any (f : Fst) (w : World) (hf : FstOk w f) (hG : Good f) :
    Calls Try.prog 20 #[.agg f.cells.toArray] w fun e w' => ∃ g : Fst, e = .returned (.agg g.cells.toArray) ∧ Made true true true f g w w' := by
  have HF : Hid _ := fun W => finderA_any W
  have hfa := hf.acap
  have HFO : Hid _ := hf
  have HG : Hid _ := hG
  have g1 := hG.ne
  have g2 := hG.n8
  have g3 := hG.a2
  obtain ⟨F, hF⟩ : ∃ F : Fst, F = f := ⟨_, rfl⟩
  have HFF : Hid _ := hF
  clear hF hG hf
  obtain ⟨na, ncap, nodes, aa, acap, answers⟩ := f
  simp only at g1 g2 g3 hfa
  simp only [Fst.cells]
  go_enter Try.func20, Try.ntmps20
  go_wp2_with fail
  refine (HF.out _).mono ?_
  rintro e w2 ⟨kb, mb, lb, M, base, rfl, hFA, hkb, hlb, hM, hbase, hg2⟩
  have k1 := (hg2.block w.heap.size (by simp; omega)).trans (heapB w _ _)
  have k2 := (hg2.block (w.heap.size + 1) (by simp)).trans (heapC w _ _)
  have z2 : w.heap.size + 2 ≤ w2.heap.size := by have := hg2.size; simp at this; omega
  have zA : w.heap.size < w2.heap.size := by omega
  have zB : w.heap.size + 1 < w2.heap.size := by omega
  have hgw2 : Gr w w2 := (((Gr.refl _).alloc _).alloc _).trans hg2
  obtain ⟨c1, f1⟩ := row_all k1
  obtain ⟨c2, f2⟩ := row_all k2
  have K1 : Hid _ := k1
  have K2 : Hid _ := k2
  have hkb2 : w.heap.size + 2 ≤ kb := by simpa using hkb
  have hlb2 : w.heap.size + 2 ≤ lb := by simpa using hlb
  have hM2 : w.heap.size + 2 ≤ M := by simpa using hM
  clear k1 k2
  go_wp2_with fail
  refine name_worldP (p := fun W => Calls _ _ _ W _) _ (fun W hW => ?_)
  have gW : Gr w2 W := by rw [hW]; exact (Gr.refl _).alloc _
  have kc : W.heap[w2.heap.size]? = some (.cells #[.func (.func 47) #[] #[.pointer (some ⟨kb, 0, none⟩), .pointer (some ⟨mb, 0, none⟩), .pointer (some ⟨lb, 0, none⟩)]] 63) := by rw [hW]; exact heapA _ _
  clear hW
  have hgW := hgw2.trans gW
  have kf := (gW.block w.heap.size zA).trans K1.out
  have hfo := HFO.out
  have hI : MgI ⟨na, ncap, nodes, aa, acap, answers⟩ w.heap.size kb mb lb M base w2.heap.size w.heap.size (.slice none 0 0, [], .map []) W := by
    refine ⟨(hFA.gr gW).rebase (Nat.le_refl _) (by have := gW.size; omega) (by simp; omega), kc, kf, fun y hy => by simp at hy, fun i x hx => ?_, fun x hx => (hfo.aok x hx).gr hgW, fun x hx => ((hfo.aok x hx).far (Nat.le_refl _)).gr hgW, by have := gW.size; omega⟩
    obtain ⟨b, o, e, hb, hc⟩ := hfo.aat.cell i x hx
    exact ⟨b, o, e, hb, hc.gr hb hgW⟩
  have h6 : ∀ x ∈ answers, x.zs.length ≤ 6 := fun x hx => (fault_small (HG.out.ans x hx)).1
  have hT := merge_tells ⟨na, ncap, nodes, aa, acap, answers⟩ w.heap.size kb mb lb M base w2.heap.size w.heap.size h6 (by simp only; omega) hfa
  obtain ⟨root, hroot⟩ : ∃ root, nodes[nodes.length - 1]? = some root := ⟨_, List.getElem?_eq_getElem (by omega)⟩
  have HC : Hid _ := fun (_ : Unit) => partsOfM_any w2.heap.size w.heap.size answers.length w.heap.size _ _ _ hT na ncap nodes (by omega) hfo.ncap HG.out.down hfo.nok (fun nd hn hl => by
    obtain ⟨i, hi⟩ := List.getElem?_of_mem hn
    obtain ⟨leaf, a, b, l, m⟩ := nd
    simp only at hl
    subst hl
    exact HG.out.leaf hi) root hroot _ W hI ((low_of hfo).gr hgW (Nat.le_refl _))
  have HROOT : Hid _ := hroot
  clear hroot hT hI hfo c1 f1 c2 f2
  refine (HC.out ()).mono ?_
  rintro e w3 ⟨s3, v3, qs, pbase, rfl, hp⟩
  have hPP : Hid _ := hp
  clear hp
  have hwk : Wk nodes nodes.length root minI maxI (wkD nodes nodes.length root minI maxI) := wk_all HG.out.down nodes.length (nodes.length - 1) root minI maxI (by omega) HROOT.out (by unfold minI maxI; omega)
  have hq0 : 0 < qs.length := by
    obtain ⟨q, r, e, _⟩ := hwk.head
    rw [hPP.out.says.len, e]; simp
  have hlen : qs.length = (wkD nodes nodes.length root minI maxI).length := hPP.out.says.len
  have hql : qs.length ≤ 9000 := by have := hwk.len2; omega
  obtain ⟨pg, pcap, pcs, rfl, hpg1, hpg2, hpg3, hpg4, hpg5, hpg6⟩ := owns_cmp hPP.out.row hq0
  unfold maxLen at hpg6
  obtain ⟨v3', ns3, D3⟩ := s3
  have hns := hPP.out.i.len
  simp only at hns
  have hRise : Rise qs := by
    have := hPP.out.says.rise hwk.rise
    cases qs with
    | nil => simp at hq0
    | cons q r => exact ⟨(List.pairwise_cons.1 this).2⟩
  have hok : ∀ x ∈ qs, PartOk ns3.length x := fun x hx => by
    obtain ⟨i, hi⟩ := List.getElem?_of_mem hx
    have hl := hPP.out.says.len
    have hlt := (List.getElem?_eq_some_iff.1 hi).1
    obtain ⟨k, e1, e2⟩ := hPP.out.says.at_ i _ (List.getElem?_eq_getElem (by omega))
    rw [hi] at e1
    cases e1
    obtain ⟨x', y, _, hy, _⟩ := e2
    have hb := hwk.lo _ (List.getElem_mem (by omega : i < (wkD nodes nodes.length root minI maxI).length))
    have hb1 : -9223372036854775808 ≤ ((wkD nodes nodes.length root minI maxI)[i]'(by omega)).fst := hb.1
    have hb2 : ((wkD nodes nodes.length root minI maxI)[i]'(by omega)).fst ≤ 9223372036854775807 := hb.2
    have := (List.getElem?_eq_some_iff.1 hy).1
    exact ⟨WalkArith.wf_i64 ⟨hb1, hb2⟩, by simp only; omega, by simp only at this ⊢; omega⟩
  have hwl := hPP.out.wl
  have zW3 := hwl.size
  have z3 : w2.heap.size + 1 ≤ w3.heap.size := by have := hPP.out.i.low; have := (Array.getElem?_eq_some_iff.1 hPP.out.i.cbox).1; omega
  have K3 : Hid _ := hwl.typed _ _ _ ((gW.block _ (by omega)).trans K2.out) (by decide) (by decide) (by decide) (by decide)
  have HGW : Hid _ := hgW.wl hwl (Nat.le_refl _)
  have HG2 : Hid _ := fun (_ : Unit) => grow_any pg pcap ns3.length pcs qs w3 hpg2 hpg3 hpg4 hq0 (by omega) hpg5 (by omega) (by omega) hok hRise
  have HLEN : Hid _ := hlen
  have HWK : Hid _ := fun (_ : Unit) => hwk
  have H6 : Hid _ := fun (_ : Unit) => h6
  clear hgW hok hRise hwl hlen hwk h6 hpg4 hpg5 HC hgw2 hg2 gW kc
  go_wp2_with fail
  refine (HG2.out ()).mono ?_
  rintro e w4 ⟨nodes4, nv, nb, rfl, n2, n3, n4, n5, n6, n7, n8⟩
  have hF3 : FinA w3 kb mb lb M base w.heap.size v3' ns3 D3 := hPP.out.i.fin
  have hF4 := hF3.cg n5 hpg3 (Nat.le_trans hPP.out.low2 hpg1)
  have hgr4 := HGW.out.cg n5 (Nat.le_trans hPP.out.low2 hpg1)
  have K4 : Hid _ := (n5.block (w.heap.size + 1) (by omega) (fun e => by have h := K3.out; rw [e, hpg3] at h; cases h)).trans K3.out
  have z4 : w.heap.size + 1 < w4.heap.size := (Array.getElem?_eq_some_iff.1 K4.out).1
  have HF4 : Hid _ := hF4
  have POST : Hid _ := fun (_ : Unit) => And.intro n2 (And.intro n3 (And.intro n4 (And.intro n6 (And.intro n7 (And.intro n8 hgr4)))))
  obtain ⟨nga, ngcap, hnv⟩ : ∃ na ncap, nv = .slice na nodes4.length ncap := row_formA n2
  obtain ⟨ya, ycap, hav, hacap, hmx, hfive⟩ := owns_fivesV (fun _ => rfl) hF4.row
  subst hnv
  subst hav
  have HFI : Hid _ := fun (_ : Unit) => hfive
  clear n2 n3 n4 n5 n6 n7 n8 hgr4 hF4 hfive hF3
  go_wp2_with fail
  refine (listedA_any kb mb lb M base w.heap.size _ ns3 D3 w4 HF4.out).mono ?_
  rintro e w5 ⟨rfl, hw5⟩
  subst w5
  have HCO : Hid _ := fun W (hg : Gr w4 W) => copies_any ya ycap ns3 W ((HFI.out ()).gr hg) (fun y hy => ⟨(HF4.out.ok y hy).gr hg, by have := HF4.out.ok6 y hy; omega, by
    obtain ⟨x, hx, hv⟩ := hPP.out.i.from_ y hy
    simp only [Ans.val, Prod.mk.injEq] at hv
    have := (fault_small (HG.out.ans x hx)).2
    rw [hv.2.2.1]; omega⟩) (by omega)
  go_wp2_with fail
  refine (HCO.out _ (by repeat (with_reducible first | exact Gr.refl _ | refine Gr.drew ?_))).mono ?_
  rintro e w6 ⟨ob, ys, rfl, hyl, hyv, hyf, hyok, hob, hg6⟩
  have hgr6 := (POST.out ()).2.2.2.2.2.2.trans hg6
  have k6 := (hg6.block (w.heap.size + 1) z4).trans K4.out
  obtain ⟨c6, f6⟩ := row_all k6
  have HY : Hid _ := fun (_ : Unit) => And.intro hyv (And.intro hyf (And.intro hyok (And.intro hg6 hgr6)))
  have HYL : Hid _ := hyl
  clear hyv hyf hyok hg6 hgr6 hyl
  go_wp2_with fail
  obtain ⟨pr, pb, pok, pg', pl, pn, _⟩ := POST.out ()
  obtain ⟨hyv, hyf, hyok, hg6, hgr6⟩ := HY.out ()
  have hyl := HYL.out
  obtain ⟨na', ncap', hne, hncap, hnmx, hnfive⟩ := owns_fivesV (fun _ => rfl) (owns_gr pr hg6)
  cases hne
  have hGG : Grown2 ⟨na, ncap, nodes, aa, acap, answers⟩ qs ns3 (mgSay ⟨na, ncap, nodes, aa, acap, answers⟩ (.slice ya ns3.length ycap, ns3, D3)) nodes4 := ⟨HG.out, ⟨root, HROOT.out, hPP.out.says⟩, fun n i h => h, fun y hy => hPP.out.i.from_ y hy, hns, pg', pl, pn⟩
  have hleast := fun g2 (h2 : Good g2) hs => hGG.least HF4.out.nodup h2 hs
  have hfew : nodes4.length ≤ nodes.length := hleast _ HG.out (Same.refl HG.out)
  obtain ⟨fg1, fg2⟩ := hGG.same (na := nga) (ncap := ngcap) (aa := some ⟨ob, 0, none⟩) (acap := ns3.length) (Or.inl hfew) hyv
  have hfst : FstOk w6 ⟨nga, ngcap, nodes4, some ⟨ob, 0, none⟩, ns3.length, ys⟩ := ⟨hncap, by show ys.length ≤ ns3.length; omega, hnfive, pok, hyf, hyok⟩
  refine bodyPost_ret (v := .agg (Fst.cells ⟨nga, ngcap, nodes4, some ⟨ob, 0, none⟩, ns3.length, ys⟩).toArray) (by simp [results, Try.results20, go_sem, c6, Fst.cells, hyl]) rfl ⟨_, rfl, hfst.but ⟨⟨_, k6⟩⟩ (but2 _ _ _ _), fg1, fg2, ?_, fun _ => by rw [hyv]; exact HF4.out.nodup, fun _ => hleast, fun _ => pn, fun _ bs hb K hK t => hGG.deep bs hb K hK t⟩
  repeat (with_reducible first | exact hgr6 | refine Gr.setCell ?_ (by simp) _)
end Go.Proofs.Ythlahmabcbbhjaa
