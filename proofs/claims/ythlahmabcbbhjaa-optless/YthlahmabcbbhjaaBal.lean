/- Contract: a forest balanced. -/
import Derived.Test.YthlahmabcbbhjaaPaPb
import Derived.Test.YthlahmabcbbhjaaMer
namespace Go.Proofs.Ythlahmabcbbhjaa
open Go.ChangeShapes Go.WideShapes Go.ChangeAt Go.RowKit Go.Maps
set_option linter.unusedVariables false
theorem balTell_any (n : Int) (w : World) : Calls Try.prog 40 #[.int .i64 n] w fun e w' => e = .returned (.int .i64 n) ∧ w' = w := by
  go_enter Try.func40, Try.ntmps40
  go_wp2
  go_ret
  exact ⟨rfl, rfl⟩
structure BlI (low : Nat) (f : Fst) (fb rb : Nat) (W : World) : Prop where
  lw : low ≤ W.heap.size
  fbox : W.heap[fb]? = some (.cells #[.slice f.na f.nodes.length f.ncap, .slice f.aa f.answers.length f.acap] 25)
  box : W.heap[rb]? = some (.cells #[.slice none 0 0, .slice none 0 0] 25)
  aat : ∀ (i : Nat) x, f.answers[i]? = some x → ∃ b o, f.aa = some ⟨b, o, none⟩ ∧ b < low ∧ Five W b (o + i * 5) (Ans.cells x)
  aok : ∀ x ∈ f.answers, AnsOk W x
  far : ∀ x ∈ f.answers, Far W low x
theorem BlI.pw {low fb rb : Nat} {f : Fst} {w w' : World} (h : BlI low f fb rb w) (hp : Pw low w w') : BlI low f fb rb w' :=
  have hk : ∀ (b : Nat) (cs : Array Value), w.heap[b]? = some (.cells cs 25) → w'.heap[b]? = some (.cells cs 25) := fun b cs e =>
    (hp.block b (Array.getElem?_eq_some_iff.1 e).1 (Or.inr ⟨fun ds g => by rw [e] at g; revert g; simp, fun ds g => by rw [e] at g; revert g; simp⟩)).trans e
  ⟨Nat.le_trans h.lw hp.size, hk _ _ h.fbox, hk _ _ h.box, fun i x hx => by
    obtain ⟨b, o, e, hb, h0, h1, h2, h3, h4⟩ := h.aat i x hx
    have hl := h.lw
    have g := fun o => World.cell?_of_block (w := w) (a := ⟨b, o, none⟩) (hp.block b (by omega) (Or.inl hb))
    exact ⟨b, o, e, hb, (g _).trans h0, (g _).trans h1, (g _).trans h2, (g _).trans h3, (g _).trans h4⟩, fun x hx => (h.aok x hx).pw (h.far x hx) hp, fun x hx => (h.far x hx).pw hp⟩
def blSay (many : Nat) (_ : Unit) (n : Int) (i : Nat) : Prop := n = (i : Int) ∧ i < many
theorem balance_tells (low : Nat) (f : Fst) (fb rb : Nat) (ha : f.answers.length ≤ 2000) : TellsB f.answers.length low (fun (_ : Unit) => BlI low f fb rb) (fun _ _ => True) (blSay f.answers.length) where
  call := fun s n W h h0 h1 => (balTell_any n W).mono fun e W' ⟨he, hw⟩ => ⟨(), n.toNat, by rw [he, Int.toNat_of_nonneg h0], by rw [hw]; exact h, trivial, ⟨(Int.toNat_of_nonneg h0).symm, by omega⟩, by rw [hw]; exact Wc.ofGr (Gr.refl _) h.lw⟩
  keep := fun s W W' h hp => h.pw hp
  low := fun s W h => h.lw
  refl := fun _ => trivial
  trans := fun _ _ _ _ _ => trivial
  mono := fun a b n i _ h => h
  small := fun s n i W h hs => by have := hs.2; omega
set_option maxHeartbeats 3200000 in
theorem balance_any (f : Fst) (w : World) (hf : FstOk w f) (hG : Good f) :
    Calls Try.prog 21 #[.agg f.cells.toArray] w fun e w' => ∃ g : Fst, e = .returned (.agg g.cells.toArray) ∧ Made false true true f g w w' := by
  have hfa := hf.acap
  have HFO : Hid _ := hf
  have HG : Hid _ := hG
  have g1 := hG.ne
  have g2 := hG.n8
  have g3 := hG.a2
  clear hG hf
  obtain ⟨na, ncap, nodes, aa, acap, answers⟩ := f
  simp only at g1 g2 g3 hfa
  simp only [Fst.cells]
  go_enter Try.func21, Try.ntmps21
  go_wp2_with fail
  refine name_worldP (p := fun W => Calls _ _ _ W _) _ (fun W hW => ?_)
  have gW : Gr w W := by rw [hW]; first | exact ((Gr.refl _).alloc _).alloc _ | (repeat (with_reducible first | exact Gr.refl _ | refine Gr.alloc ?_ _ | refine Gr.setCell ?_ (by simp) _))
  have kf : W.heap[w.heap.size]? = some (.cells #[.slice na nodes.length ncap, .slice aa answers.length acap] 25) := by rw [hW]; exact heapB _ _ _
  have kr : W.heap[w.heap.size + 1]? = some (.cells #[.slice none 0 0, .slice none 0 0] 25) := by rw [hW]; exact heapC _ _ _
  clear hW
  have hfo := HFO.out
  have hI : BlI w.heap.size ⟨na, ncap, nodes, aa, acap, answers⟩ w.heap.size (w.heap.size + 1) W := ⟨gW.size, kf, kr, fun i x hx => by
      obtain ⟨b, o, e, hb, hc⟩ := hfo.aat.cell i x hx
      exact ⟨b, o, e, hb, hc.gr hb gW⟩, fun x hx => (hfo.aok x hx).gr gW, fun x hx => ((hfo.aok x hx).far (Nat.le_refl _)).gr gW⟩
  have hT := balance_tells w.heap.size ⟨na, ncap, nodes, aa, acap, answers⟩ w.heap.size (w.heap.size + 1) (by simp only; omega)
  obtain ⟨root, hroot⟩ : ∃ root, nodes[nodes.length - 1]? = some root := ⟨_, List.getElem?_eq_getElem (by omega)⟩
  have HC : Hid _ := fun (_ : Unit) => partsOfB_any answers.length w.heap.size _ _ _ hT na ncap nodes (by omega) hfo.ncap HG.out.down hfo.nok (fun nd hn hl => by
    obtain ⟨i, hi⟩ := List.getElem?_of_mem hn
    obtain ⟨leaf, a, b, l, m⟩ := nd
    simp only at hl
    subst hl
    exact HG.out.leaf hi) root hroot () W hI ((low_of hfo).gr gW (Nat.le_refl _))
  have HROOT : Hid _ := hroot
  have HGW : Hid _ := gW
  clear hroot hT hI hfo gW kf kr
  refine (HC.out ()).mono ?_
  rintro e w3 ⟨s3, v3, qs, pbase, rfl, hp⟩
  have hPP : Hid _ := hp
  have hwk : Wk nodes nodes.length root minI maxI (wkD nodes nodes.length root minI maxI) := wk_all HG.out.down nodes.length (nodes.length - 1) root minI maxI (by omega) HROOT.out (by unfold minI maxI; omega)
  have hq0 : 0 < qs.length := by
    obtain ⟨q, r, e, _⟩ := hwk.head
    rw [hp.says.len, e]; simp
  have hql : qs.length ≤ 9000 := by have := hwk.len2; have := hp.says.len; omega
  obtain ⟨pg, pcap, pcs, rfl, hpg1, hpg2, hpg3, hpg4, hpg5, hpg6⟩ := owns_cmp hp.row hq0
  clear hp
  unfold maxLen at hpg6
  have hRise : Rise qs := by
    have := hPP.out.says.rise hwk.rise
    cases qs with
    | nil => simp at hq0
    | cons q r => exact ⟨(List.pairwise_cons.1 this).2⟩
  have hok : ∀ x ∈ qs, PartOk answers.length x := fun x hx => by
    obtain ⟨p, hpm, i, rfl, hi⟩ := hPP.out.says.mem hx
    have hb := hwk.lo p hpm
    have hb1 : -9223372036854775808 ≤ p.1 := hb.1
    have hb2 : p.1 ≤ 9223372036854775807 := hb.2
    have hi2 : i < answers.length := hi.2
    exact ⟨WalkArith.wf_i64 ⟨hb1, hb2⟩, by simp only; omega, by simp only; omega⟩
  have hwl := hPP.out.wl
  have zW3 := hwl.size
  have hgw := HGW.out.wl hwl (Nat.le_refl _)
  have hI3 : Hid _ := hPP.out.i
  have HGW3 : Hid _ := hgw
  have HWK : Hid _ := fun (_ : Unit) => hwk
  have hpl : w.heap.size ≤ pg := Nat.le_trans hPP.out.low2 hpg1
  have HG2 : Hid _ := fun W (hg : Gr w3 W) => grow_any pg pcap answers.length pcs qs W (Nat.lt_of_lt_of_le hpg2 hg.size) ((hg.block pg hpg2).trans hpg3) hpg4 hq0 (by omega) hpg5 (by omega) (by omega) hok hRise
  have h6 : ∀ x ∈ answers, x.zs.length ≤ 6 := fun x hx => (fault_small (HG.out.ans x hx)).1
  have H6 : Hid _ := fun (_ : Unit) => h6
  clear hok hRise hwl hwk hgw h6 hpg4 hpg5 HC
  have hO : w3.cell? ⟨w.heap.size, 1, none⟩ = some (.slice aa answers.length acap) := (row_all hI3.out.fbox).1 1
  go_upto_region 2 with fail
  go_region_held3 (fun w' => w'.cell? ⟨w.heap.size, 1, none⟩ = some (.slice aa answers.length acap)) (first | with_reducible exact hO | (simpa [go_sem] using hO))
    (first
      | (go_at_call 39; refine (HG2.out _ (by repeat (with_reducible first | exact Gr.refl _ | refine Gr.drew ?_))).mono ?_; rintro e w4 ⟨nodes4, nv, nb, rfl, n2, n3, n4, n5x, n6, n7, n8⟩
         have n5 : Cg pg w3 w4 := ⟨n5x.os, n5x.out, n5x.size, n5x.block⟩
         have hP4 : Pw w.heap.size w3 w4 := ⟨n5.os, n5.out, n5.size, fun b hb hor => n5.block b hb (fun e => by
           rcases hor with g | ⟨g, _⟩
           · omega
           · exact g pcs (by rw [e]; exact hpg3))⟩
         have hI4 := hI3.out.pw hP4
         have hgr4 := HGW3.out.cg n5 hpl
         have K4 : Hid _ := hI4.box
         have kf4 := hI4.fbox
         have z4 : w.heap.size + 1 < w4.heap.size := (Array.getElem?_eq_some_iff.1 K4.out).1
         have POST : Hid _ := fun (_ : Unit) => And.intro n2 (And.intro n3 (And.intro n4 (And.intro n6 (And.intro n7 (And.intro n8 (And.intro hgr4 hI4))))))
         obtain ⟨nga, ngcap, hnv⟩ : ∃ na ncap, nv = .slice na nodes4.length ncap := row_formA n2
         subst hnv
         have HCO : Hid _ := fun W (hg : Gr w4 W) => copies_any aa acap answers W ⟨by unfold maxLen; omega, fun i x hx => by
             obtain ⟨b, o, e, hb, hc⟩ := (POST.out ()).2.2.2.2.2.2.2.aat i x hx
             have h5 := (POST.out ()).2.2.2.2.2.2.2.lw
             have h6 := hg.size
             exact ⟨b, o, e, Nat.lt_of_lt_of_le hb (Nat.le_trans h5 h6), hc.gr (by omega) hg⟩⟩ (fun y hy => ⟨((POST.out ()).2.2.2.2.2.2.2.aok y hy).gr hg, by have := (H6.out ()) y hy; omega, by
           have := (fault_small (HG.out.ans y hy)).2
           omega⟩) (by omega)
         replace hO : w4.cell? ⟨w.heap.size, 1, none⟩ = some (.slice aa answers.length acap) := (row_all kf4).1 1
         clear n2 n3 n4 n5x n5 n6 n7 n8 hgr4 hI4 hP4 kf4)
      | (go_at_call 24; refine (HCO.out _ (by repeat (with_reducible first | exact Gr.refl _ | refine Gr.drew ?_))).mono ?_; rintro e w6 ⟨ob, ys, rfl, hyl, hyv, hyf, hyok, hob, hg6x⟩
         have hg6 : Gr w4 w6 := ⟨hg6x.os, hg6x.out, hg6x.size, hg6x.block⟩
         replace hO : w6.cell? ⟨w.heap.size, 1, none⟩ = some (.slice aa answers.length acap) := (hg6.cell _ _ (by omega)).trans hO
         have k6 := (hg6.block (w.heap.size + 1) z4).trans K4.out
         have c6 := (row_all k6).1
         have f6 := (row_all k6).2
         clear hg6x))
  have hgr6 := (POST.out ()).2.2.2.2.2.2.1.trans hg6
  have HY : Hid _ := fun (_ : Unit) => And.intro hyv (And.intro hyf (And.intro hyok (And.intro hg6 hgr6)))
  have HYL : Hid _ := hyl
  clear hyv hyf hyok hg6 hgr6 hyl
  go_wp2_with fail
  obtain ⟨pr, pb, pok, pg', pl, pn, _⟩ := POST.out ()
  obtain ⟨hyv, hyf, hyok, hg6, hgr6⟩ := HY.out ()
  have hyl := HYL.out
  obtain ⟨na', ncap', hne, hncap, hnmx, hnfive⟩ := owns_fivesV (fun _ => rfl) (owns_gr pr hg6)
  cases hne
  have hGG : Grown2 ⟨na, ncap, nodes, aa, acap, answers⟩ qs answers (fun n i => n = (i : Int) ∧ i < answers.length) nodes4 := ⟨HG.out, ⟨root, HROOT.out, hPP.out.says⟩, fun n i h => by
      obtain ⟨x, hx⟩ : ∃ x, answers[i]? = some x := ⟨_, List.getElem?_eq_getElem h.2⟩
      exact ⟨x, x, by rw [h.1]; exact hx, hx, rfl⟩, fun y hy => ⟨y, hy, rfl⟩, Nat.le_refl _, pg', pl, pn⟩
  obtain ⟨fg1, fg2⟩ := hGG.same (na := nga) (ncap := ngcap) (aa := some ⟨ob, 0, none⟩) (acap := answers.length) (Or.inl (hGG.fewer (fun n i h => h.1))) hyv
  have hfst : FstOk w6 ⟨nga, ngcap, nodes4, some ⟨ob, 0, none⟩, answers.length, ys⟩ := ⟨hncap, by show ys.length ≤ answers.length; omega, hnfive, pok, hyf, hyok⟩
  refine bodyPost_ret (v := .agg (Fst.cells ⟨nga, ngcap, nodes4, some ⟨ob, 0, none⟩, answers.length, ys⟩).toArray) (by simp [results, Try.results21, go_sem, c6, Fst.cells, hyl]) rfl ⟨_, rfl, hfst.but ⟨⟨_, k6⟩⟩ (but2 _ _ _ _), fg1, fg2, ?_, fun h => (by cases h), fun h => (by cases h), fun _ => pn, fun _ bs hb K hK t => hGG.deep bs hb K hK t⟩
  repeat (with_reducible first | exact hgr6 | refine Gr.setCell ?_ (by simp) _)
end Go.Proofs.Ythlahmabcbbhjaa
