/- Proved: at every list of spans and number the law TreeInverses returns true: tree.Inverse answers as the document's answer does. No condition. -/
import Derived.Test.YthnbmeihaojfnaaLocF
import Derived.Test.YthnbmeihaojfnaaSpnE
import Derived.Test.YthnbmeihaojfnaaLocM
import Derived.Test.YthnbmeihaojfnaaInvC
import Derived.Deep.RegionHeld3
import Derived.Deep.AppendLies
import Derived.Lib.RowBridge
import Derived.Deep.Cut
import Derived.Deep.DeepCutAuto
import Derived.Deep.CutBlock
import Derived.Test.YthnbmeihaojfnaaInv
import Derived.Test.YthnbmeihaojfnaaOpnS
import Derived.Test.YthnbmeihaojfnaaTreF
import Derived.Test.YthnbmeihaojfnaaTreK
namespace Go.Proofs.Ythnbmeihaojfnaa
open Go.ChangeShapes Go.WideShapes Go.ChangeAt Go.RowKit
set_option linter.unusedVariables false
set_option maxRecDepth 100000
def wideB (l : List Spn) : Bool := l.any fun x => decide (6 < (offsR (x.frm + x.off) l).length)
set_option maxHeartbeats 6400000 in
theorem wide_any (a : Option Addr) (cap : Nat) (l : List Spn) (w : World) (hs : SpansAt w a l) (h1 : l.length ≤ 1000) (hg : ∀ x ∈ l, SpnGood x) :
    Calls Try.prog 7 #[.slice a l.length cap] w fun e w' => e = .returned (.bool (wideB l)) ∧ Gr w w' := by
  have HSP : Hid _ := hs
  have HGD : Hid _ := hg
  clear hs hg
  go_enter Try.func7, Try.ntmps7
  go_wp2_with fail
  go_loopw [3] (fun t wr => ∃ (k : Nat), k ≤ l.length ∧ t = .int .i64 k ∧ (∀ i x, i < k → l[i]? = some x → ¬ 6 < (offsR (x.frm + x.off) l).length) ∧ Gr w wr) (fun t _ => l.length - (intOf t).toNat)
  case atStart => exact ⟨0, Nat.zero_le _, rfl, fun i x hi _ => absurd hi (Nat.not_lt_zero _), Gr.refl _⟩
  case round =>
    obtain ⟨k, hk, rfl, hno, hgr⟩ := hrel
    have HNO : Hid _ := hno
    have HGR : Hid _ := hgr
    clear hno hgr
    by_cases hlt : k < l.length
    · obtain ⟨x, hx⟩ : ∃ x, l[k]? = some x := ⟨_, List.getElem?_eq_getElem hlt⟩
      obtain ⟨_, b, o, e, hb, q0, q1, q2, q3⟩ := (HSP.out.gr HGR.out).cell k x hx
      subst e
      have g := HGD.out x (List.mem_of_getElem? hx)
      have g1 := g.lo
      have g2 := g.hi
      have g3 := g.olo
      have g4 := g.ohi
      have HX : Hid _ := hx
      obtain ⟨frm, off, sv, nm⟩ := x
      simp only at q0 q1 q2 q3 g1 g2 g3 g4
      have w2a : IntKind.i64.wrap (frm + off) = frm + off := IntWalk.i64_in _ ⟨by omega, by omega⟩
      have j1 : (k : Int) < (l.length : Int) := by omega
      clear hx g
      have hO : wr.cell? ⟨b, o + k * 4, none⟩ = some (.int .i64 frm) ∧ wr.cell? ⟨b, o + k * 4 + 1, none⟩ = some (.int .i64 off) := ⟨q0, q1⟩
      have hbr : b < wr.heap.size := hb
      clear q0 q1 q2 q3
      by_cases h6 : 6 < (offsR (frm + off) l).length
      · have d6 : decide ((6 : Int) < ((offsR (frm + off) l).length : Int)) = true := by rw [decide_eq_true_iff]; omega
        go_upto_region 4 with fail
        go_region_held3 (fun w' => w'.cell? ⟨b, o + k * 4, none⟩ = some (.int .i64 frm) ∧ w'.cell? ⟨b, o + k * 4 + 1, none⟩ = some (.int .i64 off)) (first | with_reducible exact hO | (simpa [go_sem] using hO))
          (first
            | (go_at_call 12; refine (localOf_any _ _ l (frm + off) _ (HSP.out.gr (by repeat (with_reducible first | exact HGR.out | refine Gr.drew ?_))) h1 HGD.out (by omega) (by omega)).mono ?_; rintro e w2 ⟨va, vcap, rfl, hvc, hza, hg2x⟩
               have hg2 : Gr wr w2 := ⟨hg2x.os, hg2x.out, hg2x.size, hg2x.block⟩
               replace hO := And.intro ((hg2.cell _ _ hbr).trans hO.1) ((hg2.cell _ _ hbr).trans hO.2)
               have HG2 : Hid _ := HGR.out.trans hg2
               clear hza hg2x hg2))
        go_wp2_with fail
        go_ret
        exact ⟨by rw [show wideB l = true from List.any_eq_true.2 ⟨_, List.mem_of_getElem? HX.out, by simpa using h6⟩]; rfl, HG2.out⟩
      · have d6 : decide ((6 : Int) < ((offsR (frm + off) l).length : Int)) = false := by rw [decide_eq_false_iff_not]; omega
        go_upto_region 4 with fail
        go_region_held3 (fun w' => w'.cell? ⟨b, o + k * 4, none⟩ = some (.int .i64 frm) ∧ w'.cell? ⟨b, o + k * 4 + 1, none⟩ = some (.int .i64 off)) (first | with_reducible exact hO | (simpa [go_sem] using hO))
          (first
            | (go_at_call 12; refine (localOf_any _ _ l (frm + off) _ (HSP.out.gr (by repeat (with_reducible first | exact HGR.out | refine Gr.drew ?_))) h1 HGD.out (by omega) (by omega)).mono ?_; rintro e w2 ⟨va, vcap, rfl, hvc, hza, hg2x⟩
               have hg2 : Gr wr w2 := ⟨hg2x.os, hg2x.out, hg2x.size, hg2x.block⟩
               replace hO := And.intro ((hg2.cell _ _ hbr).trans hO.1) ((hg2.cell _ _ hbr).trans hO.2)
               have HG2 : Hid _ := HGR.out.trans hg2
               clear hza hg2x hg2))
        go_wp2_with fail
        go_roundw
        case rel =>
          refine ⟨k + 1, by omega, by go_num, fun i x hi hx => ?_, HG2.out⟩
          rcases Nat.lt_succ_iff_lt_or_eq.1 hi with h | rfl
          · exact HNO.out i x h hx
          · rw [HX.out] at hx; cases hx; exact h6
        case measure => simp [intOf]; omega
    · go_wp2_with fail
      go_ret
      refine ⟨?_, HGR.out⟩
      rw [show wideB l = false from ?_]
      · rfl
      · refine List.any_eq_false.2 fun x hx => ?_
        obtain ⟨i, hi, e⟩ := List.getElem_of_mem hx
        have := HNO.out i x (by omega) (by rw [List.getElem?_eq_getElem hi, e])
        simpa using this
end Go.Proofs.Ythnbmeihaojfnaa
namespace Go.Proofs.Ythnbmeihaojfnaa
open Go.ChangeShapes Go.WideShapes Go.ChangeAt Go.RowKit
set_option linter.unusedVariables false
set_option maxRecDepth 100000
theorem wf_sum {a b : Int} (h1 : -2208988800 ≤ a) (h2 : a ≤ 4102444800) (h3 : -172800 ≤ b) (h4 : b ≤ 172800) : (Lit.int .i64 (a + b)).wf = true := WalkArith.wf_i64 ⟨by omega, by omega⟩
set_option maxHeartbeats 6400000 in
theorem edgesT_any (a : Option Addr) (cap : Nat) (l : List Spn) (w : World) (hl : SpansAt w a l) (hn : l.length ≤ 1000) (hg : ∀ x ∈ l, SpnGood x) :
    Calls Try.prog 10 #[.slice a l.length cap, .bool true] w fun e w' => ∃ a cap zs, e = .returned (.slice a zs.length cap) ∧ IntsAt w' a zs ∧ (∀ z ∈ zs, (Lit.int .i64 z).wf = true) ∧ Gr w w' := by
  obtain ⟨i0, hi, hi1, hi2, hi3⟩ := Try.infoInt
  have HSP : Hid _ := hl
  have HGD : Hid _ := hg
  clear hl hg
  go_enter Try.func10, Try.ntmps10
  go_wp2_with fail
  go_loopw [5, 6] (fun v s wr => ∃ (k : Nat) (zs : List Int), k ≤ l.length ∧ s = .int .i64 k ∧ zs.length ≤ 2 * k ∧ (∀ z ∈ zs, (Lit.int .i64 z).wf = true) ∧ Gr w wr ∧ wr.ownsRow w.heap.size 3 1 v zs.length (ints zs)) (fun v s _ => l.length - (intOf s).toNat)
  case atStart => exact ⟨0, [], Nat.zero_le _, rfl, Nat.le_refl _, fun z hz => by simp at hz, Gr.refl _, owns_nil _ _ _ _⟩
  case round =>
    obtain ⟨k, zs, hk, rfl, hzk, hwz, hgr, hown⟩ := hrel
    by_cases hlt : k < l.length
    · obtain ⟨x, hx⟩ : ∃ x, l[k]? = some x := ⟨_, List.getElem?_eq_getElem hlt⟩
      obtain ⟨_, b, o, e, hb, q0, q1, q2, q3⟩ := (HSP.out.gr hgr).cell k x hx
      subst e
      have g := HGD.out x (List.mem_of_getElem? hx)
      have g1 := g.lo
      have g2 := g.hi
      have g3 := g.olo
      have g4 := g.ohi
      obtain ⟨frm, off, sv, nm⟩ := x
      simp only at q0 q1 q2 q3 g1 g2 g3 g4
      have w2a : IntKind.i64.wrap (frm + off) = frm + off := IntWalk.i64_in _ ⟨by omega, by omega⟩
      have j1 : (k : Int) < (l.length : Int) := by omega
      obtain ⟨va, vcap, rfl, hvc, hza⟩ := owns_ints hown
      obtain ⟨ne, hne⟩ : ∃ ne, ne = zs.length := ⟨_, rfl⟩
      rw [← hne] at hown hzk hvc ⊢
      have HOWN : Hid _ := hown
      have HWZ : Hid _ := hwz
      have HGR : Hid _ := hgr
      have HNE : Hid _ := hne
      have HX : Hid _ := hx
      clear hx g hza hown hwz hgr hne q2 q3
      have w2p : (Lit.int .i64 (frm + off)).wf = true := wf_sum g1 (by omega) g3 g4
      obtain ⟨d, hd⟩ : ∃ d, frm + off = d := ⟨_, rfl⟩
      simp only [hd] at w2a w2p
      have HW1 : Hid _ := w2p
      have hd2 : frm + off = d := hd
      clear w2p
      go_upto_region 6 with fail
      go_cut [5] (fun v wx => wx.ownsRow w.heap.size 3 1 v (ne + 1) (ints (zs ++ [d])) ∧ Gr w wx)
      case first =>
        go_region_law (first
          | (refine step_append_lies _ (by rfl) _ _ _ (by rfl) w.heap.size 3 i0 _ 1 8 Try.underlying34 hi hi1 hi2 hi3 rfl (by decide) (.slice va ne vcap) ne (ints zs) (by rfl) (owns_gr HOWN.out (by repeat (with_reducible first | exact Gr.refl _ | refine Gr.drew ?_ | refine Gr.drewN ?_ _ | refine Gr.alloc ?_ _))) ⟨wr.heap.size, 0, none⟩ 1 1 [.int .i64 d] (by rfl) (by rfl) (World.news_of_block (cs := #[.int .i64 d]) (t := 3) (fr := (0, 0)) (heapA wr _)) (by simp [Value.oneCell']) (by omega) (by unfold maxLen; omega) (by omega) (by have := HGR.out.size; simp; omega) (wr.heap.size + 1) (by simp) ?_; intro g6 cap6 w6 hown6 hgrow6 hat6 hlt6
             have HE : Hid _ := And.intro hown6 (show Gr w w6 from (Gr.by_ (by repeat (with_reducible first | exact HGR.out | refine Gr.drew ?_ | refine Gr.drewN ?_ _ | refine Gr.alloc ?_ _)) hgrow6 (fun x hx => (owns_lt HOWN.out hx).1)))
             clear hown6 hgrow6 hat6 hlt6))
        all_goals
          go_wp2
          go_meet
          case rel => exact ⟨by rw [ints_appC]; exact HE.out.1, HE.out.2⟩
      case rest =>
        obtain ⟨hown2, hgx⟩ := hcut
        have hl2 : ne + 1 = (zs ++ [d]).length := by rw [HNE.out]; simp
        rw [hl2] at hown2
        obtain ⟨va2, vcap2, rfl, hvc2, _⟩ := owns_ints hown2
        obtain ⟨n2, hn2⟩ : ∃ n2, n2 = (zs ++ [d]).length := ⟨_, rfl⟩
        rw [← hn2] at hown2 hl2 hvc2 ⊢
        have hn3 : n2 ≤ 2 * k + 1 := by omega
        have HO2 : Hid _ := hown2
        have HG2 : Hid _ := hgx
        have HN2 : Hid _ := hn2
        have HW2 : Hid _ := (show ∀ z ∈ zs ++ [d], (Lit.int .i64 z).wf = true from fun z hz => by
          rcases List.mem_append.1 hz with h | h
          · exact HWZ.out z h
          · rw [List.mem_singleton.1 h]; exact HW1.out)
        clear hown2 hgx hn2 q0 q1 hl2 hd hd2
        by_cases hkp : 0 < k
        · obtain ⟨_, b1, o1, e1, hb1, r0, r1, r2, r3⟩ := (HSP.out.gr HG2.out).cell k _ HX.out
          cases e1
          obtain ⟨q, hq⟩ : ∃ q, q = k - 1 := ⟨_, rfl⟩
          have hix : IntKind.i64.wrap ((k : Int) - 1) = (q : Int) := by rw [IntWalk.i64_in _ ⟨by omega, by omega⟩]; omega
          have hqn : (q : Int) < (l.length : Int) := by omega
          obtain ⟨y, hy⟩ : ∃ y, l[q]? = some y := ⟨_, List.getElem?_eq_getElem (by omega)⟩
          obtain ⟨_, b2, o2, e2, hb2, s0, s1, s2, s3⟩ := (HSP.out.gr HG2.out).cell q y hy
          cases e2
          have g := HGD.out y (List.mem_of_getElem? hy)
          have g5 := g.olo
          have g6 := g.ohi
          obtain ⟨yf, yo, ys, yn⟩ := y
          simp only at r0 r1 r2 r3 s0 s1 s2 s3 g5 g6
          obtain ⟨d2, hd2⟩ : ∃ d2, frm + yo = d2 := ⟨_, rfl⟩
          have w3a : IntKind.i64.wrap (frm + yo) = d2 := by rw [← hd2]; exact IntWalk.i64_in _ ⟨by omega, by omega⟩
          have w3b : IntKind.i64.wrap d2 = d2 := by rw [← hd2]; exact IntWalk.i64_in _ ⟨by omega, by omega⟩
          have HW3 : Hid _ := (show (Lit.int .i64 d2).wf = true by rw [← hd2]; exact wf_sum g1 (by omega) g5 g6)
          clear hq hy g r1 r2 r3 s0 s2 s3
          go_upto_region 8 with fail
          go_region_law (first
            | (refine step_append_lies _ (by rfl) _ _ _ (by rfl) w.heap.size 3 i0 _ 1 8 Try.underlying34 hi hi1 hi2 hi3 rfl (by decide) (.slice va2 n2 vcap2) n2 (ints (zs ++ [d])) (by rfl) (owns_gr HO2.out (by repeat (with_reducible first | exact Gr.refl _ | refine Gr.drew ?_ | refine Gr.drewN ?_ _ | refine Gr.alloc ?_ _))) ⟨wc.heap.size, 0, none⟩ 1 1 [.int .i64 d2] (by rfl) (by rfl) (World.news_of_block (cs := #[.int .i64 d2]) (t := 3) (fr := (0, 0)) (heapA wc _)) (by simp [Value.oneCell']) (by omega) (by unfold maxLen; omega) (by omega) (by have := HG2.out.size; simp; omega) (wc.heap.size + 1) (by simp) ?_; intro g6 cap6 w6 hown6 hgrow6 hat6 hlt6
               have HE : Hid _ := And.intro hown6 (show Gr w w6 from (Gr.by_ (by repeat (with_reducible first | exact HG2.out | refine Gr.drew ?_ | refine Gr.drewN ?_ _ | refine Gr.alloc ?_ _)) hgrow6 (fun x hx => (owns_lt HO2.out hx).1)))
               clear hown6 hgrow6 hat6 hlt6))
          all_goals
            go_wp2
            go_roundw
            case rel =>
              refine ⟨k + 1, zs ++ [d] ++ [d2], by omega, by go_num, by rw [List.length_append, ← HN2.out]; simp; omega, fun z hz => ?_, HE.out.2, ?_⟩
              · rcases List.mem_append.1 hz with h | h
                · exact HW2.out z h
                · rw [List.mem_singleton.1 h]; exact HW3.out
              · rw [List.length_append, ← HN2.out, ints_appC (zs ++ [d])]; exact HE.out.1
            case measure => simp [intOf]; omega
        · have hk0 : k = 0 := by omega
          subst hk0
          go_wp2_with fail
          go_roundw
          case rel => exact ⟨1, zs ++ [d], by omega, by go_num, by rw [← HN2.out]; omega, HW2.out, HG2.out, by rw [← HN2.out]; exact HO2.out⟩
          case measure => simp [intOf]; omega
    · obtain ⟨a', cap', rfl, e2, e3⟩ := owns_ints hown
      have E3 : Hid _ := e3
      have HWZ : Hid _ := hwz
      clear hown e3 hwz
      go_wp2
      go_ret
      exact ⟨a', cap', _, rfl, E3.out, HWZ.out, hgr⟩
end Go.Proofs.Ythnbmeihaojfnaa
namespace Go.Proofs.Ythnbmeihaojfnaa
open Go.ChangeShapes Go.WideShapes Go.ChangeAt Go.RowKit
set_option linter.unusedVariables false
set_option maxRecDepth 100000
theorem Try.infoSpan : ∃ i, Try.prog.info? 50 = some i ∧ i.zero = some (.agg #[.int .i64 0, .int .i64 0, .bool false, .string ⟨#[]⟩]) ∧ i.size = 4 ∧ i.bytes = 40 :=
  ⟨_, rfl, by kernel_rfl, by kernel_rfl, by kernel_rfl⟩
theorem local_ok {l : List Spn} (hg : ∀ x ∈ l, SpnGood x) (t : Int) {W : World} {a : Option Addr} {cap : Nat} (hc : (offsR t l).length ≤ cap) (hz : IntsAt W a (offsR t l)) : AnsOk W ⟨0, false, ⟨#[]⟩, a, cap, offsR t l, localJ l t⟩ := by
  refine ⟨by show (Lit.int .i64 0).wf = true; decide, ?_, Nat.zero_le _, hc, hz, fun z hz => ?_⟩
  · have := jump_bd (n := t) hg
    show (Lit.int .i64 (localJ l t)).wf = true
    unfold localJ
    split
    · exact WalkArith.wf_i64 ⟨by omega, by omega⟩
    · decide
  · obtain ⟨x, hx, rfl⟩ := offs_mem hz
    have g1 := (hg x hx).olo
    have g2 := (hg x hx).ohi
    exact WalkArith.wf_i64 ⟨by omega, by omega⟩
/-- Where Inverse says that there is too much, there is. -/
theorem inv_size {l : List Spn} (hg : ∀ x ∈ l, SpnGood x) (h : (∃ n ∈ edges l, 6 < (offsR n l).length) ∨ 2000 < (edges l).length) : 400 < l.length ∨ wideB l = true := by
  rcases h with ⟨n, _, h⟩ | h
  · obtain ⟨x, hx, h6⟩ := wide_of h
    exact Or.inr (List.any_eq_true.2 ⟨x, hx, by simpa using h6⟩)
  · have := (edges_law hg).2
    exact Or.inl (by omega)
set_option maxHeartbeats 6400000 in
theorem treeInverses_walk (x : Spns) (n : Int) (w : World) (hx : SpansAt w x.p x.l) (wn : (Lit.int .i64 n).wf = true) (hr : x.l.length * 40 ≤ 140737488351232) :
    Calls Try.prog 3 #[.slice x.p x.l.length x.cap, .int .i64 n] w fun e w' => e = .returned (.bool true) ∧ Gr w w' := by
  obtain ⟨a, cap, l⟩ := x
  simp only at hx hr ⊢
  obtain ⟨i0, hi, hi1, hi2, hi3⟩ := Try.infoSpan
  have hok := spans_ok hx
  by_cases h0 : spnsF l = 0
  · have HF : Hid _ := fun a cap W (h : SpansAt W a l) (hc : l.length ≤ cap) (hc2 : cap ≤ 9223372036854775807) => inverse_any a cap l W h hc hc2 h0
    have HS : Hid _ := fun W (h : SpansAt W a l) => SpansFault_any a cap l W h
    obtain ⟨s0, s1, s2, s3⟩ := spans_good h0
    have HA : Hid _ := fun t W (h : SpansAt W a l) (h1 : -2199023255552 ≤ t) (h2 : t ≤ 2199023255552) => localOf_any a cap l t W h s1 s2 h1 h2
    have HE : Hid _ := fun W (h : SpansAt W a l) => edgesT_any a cap l W h s1 s2
    have HWI : Hid _ := fun W (h : SpansAt W a l) => wide_any a cap l W h s1 s2
    have HIS : Hid _ := fun h => inv_size s2 h
    have HLO : Hid _ := fun t (W : World) (va : Option Addr) (vc : Nat) (h1 : (offsR t l).length ≤ vc) (h2 : IntsAt W va (offsR t l)) => local_ok s2 t h1 h2
    simp only [h0] at HS
    have H0 : Hid _ := h0
    clear h0
    rcases l with _ | ⟨y, r⟩
    · simp at s0
    obtain ⟨_, b, o, rfl, hb, _⟩ := hx.cell 0 y rfl
    simp only [List.length_cons] at HF HS HA HE HWI HIS s1
    simp only [List.length_cons]
    go_enter Try.func3, Try.ntmps3
    go_wp2_with (at_builtin; (refine wpList_append_lies _ rfl _ _ _ rfl w.heap.size 50 i0 _ 4 40 Try.underlying22 hi hi1 hi2 hi3 rfl (by decide) (.slice none 0 0) 0 [] (by rfl) (owns_nil _ _ _ _) ⟨b, o, none⟩ (r.length + 1) cap (spnL (y :: r)) (by rfl) (spnL_len _) (spnL_news hx) (spnL_cell _) (by omega) (by unfold maxLen; simp at hr; omega) (by simp at hr; omega) (Nat.le_refl _) _ rfl ?_))
    intro g cap' w1 hown hgrow hat hlt
    have hg1 : Gr w w1 := (Gr.refl _).by_ hgrow (by simp [Value.ownBlock])
    have hown' : w1.ownsRow w.heap.size 50 4 (.slice (some ⟨g, 0, none⟩) (r.length + 1) cap') (y :: r).length (spnL (y :: r)) := by simpa using hown
    obtain ⟨hc1, hc2⟩ : r.length + 1 ≤ cap' ∧ cap' ≤ 9223372036854775807 := by
      rcases hown'.2 with ⟨_, e'⟩ | ⟨gg, cc, cur, he, hbb, hrow, k1, k2, _⟩
      · simp at e'
      · cases he
        unfold maxLen at k2
        exact ⟨by simpa using k1, by omega⟩
    obtain ⟨a2, cap2, he2, hs2⟩ := owns_spans hok hown'
    cases he2
    clear hown hown' hgrow hat hlt
    go_wp2_with fail
    refine (HF.out _ cap' _ hs2 hc1 hc2).mono ?_
    rintro e w2 hpost
    have hg2 := hpost.gr
    have hgr := hg1.trans hg2
    rcases hpost.tells with ⟨f, rfl, hf, hgood, htell⟩ | ⟨rfl, hbig⟩
    · obtain ⟨na, ncap, nodes, aa, acap, answers⟩ := f
      have hgn := good_of hgood
      have hn1 := hgn.ne
      have hn2 := hgn.n8
      have hn3 := hgn.a2
      simp only at hn1 hn2 hn3
      obtain ⟨F, hF⟩ : ∃ F : Fst, F = ⟨na, ncap, nodes, aa, acap, answers⟩ := ⟨_, rfl⟩
      have hFF := fun W (h : FstOk W F) => forestFault_any F W h
      have hEV := fun t W (h : FstOk W F) => evalOf_any F t W h
      rw [← hF] at hf hgood htell
      simp only [hgood] at hFF hEV
      have ec : F.cells = [.slice na nodes.length ncap, .slice aa answers.length acap] := by rw [hF]; rfl
      rw [ec] at hFF hEV
      have HFF : Hid _ := hFF
      have HEV : Hid _ := hEV
      have HT : Hid _ := htell
      have HG : Hid _ := hgood
      clear hgn hFF hEV htell hgood hF ec HF hs2 hg1 hg2 hpost
      simp only [Fst.cells]
      go_wp2_with fail
      refine (HS.out _ (hx.gr (by repeat (with_reducible first | exact hgr | refine Gr.alloc ?_ _ | refine Gr.setCell ?_ (by simp) _)))).mono ?_
      rintro e w3 ⟨rfl, hg3⟩
      have k3 := (hg3.block w2.heap.size (by simp)).trans (heapA w2 _)
      obtain ⟨c3, f3⟩ := row_all k3
      have K3 : Hid _ := k3
      have hgr3 := (hgr.alloc (.cells #[.slice na nodes.length ncap, .slice aa answers.length acap] 26)).trans hg3
      have hf3 := (hf.gr ((Gr.refl _).alloc (.cells #[.slice na nodes.length ncap, .slice aa answers.length acap] 26))).gr hg3
      have z3 : w2.heap.size < w3.heap.size := by have := hg3.size; simp at this; omega
      clear k3 hf hg3
      go_wp2_with fail
      refine (HFF.out _ hf3).mono ?_
      rintro e w4 ⟨rfl, hg4⟩
      have hgr4 := hgr3.trans (Gr.ofGrown hg4)
      have hf4 := hf3.grown hg4
      have k4 := ((Gr.ofGrown hg4).block w2.heap.size z3).trans K3.out
      have K4 : Hid _ := k4
      have z4 : w2.heap.size < w4.heap.size := Nat.lt_of_lt_of_le z3 (Gr.ofGrown hg4).size
      obtain ⟨c4, f4⟩ := row_all k4
      clear k4 c3 f3 hf3 hg4
      go_wp2_with fail
      refine (HE.out _ (hx.gr hgr4)).mono ?_
      rintro e w5 ⟨ea, ecap, zs, rfl, hz, wz, hg5⟩
      have hgr5 := hgr4.trans hg5
      have hf5 := hf4.gr hg5
      have k5 := (hg5.block w2.heap.size z4).trans K4.out
      have K5 : Hid _ := k5
      have z5 : w2.heap.size < w5.heap.size := Nat.lt_of_lt_of_le z4 hg5.size
      obtain ⟨c5, f5⟩ := row_all k5
      have Hz : Hid _ := And.intro hz wz
      clear k5 c4 f4 hf4 hg5 hz wz
      go_wp2_with fail
      refine (asked_any _ _ _ _ _ Hz.out.1 Hz.out.2 wn).mono ?_
      rintro e w6 ⟨t, rfl, _, hw6⟩
      subst w6
      by_cases ht1 : 1099511627776 < t
      · have d1 : decide ((1099511627776 : Int) < t) = true := by simpa using ht1
        clear ht1
        go_wp2_with fail
        go_ret
        exact ⟨rfl, hgr5⟩
      have d1 : decide ((1099511627776 : Int) < t) = false := by simpa using ht1
      by_cases ht2 : t < -1099511627776
      · have d2 : decide (t < (-1099511627776 : Int)) = true := by simpa using ht2
        clear ht1 ht2
        go_wp2_with fail
        go_ret
        exact ⟨rfl, hgr5⟩
      have d2 : decide (t < (-1099511627776 : Int)) = false := by simpa using ht2
      have HT1 : Hid _ := (show -2199023255552 ≤ t by omega)
      have HT2 : Hid _ := (show t ≤ 2199023255552 by omega)
      clear ht1 ht2
      go_wp2_with fail
      refine (HEV.out t _ hf5).mono ?_
      rintro e w6 ⟨y6, rfl, hy6, hv6, hg6⟩
      obtain ⟨yt, hyt, hvt⟩ := HT.out t
      rw [evalA_yes HG.out hyt, hvt] at hv6
      have hgr6 := hgr5.trans hg6
      have Hv6 : Hid _ := hv6
      obtain ⟨off, sv, nm, a', cp', zs', jump⟩ := y6
      clear hv6 hyt hvt hg6 c5 f5
      simp only [Ans.cells]
      go_wp2_with fail
      refine (HA.out t _ (hx.gr (by repeat (with_reducible first | exact hgr6 | refine Gr.alloc ?_ _ | refine Gr.setCell ?_ (by simp) _))) HT1.out HT2.out).mono ?_
      rintro e w7 ⟨va, vcap, rfl, hvc, hza, hg7⟩
      have k7 := (hg7.block w6.heap.size (by simp)).trans (heapA w6 _)
      have gW : Gr w6 w7 := ((Gr.refl _).alloc _).trans hg7
      have zW : w6.heap.size < w7.heap.size := Nat.lt_of_lt_of_le (by simp) hg7.size
      have hyW := hy6.gr gW
      have hgW := hgr6.trans gW
      have hLW := HLO.out t w7 va vcap hvc hza
      have cW := (row_all k7).1
      have hO : w7.cell? ⟨w6.heap.size, 0, none⟩ = some (.int .i64 off) ∧ w7.cell? ⟨w6.heap.size, 1, none⟩ = some (.bool sv) ∧ w7.cell? ⟨w6.heap.size, 2, none⟩ = some (.string nm) ∧ w7.cell? ⟨w6.heap.size, 3, none⟩ = some (.slice a' zs'.length cp') ∧ w7.cell? ⟨w6.heap.size, 4, none⟩ = some (.int .i64 jump) := ⟨cW 0, cW 1, cW 2, cW 3, cW 4⟩
      have HVC : Hid _ := hvc
      clear cW k7 hg7 hza gW hvc hgr hgr3 hgr4 hgr5 hgr6 hy6 hf5
      go_wp2_with fail
      refine (sameAnswer_any ⟨off, sv, nm, a', cp', zs', jump⟩ ⟨0, false, ⟨#[]⟩, va, vcap, offsR t (y :: r), localJ (y :: r) t⟩ _ (hyW.gr (by repeat (with_reducible first | exact Gr.refl _ | refine Gr.drew ?_ | refine Gr.alloc ?_ _ | refine Gr.setCell ?_ (by simp) _))) (hLW.gr (by repeat (with_reducible first | exact Gr.refl _ | refine Gr.drew ?_ | refine Gr.alloc ?_ _ | refine Gr.setCell ?_ (by simp) _)))).mono ?_
      rintro e w8 ⟨rfl, hg8⟩
      go_wp2_with fail
      go_ret
      refine ⟨ret_bool (same_of_val Hv6.out), ?_⟩
      refine Gr.trans ?_ hg8
      repeat (with_reducible first | exact hgW | refine Gr.drew ?_ | refine Gr.alloc ?_ _ | refine Gr.setCell ?_ (by simp) _)
    · go_wp2_with fail
      refine (HS.out _ (hx.gr (by repeat (with_reducible first | exact hgr | refine Gr.alloc ?_ _ | refine Gr.setCell ?_ (by simp) _)))).mono ?_
      rintro e w3 ⟨rfl, hg3⟩
      have hgr3 := (hgr.alloc (.cells #[.slice none 0 0, .slice none 0 0] 26)).trans hg3
      have hb2 := HIS.out hbig
      by_cases h4 : 400 < (y :: r).length
      · have h5 : 400 < r.length + 1 := h4
        have d4 : decide ((400 : Int) < ((r.length + 1 : Nat) : Int)) = true := by simp; omega
        go_wp2_with fail
        go_ret
        exact ⟨rfl, hgr3⟩
      · have h5 : ¬ 400 < r.length + 1 := h4
        have d4 : decide ((400 : Int) < ((r.length + 1 : Nat) : Int)) = false := by simp; omega
        have hb3 := hb2.resolve_left h4
        have HB3 : Hid _ := hb3
        clear hb2 hb3 h4
        go_wp2_with fail
        refine (HWI.out _ (hx.gr hgr3)).mono ?_
        rintro e w4 ⟨rfl, hg4⟩
        rw [HB3.out]
        go_wp2_with fail
        go_ret
        exact ⟨rfl, hgr3.trans hg4⟩
  · have HB : Hid _ := fun a cap W (h : SpansAt W a l) => inverse_bad a cap l W h h0
    have HS : Hid _ := fun W (h : SpansAt W a l) => SpansFault_any a cap l W h
    obtain ⟨E, hE⟩ : ∃ E, spnsF l = E := ⟨_, rfl⟩
    rw [hE] at h0
    simp only [hE] at HB HS
    clear hE
    have g0 : (E != 0) = true := by simpa using h0
    rcases l with _ | ⟨y, r⟩
    · rcases a with _ | a
      all_goals
        go_enter Try.func3, Try.ntmps3
        go_wp2_with fail
        refine (HB.out none 0 _ ⟨by simp, fun i x h => by simp at h⟩).mono ?_
        rintro e w1 ⟨rfl, hg1⟩
        go_wp2_with fail
        refine (HS.out _ ⟨by simp, fun i x h => by simp at h⟩).mono ?_
        rintro e w2 ⟨rfl, hg2⟩
        have k2 := (hg2.block w1.heap.size (by simp)).trans (heapA w1 _)
        obtain ⟨c2, f2⟩ := row_all k2
        clear k2
        go_wp2_with fail
        go_ret
        exact ⟨rfl, (hg1.alloc _).trans hg2⟩
    · obtain ⟨_, b, o, rfl, hb, _⟩ := hx.cell 0 y rfl
      simp only [List.length_cons] at HB HS
      simp only [List.length_cons]
      go_enter Try.func3, Try.ntmps3
      go_wp2_with (at_builtin; (refine wpList_append_lies _ rfl _ _ _ rfl w.heap.size 50 i0 _ 4 40 Try.underlying22 hi hi1 hi2 hi3 rfl (by decide) (.slice none 0 0) 0 [] (by rfl) (owns_nil _ _ _ _) ⟨b, o, none⟩ (r.length + 1) cap (spnL (y :: r)) (by rfl) (spnL_len _) (spnL_news hx) (spnL_cell _) (by omega) (by unfold maxLen; simp at hr; omega) (by simp at hr; omega) (Nat.le_refl _) _ rfl ?_))
      intro g cap' w1 hown hgrow hat hlt
      have hg1 : Gr w w1 := (Gr.refl _).by_ hgrow (by simp [Value.ownBlock])
      have hown' : w1.ownsRow w.heap.size 50 4 (.slice (some ⟨g, 0, none⟩) (r.length + 1) cap') (y :: r).length (spnL (y :: r)) := by simpa using hown
      obtain ⟨a2, cap2, he2, hs2⟩ := owns_spans hok hown'
      cases he2
      clear hown hown' hgrow hat hlt
      go_wp2_with fail
      refine (HB.out _ cap' _ hs2).mono ?_
      rintro e w2 ⟨rfl, hg2⟩
      go_wp2_with fail
      refine (HS.out _ (hx.gr (by exact (hg1.trans hg2).alloc _))).mono ?_
      rintro e w3 ⟨rfl, hg3⟩
      have k2 := (hg3.block w2.heap.size (by simp)).trans (heapA w2 _)
      obtain ⟨c2, f2⟩ := row_all k2
      clear k2
      go_wp2_with fail
      go_ret
      exact ⟨rfl, ((hg1.trans hg2).alloc _).trans hg3⟩

theorem treeInverses_own : ownKnob Try.prog.godebug = none := by kernel_rfl
theorem treeInverses_laidOut : laidOutB Try.prog = true := by kernel_rfl
theorem treeInverses_rec : ∀ t ∈ Try.f3.params.toList, Try.prog.readableRec t = true ∧ t < Try.prog.types.size := by
  rw [Try.params3]
  intro t ht
  simp only [List.mem_cons, List.not_mem_nil, or_false] at ht
  rcases ht with rfl | rfl
  all_goals exact ⟨by kernel_rfl, of_decide_eq_true (by kernel_rfl)⟩
set_option maxRecDepth 100000 in
theorem treeInverses_lifted (os : Os) (started : os.Started) (H : Type) (enc : TypeId × Value → H) :
    ReturnsInHanded {} Try.checked os 3 .any (Rows.treeInversesSpec.pre6 enc Try.prog Try.f3 Rows.treeInversesRow.domain false) (Rows.treeInversesSpec.post enc Try.prog Try.f3 false true false false) := by
  refine returnsInHanded_of_change_sized (C := Try.checked) treeInverses_own started (by kernel_rfl) Try.func3
    (ChangeSpec.witness6 (enc := enc) (C := Try.checked) false ⟨#[], #[.slice none 0 0, .int .i64 0], []⟩ 8 (by kernel_rfl) (by kernel_rfl) (by kernel_rfl) (by kernel_rfl)) ?_
  intro W base args ds gs before hval0 hW hcnd hsz0 _
  have hval : ∀ (j : Nat) t v, Try.f3.params[j]? = some t → args[j]? = some v → Value.okWide Try.prog W .any base t v := hval0
  have hW' := hW
  obtain ⟨p, q, hA0, hV, rfl, hfz, hnd⟩ := hW
  have hA : DataW.TrodAll enc Try.prog W 0 (fun _ => true) true Try.f3.params.toList args.toList ds p := hA0
  have hAk := hA
  have hsz : (DataW.weightsEach Try.prog (Try.f3.params.toList ++ Rows.treeInversesSpec.plain.varTypes Try.prog) (ds ++ gs)).all (· ≤ reachBytes) = true := hsz0
  rw [Try.params3] at hA hval hsz
  obtain ⟨v0, vs0, d0, ds0, p0, q0, hargs, rfl, rfl, h0, r0⟩ := trodAll_cons hA
  obtain ⟨v1, vs1, d1, ds1, p1, q1, rfl, rfl, rfl, h1, r1⟩ := trodAll_cons r0
  obtain ⟨rfl, rfl, rfl⟩ := trodAll_nil r1
  obtain rfl : args = #[v0, v1] := by cases args; simp_all
  obtain ⟨rfl, rfl⟩ := trodVars_none hV
  obtain ⟨x0, rfl, f0⟩ := open_spans (hval 0 22 v0 rfl rfl) h0
  obtain ⟨x1, rfl, _, _, f1⟩ := open_int Try.underlying3 (hval 1 3 v1 rfl rfl) h1
  have z0 := spans_reach h0 (fun k hk => by simpa using List.all_eq_true.1 hsz k (DataW.weights_mem_each (j := 0) (t := 22) rfl rfl k hk))
  clear hA0 hval0 hsz0
  refine (treeInverses_walk x0 x1 W f0 f1 z0).mono fun e W' ⟨he, hg⟩ => ?_
  subst he
  refine ⟨_, rfl, _, _, _, [], _, [], hW', ?_, gr_trodAll treeInverses_laidOut hg treeInverses_rec hAk (fun x hx => hW'.lt x (List.mem_append_left _ hx)) (fun x hx => by simpa using hW'.lt x (List.mem_append_left _ hx)), ?_, hg.frame _, fun h => by cases h⟩
  · exact trodAll_cons_mk (shut_bool Try.underlying4 _) trodAll_mk0
  · rfl

theorem treeInverses_holds : Rows.TreeInversesSaid :=
  OpenClaim.holds_of_wide 3 Try.f3 rfl rfl rfl rfl rfl rfl rfl ⟨rfl, rfl, rfl, rfl, rfl⟩ rfl rfl rfl rfl rfl (by kernel_rfl) Try.func3 (by kernel_rfl)
    (of_decide_eq_true (by kernel_rfl)) (by unfold Func.isWrapper; first | (rw [if_pos (by decide +kernel)]; kernel_rfl) | (rw [if_neg (by decide +kernel)]; exact ⟨rfl, rfl⟩))
    (fun os started H enc _ => treeInverses_lifted os started H enc)
#print axioms treeInverses_holds
end Go.Proofs.Ythnbmeihaojfnaa
