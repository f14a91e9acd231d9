/- Contract: numbers to ask an inverse tree for (sundiallaw.edges, shown). -/
import Derived.Test.YthnbmeihaojfnaaSpnE
import Derived.Test.YthnbmeihaojfnaaLocM
import Derived.Test.YthnbmeihaojfnaaInvC
import Derived.Deep.RegionHeld3
import Derived.Deep.AppendLies
import Derived.Lib.RowBridge
import Derived.Deep.Cut
import Derived.Deep.DeepCutAuto
import Derived.Deep.CutBlock
namespace Go.Proofs.Ythnbmeihaojfnaa
open Go.ChangeShapes Go.WideShapes Go.ChangeAt Go.RowKit
set_option linter.unusedVariables false
set_option maxRecDepth 100000
theorem wf_sum {a b : Int} (h1 : -2208988800 ≤ a) (h2 : a ≤ 4102444800) (h3 : -172800 ≤ b) (h4 : b ≤ 172800) : (Lit.int .i64 (a + b)).wf = true := WalkArith.wf_i64 ⟨by omega, by omega⟩
set_option maxHeartbeats 6400000 in
theorem edgesT_any (a : Option Addr) (cap : Nat) (l : List Spn) (w : World) (hl : SpansAt w a l) (hn : l.length ≤ 1000) (hg : ∀ x ∈ l, SpnGood x) :
    Calls Try.prog 10 #[.slice a l.length cap, .bool true] w fun e w' => ∃ a cap zs, e = .returned (.slice a zs.length cap) ∧ IntsAt w' a zs ∧ (∀ z ∈ zs, (Lit.int .i64 z).wf = true) ∧ Gr w w' := by
  obtain ⟨i0, hi, hi1, hi2, hi3⟩ := Try.infoInt
  have HSP : Hid _ := hl
  have HGD : Hid _ := hg
  clear hl hg
  go_enter Try.func10, Try.ntmps10
  go_wp2_with fail
  go_loopw [5, 6] (fun v s wr => ∃ (k : Nat) (zs : List Int), k ≤ l.length ∧ s = .int .i64 k ∧ zs.length ≤ 2 * k ∧ (∀ z ∈ zs, (Lit.int .i64 z).wf = true) ∧ Gr w wr ∧ wr.ownsRow w.heap.size 3 1 v zs.length (ints zs)) (fun v s _ => l.length - (intOf s).toNat)
  case atStart => exact ⟨0, [], Nat.zero_le _, rfl, Nat.le_refl _, fun z hz => by simp at hz, Gr.refl _, owns_nil _ _ _ _⟩
  case round =>
    obtain ⟨k, zs, hk, rfl, hzk, hwz, hgr, hown⟩ := hrel
    by_cases hlt : k < l.length
    · obtain ⟨x, hx⟩ : ∃ x, l[k]? = some x := ⟨_, List.getElem?_eq_getElem hlt⟩
      obtain ⟨_, b, o, e, hb, q0, q1, q2, q3⟩ := (HSP.out.gr hgr).cell k x hx
      subst e
      have g := HGD.out x (List.mem_of_getElem? hx)
      have g1 := g.lo
      have g2 := g.hi
      have g3 := g.olo
      have g4 := g.ohi
      obtain ⟨frm, off, sv, nm⟩ := x
      simp only at q0 q1 q2 q3 g1 g2 g3 g4
      have w2a : IntKind.i64.wrap (frm + off) = frm + off := IntWalk.i64_in _ ⟨by omega, by omega⟩
      have j1 : (k : Int) < (l.length : Int) := by omega
      obtain ⟨va, vcap, rfl, hvc, hza⟩ := owns_ints hown
      obtain ⟨ne, hne⟩ : ∃ ne, ne = zs.length := ⟨_, rfl⟩
      rw [← hne] at hown hzk hvc ⊢
      have HOWN : Hid _ := hown
      have HWZ : Hid _ := hwz
      have HGR : Hid _ := hgr
      have HNE : Hid _ := hne
      have HX : Hid _ := hx
      clear hx g hza hown hwz hgr hne q2 q3
      have w2p : (Lit.int .i64 (frm + off)).wf = true := wf_sum g1 (by omega) g3 g4
      obtain ⟨d, hd⟩ : ∃ d, frm + off = d := ⟨_, rfl⟩
      simp only [hd] at w2a w2p
      have HW1 : Hid _ := w2p
      have hd2 : frm + off = d := hd
      clear w2p
      go_upto_region 6 with fail
      go_cut [5] (fun v wx => wx.ownsRow w.heap.size 3 1 v (ne + 1) (ints (zs ++ [d])) ∧ Gr w wx)
      case first =>
        go_region_law (first
          | (refine step_append_lies _ (by rfl) _ _ _ (by rfl) w.heap.size 3 i0 _ 1 8 Try.underlying34 hi hi1 hi2 hi3 rfl (by decide) (.slice va ne vcap) ne (ints zs) (by rfl) (owns_gr HOWN.out (by repeat (with_reducible first | exact Gr.refl _ | refine Gr.drew ?_ | refine Gr.drewN ?_ _ | refine Gr.alloc ?_ _))) ⟨wr.heap.size, 0, none⟩ 1 1 [.int .i64 d] (by rfl) (by rfl) (World.news_of_block (cs := #[.int .i64 d]) (t := 3) (fr := (0, 0)) (heapA wr _)) (by simp [Value.oneCell']) (by omega) (by unfold maxLen; omega) (by omega) (by have := HGR.out.size; simp; omega) (wr.heap.size + 1) (by simp) ?_; intro g6 cap6 w6 hown6 hgrow6 hat6 hlt6
             have HE : Hid _ := And.intro hown6 (show Gr w w6 from (Gr.by_ (by repeat (with_reducible first | exact HGR.out | refine Gr.drew ?_ | refine Gr.drewN ?_ _ | refine Gr.alloc ?_ _)) hgrow6 (fun x hx => (owns_lt HOWN.out hx).1)))
             clear hown6 hgrow6 hat6 hlt6))
        all_goals
          go_wp2
          go_meet
          case rel => exact ⟨by rw [ints_appC]; exact HE.out.1, HE.out.2⟩
      case rest =>
        obtain ⟨hown2, hgx⟩ := hcut
        have hl2 : ne + 1 = (zs ++ [d]).length := by rw [HNE.out]; simp
        rw [hl2] at hown2
        obtain ⟨va2, vcap2, rfl, hvc2, _⟩ := owns_ints hown2
        obtain ⟨n2, hn2⟩ : ∃ n2, n2 = (zs ++ [d]).length := ⟨_, rfl⟩
        rw [← hn2] at hown2 hl2 hvc2 ⊢
        have hn3 : n2 ≤ 2 * k + 1 := by omega
        have HO2 : Hid _ := hown2
        have HG2 : Hid _ := hgx
        have HN2 : Hid _ := hn2
        have HW2 : Hid _ := (show ∀ z ∈ zs ++ [d], (Lit.int .i64 z).wf = true from fun z hz => by
          rcases List.mem_append.1 hz with h | h
          · exact HWZ.out z h
          · rw [List.mem_singleton.1 h]; exact HW1.out)
        clear hown2 hgx hn2 q0 q1 hl2 hd hd2
        by_cases hkp : 0 < k
        · obtain ⟨_, b1, o1, e1, hb1, r0, r1, r2, r3⟩ := (HSP.out.gr HG2.out).cell k _ HX.out
          cases e1
          obtain ⟨q, hq⟩ : ∃ q, q = k - 1 := ⟨_, rfl⟩
          have hix : IntKind.i64.wrap ((k : Int) - 1) = (q : Int) := by rw [IntWalk.i64_in _ ⟨by omega, by omega⟩]; omega
          have hqn : (q : Int) < (l.length : Int) := by omega
          obtain ⟨y, hy⟩ : ∃ y, l[q]? = some y := ⟨_, List.getElem?_eq_getElem (by omega)⟩
          obtain ⟨_, b2, o2, e2, hb2, s0, s1, s2, s3⟩ := (HSP.out.gr HG2.out).cell q y hy
          cases e2
          have g := HGD.out y (List.mem_of_getElem? hy)
          have g5 := g.olo
          have g6 := g.ohi
          obtain ⟨yf, yo, ys, yn⟩ := y
          simp only at r0 r1 r2 r3 s0 s1 s2 s3 g5 g6
          obtain ⟨d2, hd2⟩ : ∃ d2, frm + yo = d2 := ⟨_, rfl⟩
          have w3a : IntKind.i64.wrap (frm + yo) = d2 := by rw [← hd2]; exact IntWalk.i64_in _ ⟨by omega, by omega⟩
          have w3b : IntKind.i64.wrap d2 = d2 := by rw [← hd2]; exact IntWalk.i64_in _ ⟨by omega, by omega⟩
          have HW3 : Hid _ := (show (Lit.int .i64 d2).wf = true by rw [← hd2]; exact wf_sum g1 (by omega) g5 g6)
          clear hq hy g r1 r2 r3 s0 s2 s3
          go_upto_region 8 with fail
          go_region_law (first
            | (refine step_append_lies _ (by rfl) _ _ _ (by rfl) w.heap.size 3 i0 _ 1 8 Try.underlying34 hi hi1 hi2 hi3 rfl (by decide) (.slice va2 n2 vcap2) n2 (ints (zs ++ [d])) (by rfl) (owns_gr HO2.out (by repeat (with_reducible first | exact Gr.refl _ | refine Gr.drew ?_ | refine Gr.drewN ?_ _ | refine Gr.alloc ?_ _))) ⟨wc.heap.size, 0, none⟩ 1 1 [.int .i64 d2] (by rfl) (by rfl) (World.news_of_block (cs := #[.int .i64 d2]) (t := 3) (fr := (0, 0)) (heapA wc _)) (by simp [Value.oneCell']) (by omega) (by unfold maxLen; omega) (by omega) (by have := HG2.out.size; simp; omega) (wc.heap.size + 1) (by simp) ?_; intro g6 cap6 w6 hown6 hgrow6 hat6 hlt6
               have HE : Hid _ := And.intro hown6 (show Gr w w6 from (Gr.by_ (by repeat (with_reducible first | exact HG2.out | refine Gr.drew ?_ | refine Gr.drewN ?_ _ | refine Gr.alloc ?_ _)) hgrow6 (fun x hx => (owns_lt HO2.out hx).1)))
               clear hown6 hgrow6 hat6 hlt6))
          all_goals
            go_wp2
            go_roundw
            case rel =>
              refine ⟨k + 1, zs ++ [d] ++ [d2], by omega, by go_num, by rw [List.length_append, ← HN2.out]; simp; omega, fun z hz => ?_, HE.out.2, ?_⟩
              · rcases List.mem_append.1 hz with h | h
                · exact HW2.out z h
                · rw [List.mem_singleton.1 h]; exact HW3.out
              · rw [List.length_append, ← HN2.out, ints_appC (zs ++ [d])]; exact HE.out.1
            case measure => simp [intOf]; omega
        · have hk0 : k = 0 := by omega
          subst hk0
          go_wp2_with fail
          go_roundw
          case rel => exact ⟨1, zs ++ [d], by omega, by go_num, by rw [← HN2.out]; omega, HW2.out, HG2.out, by rw [← HN2.out]; exact HO2.out⟩
          case measure => simp [intOf]; omega
    · obtain ⟨a', cap', rfl, e2, e3⟩ := owns_ints hown
      have E3 : Hid _ := e3
      have HWZ : Hid _ := hwz
      clear hown e3 hwz
      go_wp2
      go_ret
      exact ⟨a', cap', _, rfl, E3.out, HWZ.out, hgr⟩
end Go.Proofs.Ythnbmeihaojfnaa
