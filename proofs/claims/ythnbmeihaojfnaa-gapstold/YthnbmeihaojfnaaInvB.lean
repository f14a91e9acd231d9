/- Contract: what is told for what a clock shows (a closure). -/
import Derived.Test.YthnbmeihaojfnaaInvA
import Derived.Test.YthnbmeihaojfnaaTreC
import Derived.Deep.DeepCutAuto
import Derived.Deep.CutBlock
namespace Go.Proofs.Ythnbmeihaojfnaa
open Go.ChangeShapes Go.WideShapes Go.ChangeAt Go.RowKit
set_option linter.unusedVariables false
set_option maxRecDepth 100000
theorem SpansAt.drop {w : World} {b o : Nat} {l : List Spn} (h : SpansAt w (some ⟨b, o, none⟩) l) (k : Nat) : SpansAt w (some ⟨b, o + k * 4, none⟩) (l.drop k) :=
  ⟨by have := h.len; simp; omega, fun i x hx => by
    rw [List.getElem?_drop] at hx
    obtain ⟨h0, b', o', e, hb, c0, c1, c2, c3⟩ := h.cell (k + i) x hx
    cases e
    have e : o + (k + i) * 4 = o + k * 4 + i * 4 := by omega
    rw [e] at c0 c1 c2 c3
    exact ⟨h0, b, _, rfl, hb, c0, c1, c2, c3⟩⟩
theorem name_exitI {C : Exit → Act → World → Prop} {x : Exit} {a : Act} (w : World) (h : ∀ W, W = w → C x a W) : C x a w := h w rfl
theorem set5_heapI {w : World} {b : Nat} {u0 u1 u2 u3 u4 : Value} (x : Nat) (h : x ≠ b) : (((((w.setCell ⟨b, 0, none⟩ u0).setCell ⟨b, 1, none⟩ u1).setCell ⟨b, 2, none⟩ u2).setCell ⟨b, 3, none⟩ u3).setCell ⟨b, 4, none⟩ u4).heap[x]? = w.heap[x]? :=
  (heap_setCell_other _ ⟨b, 4, none⟩ x u4 (by simpa using h)).trans ((heap_setCell_other _ ⟨b, 3, none⟩ x u3 (by simpa using h)).trans ((heap_setCell_other _ ⟨b, 2, none⟩ x u2 (by simpa using h)).trans ((heap_setCell_other _ ⟨b, 1, none⟩ x u1 (by simpa using h)).trans (heap_setCell_other _ ⟨b, 0, none⟩ x u0 (by simpa using h)))))
theorem ints_keep {w w' : World} {b : Nat} {zs : List Int} (h : IntsAt w (some ⟨b, 0, none⟩) zs) (hs : w'.heap.size = w.heap.size) (hb : w'.heap[b]? = w.heap[b]?) : IntsAt w' (some ⟨b, 0, none⟩) zs :=
  ⟨h.len, fun i z hz => by
    obtain ⟨b', o', e, hlt, hc⟩ := h.cell i z hz
    cases e
    exact ⟨_, _, rfl, by omega, (World.cell?_of_block (w := w) (a := ⟨b, 0 + i, none⟩) hb).trans hc⟩⟩
theorem offs_one {l : List Spn} {k : Nat} {x : Spn} {n : Int} (h : l[k]? = some x) : offsR n (l.drop k) = (if shB x (nextF (l.drop (k + 1))) n = true then [x.off] else []) ++ offsR n (l.drop (k + 1)) := by
  have hl := (List.getElem?_eq_some_iff.1 h).1
  rw [List.drop_eq_getElem_cons hl]
  rw [List.getElem?_eq_getElem hl] at h
  cases h
  rfl
theorem offs_far {n : Int} : ∀ {l : List Spn}, (∀ x ∈ l, SpnGood x) → (∀ x ∈ l, n + 172800 < x.frm) → offsR n l = []
  | [], _, _ => rfl
  | x :: r, hg, h => by
    have g := (hg x (by simp)).olo
    have h0 := h x (by simp)
    have hs : shB x (nextF r) n = false := by unfold shB; rw [decide_eq_false_iff_not]; omega
    rw [offsR, hs, offs_far (fun y hy => hg y (by simp [hy])) (fun y hy => h y (by simp [hy]))]
    simp
set_option maxHeartbeats 3200000 in
theorem shows_any (a : Option Addr) (cap : Nat) (l : List Spn) (n : Int) (lb : Nat) (w : World) (hs : SpansAt w a l) (hlb : w.heap[lb]? = some (.cells #[.slice a l.length cap] 22)) (h0 : 0 < l.length) (h1 : l.length ≤ 1000) (hc : l.length ≤ cap) (hc2 : cap ≤ 9223372036854775807) (hn0 : -1099511627776 ≤ n) (hn1 : n ≤ 1099511627776) (hg : ∀ x ∈ l, SpnGood x) (hp : l.Pairwise (fun a b => a.frm < b.frm)) :
    Calls Try.prog 38 #[.int .i64 n, .pointer (some ⟨lb, 0, none⟩)] w fun e w' => ∃ x : Ans, e = .returned (.agg x.cells.toArray) ∧ AnsOk w' x ∧ x.val = localV l n ∧ Gr w w' ∧ (x.zs ≠ [] → ∃ b, x.a = some ⟨b, 0, none⟩ ∧ ∃ cs, w'.heap[b]? = some (.cells cs 3)) := by
  have HL : Hid _ := hlb
  have HSP : Hid _ := hs
  have zlb : lb < w.heap.size := (Array.getElem?_eq_some_iff.1 hlb).1
  have HSE : Hid _ := fun nb W (hgr : Gr w W) (hnb : W.heap[nb]? = some (.cells #[.int .i64 n] 3)) => search_any a cap l n lb nb W ⟨hs.gr hgr, (hgr.block _ zlb).trans hlb, hnb⟩ h1 hn0 hn1 hg hp
  have HEO : Hid _ := fun i W (hi : i < l.length) (hgr : Gr w W) => endOf_any a cap l i W (hs.gr hgr) h1 hi
  have HGD : Hid _ := hg
  have HPW : Hid _ := hp
  have c0 := (row_all hlb).1 0
  simp at c0
  clear hs hlb hg hp
  go_enter Try.func38, Try.ntmps38
  go_wp2_with fail
  refine (HSE.out w.heap.size _ (((Gr.refl _).alloc _).alloc _) (heapB _ _ _)).mono ?_
  rintro e w1 ⟨r, rfl, hr, hrr, hg1⟩
  have hgw : Gr w w1 := (((Gr.refl _).alloc _).alloc _).trans hg1
  have kn : w1.heap[w.heap.size]? = some (.cells #[.int .i64 n] 3) := (hg1.block _ (by simp; omega)).trans (heapB _ _ _)
  have kr : w1.heap[w.heap.size + 1]? = some (.cells #[.int .i64 0, .bool false, .string ⟨#[]⟩, .slice none 0 0, .int .i64 0] 39) := (hg1.block _ (by simp)).trans (heapC _ _ _)
  have KN : Hid _ := kn
  have KR : Hid _ := kr
  have KL : Hid _ := (hgw.block _ zlb).trans HL.out
  have zr1 : w.heap.size + 1 < w1.heap.size := (Array.getElem?_eq_some_iff.1 kr).1
  have zn1 : w.heap.size < w1.heap.size := by omega
  have zl1 : lb < w1.heap.size := by omega
  have HGW : Hid _ := hgw
  clear kn kr hg1 hgw c0
  have HRR : Hid _ := hrr
  clear hrr
  have w1a : IntKind.i64.wrap (n + 172800) = n + 172800 := IntWalk.i64_in _ ⟨by omega, by omega⟩
  obtain ⟨i0, hi, hi1, hi2, hi3⟩ := Try.infoInt
  go_upto_block 0 with fail
  obtain ⟨W1, hW1⟩ : ∃ W, W = w1.alloc (Obj.cells #[.int .i64 0, .bool false, .string ⟨#[]⟩, .slice none 0 0, .int .i64 0] 39) := ⟨_, rfl⟩
  rw [← hW1]
  have gW : Gr w1 W1 := by rw [hW1]; exact (Gr.refl _).alloc _
  have KA : Hid _ := (show W1.heap[w1.heap.size]? = some (.cells #[.int .i64 0, .bool false, .string ⟨#[]⟩, .slice none 0 0, .int .i64 0] 39) from by rw [hW1]; exact heapA _ _)
  have zW : W1.heap.size = w1.heap.size + 1 := by rw [hW1]; simp
  have HGA : Hid _ := gW
  clear hW1 gW
  go_cut [] (fun wx => ∃ (v : Value), wx.ownsRow (w1.heap.size + 1) 3 1 v (offsR n l).length (ints (offsR n l)) ∧ wx.heap[w1.heap.size]? = some (.cells #[.int .i64 0, .bool false, .string ⟨#[]⟩, v, .int .i64 0] 39) ∧ Gr w1 wx)
  case first =>
    go_wp2_with fail
    go_loopw [6] (fun t wr => ∃ (k : Nat) (v : Value) (zs : List Int), r ≤ k ∧ k ≤ l.length ∧ t = .int .i64 k ∧ zs.length ≤ k ∧ offsR n l = zs ++ offsR n (l.drop k) ∧ wr.ownsRow (w1.heap.size + 1) 3 1 v zs.length (ints zs) ∧ wr.heap[w1.heap.size]? = some (.cells #[.int .i64 0, .bool false, .string ⟨#[]⟩, v, .int .i64 0] 39) ∧ Gr w1 wr) (fun t _ => l.length - (intOf t).toNat)
    case atStart => exact ⟨r, _, [], Nat.le_refl _, hr, rfl, Nat.zero_le _, (offs_drop r HGD.out (fun i hi hl => HRR.out i hi) HPW.out).1, owns_nil _ _ _ _, KA.out, HGA.out⟩
    case round =>
      obtain ⟨k, v, zs, hrk, hk, rfl, hzk, hoff, hown, hab, hgr⟩ := hrel
      have HOFF : Hid _ := hoff
      have HOWN : Hid _ := hown
      have HAB : Hid _ := hab
      have HGR : Hid _ := hgr
      have zar : w1.heap.size < wr.heap.size := (Array.getElem?_eq_some_iff.1 hab).1
      have cl := (row_all ((hgr.block _ zl1).trans KL.out)).1 0
      have cn := (row_all ((hgr.block _ zn1).trans KN.out)).1 0
      simp at cl cn
      clear hoff hown hab hgr
      by_cases hlt : k < l.length
      · obtain ⟨x, hx⟩ : ∃ x, l[k]? = some x := ⟨_, List.getElem?_eq_getElem hlt⟩
        obtain ⟨_, b, o, e, hb, q0, q1, q2, q3⟩ := (HSP.out.gr (HGW.out.trans HGR.out)).cell k x hx
        subst e
        have g := HGD.out x (List.mem_of_getElem? hx)
        have g1 := g.lo
        have g2 := g.hi
        have g3 := g.olo
        have g4 := g.ohi
        have HX : Hid _ := hx
        have j1 : (k : Int) < (l.length : Int) := by omega
        obtain ⟨frm, off, sv, nm⟩ := x
        simp only at q0 q1 q2 q3 g1 g2 g3 g4
        clear hx g
        have hO : wr.cell? ⟨lb, 0, none⟩ = some (.slice (some ⟨b, o, none⟩) l.length cap) ∧ wr.cell? ⟨w.heap.size, 0, none⟩ = some (.int .i64 n) ∧ wr.cell? ⟨b, o + k * 4, none⟩ = some (.int .i64 frm) := ⟨cl, cn, q0⟩
        by_cases hfar : frm ≤ n + 172800
        · have b1 : decide (frm ≤ n + 172800) = true := by simpa using hfar
          have clk := cl
          have cnk := cn
          have q0k := q0
          have zlr : lb < wr.heap.size := Nat.lt_of_lt_of_le zl1 HGR.out.size
          have znr : w.heap.size < wr.heap.size := Nat.lt_of_lt_of_le zn1 HGR.out.size
          clear cl cn q0
          go_upto_region 4 with fail
          go_region_held3 (fun w' => w'.cell? ⟨lb, 0, none⟩ = some (.slice (some ⟨b, o, none⟩) l.length cap) ∧ w'.cell? ⟨w.heap.size, 0, none⟩ = some (.int .i64 n) ∧ w'.cell? ⟨b, o + k * 4, none⟩ = some (.int .i64 frm)) (first | with_reducible exact hO | (simpa [go_sem] using hO)) (fail)
          refine name_exitI _ (fun W2 hW2 => ?_)
          have gW2 : Gr wr W2 := by rw [hW2]; repeat (with_reducible first | exact Gr.refl _ | refine Gr.drew ?_ | refine Gr.drewN ?_ _)
          have q0' := (gW2.cell b _ hb).trans q0k
          have q1' := (gW2.cell b _ hb).trans q1
          have cl' := (gW2.cell lb _ zlr).trans clk
          have cn' := (gW2.cell w.heap.size _ znr).trans cnk
          have zbW : b < W2.heap.size := Nat.lt_of_lt_of_le hb gW2.size
          have HG2 : Hid _ := HGR.out.trans gW2
          have HAB2 : Hid _ := (gW2.block _ zar).trans HAB.out
          have HOWN2 : Hid _ := owns_gr HOWN.out gW2
          have zlW : lb < W2.heap.size := Nat.lt_of_lt_of_le zlr gW2.size
          have znW : w.heap.size < W2.heap.size := Nat.lt_of_lt_of_le znr gW2.size
          have zaW : w1.heap.size < W2.heap.size := Nat.lt_of_lt_of_le zar gW2.size
          clear hO hW2 gW2
          go_upto_region 7 with fail
          have HEK : Hid _ := fun W (hgr : Gr w W) => HEO.out k W hlt hgr
          obtain ⟨R, hR⟩ : ∃ R, nextF (l.drop (k + 1)) = R := ⟨_, rfl⟩
          simp only [hR] at HEK
          have HR : Hid _ := hR
          have hRb : -2208988800 ≤ R ∧ R ≤ 4102444800 := by rw [← hR]; exact next_bd (fun y hy => HGD.out y (List.mem_of_mem_drop hy))
          clear hR
          have hO : W2.cell? ⟨lb, 0, none⟩ = some (.slice (some ⟨b, o, none⟩) l.length cap) ∧ W2.cell? ⟨w.heap.size, 0, none⟩ = some (.int .i64 n) ∧ W2.cell? ⟨b, o + k * 4, none⟩ = some (.int .i64 frm) := ⟨cl', cn', q0'⟩
          clear cl' cn' q0' q1'
          have w2a : IntKind.i64.wrap (frm + off) = frm + off := IntWalk.i64_in _ ⟨by omega, by omega⟩
          have w3a : IntKind.i64.wrap (R + off) = R + off := IntWalk.i64_in _ ⟨by omega, by omega⟩
          by_cases hs1 : frm + off ≤ n
          · have b2 : decide (frm + off ≤ n) = true := by simpa using hs1
            go_region_held3 (fun w' => w'.cell? ⟨lb, 0, none⟩ = some (.slice (some ⟨b, o, none⟩) l.length cap) ∧ w'.cell? ⟨w.heap.size, 0, none⟩ = some (.int .i64 n) ∧ w'.cell? ⟨b, o + k * 4, none⟩ = some (.int .i64 frm)) (first | with_reducible exact hO | (simpa [go_sem] using hO))
              (first
                | (go_at_call 41; refine (HEK.out _ (by repeat (with_reducible first | exact HGW.out.trans HG2.out | refine Gr.drew ?_))).mono ?_; rintro e w5 ⟨rfl, hw5⟩; subst w5))
            refine name_exitI _ (fun W3 hW3 => ?_)
            have gW3 : Gr W2 W3 := by rw [hW3]; repeat (with_reducible first | exact Gr.refl _ | refine Gr.drew ?_ | refine Gr.drewN ?_ _)
            have HG3 : Hid _ := HG2.out.trans gW3
            have hab3 := (gW3.block _ zaW).trans HAB2.out
            have HAB3 : Hid _ := hab3
            have HOWN3 : Hid _ := owns_gr HOWN2.out gW3
            have za3 : w1.heap.size < W3.heap.size := Nat.lt_of_lt_of_le zaW gW3.size
            clear hO hW3 gW3
            by_cases hs2 : n < R + off
            · have b3 : decide (n < R + off) = true := by simpa using hs2
              have HYES : Hid _ := (show offsR n l = (zs ++ [off]) ++ offsR n (l.drop (k + 1)) by
                rw [HOFF.out, offs_one HX.out, HR.out]
                have : shB ⟨frm, off, sv, nm⟩ R n = true := by unfold shB; rw [decide_eq_true_iff]; simp only; omega
                rw [this]; simp)
              obtain ⟨va, vcap, rfl, hvc, hza⟩ := owns_ints HOWN3.out
              obtain ⟨c3, f3⟩ := row_all hab3
              clear hab3 hza
              go_wp2_with (at_builtin; go_loud (refine wpList_append_lies _ rfl _ _ _ rfl (w1.heap.size + 1) 3 i0 _ 1 8 Try.underlying34 hi hi1 hi2 hi3 rfl (by decide) _ zs.length (ints zs) (by rfl) (owns_gr HOWN3.out (by exact (Gr.refl _).alloc _)) ⟨_, 0, none⟩ 1 1 [.int .i64 off] (by rfl) (by rfl) (World.news_of_block (cs := #[.int .i64 off]) (heapA _ _)) (by simp [Value.oneCell']) (by omega) (by unfold maxLen; omega) (by omega) (by simp; omega) _ rfl ?_); intro g cap' w9 hown2 hgrow hat hlt2
                           have hg9 : Gr w1 w9 := (HG3.out.alloc _).by_ hgrow (fun x hx => by have := (owns_lt HOWN3.out hx).1; omega)
                           have hab9 := (hgrow.block w1.heap.size (by simp; omega) (fun e => by have := (owns_lt HOWN3.out e.symm).1; omega)).trans ((Below.heap_alloc _ _ _ za3).trans HAB3.out)
                           have c9 := (row_all hab9).1
                           have f9 := (row_all hab9).2
                           have hgne : g ≠ w1.heap.size := Nat.ne_of_gt (owns_lt (g := g) hown2 (by rfl)).1
                           have HE : Hid _ := And.intro hown2 (And.intro hg9 hab9)
                           clear hown2 hgrow hat hlt2 hg9 hab9 c3 f3)
              go_roundw
              case rel =>
                have hab10 := heap_setCell_same w9 w1.heap.size 3 _ _ (.slice (some ⟨g, 0, none⟩) (zs.length + 1) cap') HE.out.2.2
                refine ⟨k + 1, _, zs ++ [off], by omega, by omega, by go_num, by simp; omega, HYES.out, ?_, by simpa using hab10, HE.out.2.1.setCell (Nat.le_refl _) _⟩
                rw [show ints (zs ++ [off]) = ints zs ++ [.int .i64 off] by simp [ints], List.length_append]
                refine owns_same HE.out.1 fun x hx => heap_setCell_other w9 ⟨w1.heap.size, 3, none⟩ x _ ?_
                have := (owns_lt HE.out.1 hx).1
                simp only
                omega
              case measure => simp [intOf]; omega
            · have b3 : decide (n < R + off) = false := by simpa using hs2
              have HNO : Hid _ := (show offsR n l = zs ++ offsR n (l.drop (k + 1)) by
                rw [HOFF.out, offs_one HX.out, HR.out]
                have : shB ⟨frm, off, sv, nm⟩ R n = false := by unfold shB; rw [decide_eq_false_iff_not]; simp only; omega
                rw [this]; simp)
              clear hab3
              go_wp2_with fail
              go_roundw
              case rel => exact ⟨k + 1, _, zs, by omega, by omega, by go_num, by omega, HNO.out, HOWN3.out, HAB3.out, HG3.out⟩
              case measure => simp [intOf]; omega
          · have b2 : decide (frm + off ≤ n) = false := by simpa using hs1
            obtain ⟨cl', cn', q0'⟩ := hO
            go_region
            refine name_exitI _ (fun W3 hW3 => ?_)
            have gW3 : Gr W2 W3 := by rw [hW3]; repeat (with_reducible first | exact Gr.refl _ | refine Gr.drew ?_ | refine Gr.drewN ?_ _)
            have HG3 : Hid _ := HG2.out.trans gW3
            have hab3 := (gW3.block _ zaW).trans HAB2.out
            have HAB3 : Hid _ := hab3
            have HOWN3 : Hid _ := owns_gr HOWN2.out gW3
            have za3 : w1.heap.size < W3.heap.size := Nat.lt_of_lt_of_le zaW gW3.size
            clear cl' cn' q0' hW3 gW3
            have HNO : Hid _ := (show offsR n l = zs ++ offsR n (l.drop (k + 1)) by
              rw [HOFF.out, offs_one HX.out, HR.out]
              have : shB ⟨frm, off, sv, nm⟩ R n = false := by unfold shB; rw [decide_eq_false_iff_not]; simp only; omega
              rw [this]; simp)
            clear hab3
            go_wp2_with fail
            go_roundw
            case rel => exact ⟨k + 1, _, zs, by omega, by omega, by go_num, by omega, HNO.out, HOWN3.out, HAB3.out, HG3.out⟩
            case measure => simp [intOf]; omega
        · have b1 : decide (frm ≤ n + 172800) = false := by simpa using hfar
          have HFAR : Hid _ := (show offsR n l = zs by
            rw [HOFF.out, offs_far (fun y hy => HGD.out y (List.mem_of_mem_drop hy)) (fun y hy => ?_)]
            · simp
            · obtain ⟨i, hiy⟩ := List.getElem?_of_mem hy
              rw [List.getElem?_drop] at hiy
              have e1 := (List.getElem?_eq_some_iff.1 hiy)
              have e2 := (List.getElem?_eq_some_iff.1 HX.out)
              obtain ⟨l1, e1⟩ := e1
              obtain ⟨l2, e2⟩ := e2
              rcases Nat.eq_zero_or_pos i with h | h
              · subst h
                rw [Nat.add_zero] at hiy
                rw [HX.out] at hiy
                cases hiy
                simp only
                omega
              · have := List.pairwise_iff_getElem.1 HPW.out k (k + i) l2 l1 (by omega)
                rw [e1, e2] at this
                simp only at this
                omega)
          have clk := cl
          clear cl cn q0
          go_upto_region 4 with fail
          go_region_held3 (fun w' => w'.cell? ⟨lb, 0, none⟩ = some (.slice (some ⟨b, o, none⟩) l.length cap) ∧ w'.cell? ⟨w.heap.size, 0, none⟩ = some (.int .i64 n) ∧ w'.cell? ⟨b, o + k * 4, none⟩ = some (.int .i64 frm)) (first | with_reducible exact hO | (simpa [go_sem] using hO)) (fail)
          refine name_exitI _ (fun W2 hW2 => ?_)
          have gW2 : Gr wr W2 := by rw [hW2]; repeat (with_reducible first | exact Gr.refl _ | refine Gr.drew ?_ | refine Gr.drewN ?_ _)
          have HEND : Hid _ := (show _ ∧ _ ∧ _ from ⟨owns_gr HOWN.out gW2, (gW2.block _ zar).trans HAB.out, HGR.out.trans gW2⟩)
          clear hO hW2 gW2
          go_wp2_with fail
          go_meet
          case rel => rw [HFAR.out]; exact ⟨v, HEND.out⟩
      · have hk' : k = l.length := by omega
        have HFAR : Hid _ := (show offsR n l = zs by rw [HOFF.out, hk', List.drop_length]; simp [offsR])
        have b0 : decide ((k : Int) < (l.length : Int)) = false := by rw [decide_eq_false_iff_not]; omega
        have b0' : ¬ (k : Int) < (l.length : Int) := by omega
        go_upto_region 4 with fail
        go_region
        refine name_exitI _ (fun W2 hW2 => ?_)
        have gW2 : Gr wr W2 := by rw [hW2]; repeat (with_reducible first | exact Gr.refl _ | refine Gr.drew ?_ | refine Gr.drewN ?_ _)
        have HEND : Hid _ := (show _ ∧ _ ∧ _ from ⟨owns_gr HOWN.out gW2, (gW2.block _ zar).trans HAB.out, HGR.out.trans gW2⟩)
        clear hW2 gW2 cl cn
        go_wp2_with fail
        go_meet
        case rel => rw [HFAR.out]; exact ⟨v, HEND.out⟩
  case rest =>
    obtain ⟨v, hown, hab, hgx⟩ := hcut
    obtain ⟨va, vcap, hv, hvc, hza⟩ := owns_ints hown
    have hrow : offsR n l ≠ [] → ∃ b, va = some ⟨b, 0, none⟩ ∧ w1.heap.size + 1 ≤ b ∧ ∃ cs, wc.heap[b]? = some (.cells cs 3) := fun hne => by
      rcases hown.2 with ⟨e, e'⟩ | ⟨g, cap', cur, e, hb, hg, _⟩
      · exact absurd (List.length_eq_zero_iff.1 e') hne
      · rw [hv] at e
        cases e
        exact ⟨g, rfl, hb, _, hg⟩
    subst hv
    have HZA : Hid _ := hza
    have HROW : Hid _ := hrow
    have HGX : Hid _ := hgx
    have HAB : Hid _ := hab
    have zac : w1.heap.size < wc.heap.size := (Array.getElem?_eq_some_iff.1 hab).1
    have KRC : Hid _ := (hgx.block _ zr1).trans KR.out
    have zrc : w.heap.size + 1 < wc.heap.size := Nat.lt_of_lt_of_le zr1 hgx.size
    have cl := (row_all ((hgx.block _ zl1).trans KL.out)).1 0
    have cn := (row_all ((hgx.block _ zn1).trans KN.out)).1 0
    simp at cl cn
    have zlc : lb < wc.heap.size := Nat.lt_of_lt_of_le zl1 hgx.size
    have znc : w.heap.size < wc.heap.size := Nat.lt_of_lt_of_le zn1 hgx.size
    have hwo : ∀ z ∈ offsR n l, (Lit.int .i64 z).wf = true := fun z hz => by
      obtain ⟨x, hx, rfl⟩ := offs_mem hz
      have g := HGD.out x hx
      exact WalkArith.wf_i64 ⟨by have := g.olo; omega, by have := g.ohi; omega⟩
    have HWO : Hid _ := hwo
    obtain ⟨ca, fa⟩ := row_all hab
    clear hown hab hgx hza hrow hwo
    by_cases hne : offsR n l = []
    · have HNE : Hid _ := hne
      have g0 : (((offsR n l).length : Int) == 0) = true := by rw [hne]; rfl
      obtain ⟨x0, hx0⟩ : ∃ x, l[0]? = some x := ⟨_, List.getElem?_eq_getElem h0⟩
      obtain ⟨_, b, o, e, hb, _⟩ := HSP.out.cell 0 x0 hx0
      subst e
      have HDJ : Hid _ := (offs_drop r HGD.out (fun i hi hl => HRR.out i hi) HPW.out).2 hr
      have HLJ : Hid _ := (show (0, false, (⟨#[]⟩ : ByteArray), ([] : List Int), jumpR n (l.drop r)) = localV l n by
        unfold localV localJ
        rw [hne, if_pos rfl, ← HDJ.out])
      have HJB : Hid _ := jump_bd (n := n) (l := l.drop r) (fun y hy => HGD.out y (List.mem_of_mem_drop hy))
      have HJU : Hid _ := (show ∀ (sa : Option Addr) (W : World), (r < l.length → sa = some ⟨b, o + r * 4, none⟩) → Gr wc W → Calls Try.prog 42 #[.slice sa (l.length - r) (cap - r), .int .i64 n] W (fun e w' => e = .returned (.int .i64 (jumpR n (l.drop r))) ∧ Gr W w') from fun sa W hsa hgr => by
        have hsp : SpansAt W sa (l.drop r) := by
          rcases Nat.lt_or_ge r l.length with h | h
          · rw [hsa h]; exact (HSP.out.gr (HGW.out.trans (HGX.out.trans hgr))).drop r
          · rw [List.drop_eq_nil_of_le h]; exact ⟨Nat.zero_le _, fun i x hx => by simp at hx⟩
        have := jump_any sa (cap - r) (l.drop r) n W hsp (by rw [List.length_drop]; omega) (fun y hy => HGD.out y (List.mem_of_mem_drop hy))
        rwa [List.length_drop] at this)
      obtain ⟨J, hJ⟩ : ∃ J, jumpR n (l.drop r) = J := ⟨_, rfl⟩
      rw [hJ] at HLJ HJB
      simp only [hJ] at HJU
      have cr := (row_all KRC.out).1
      have fr := (row_all KRC.out).2
      have hne1 : w1.heap.size ≠ w.heap.size + 1 := by omega
      have hne2 : w1.heap.size ≠ w.heap.size := by omega
      have hne3 : w1.heap.size ≠ lb := by omega
      have i1 : (r : Int) ≤ (l.length : Int) := by omega
      have i2 : (r : Int) ≤ (cap : Int) := by omega
      have i3 : (l.length : Int) ≤ (cap : Int) := by omega
      have i4 : r ≤ cap := by omega
      have i5 : (0 : Int) ≤ (r : Int) := by omega
      clear hne hx0 hJ
      go_upto_region 10 with fail
      have hO : wc.cell? ⟨lb, 0, none⟩ = some (.slice (some ⟨b, o, none⟩) l.length cap) ∧ wc.cell? ⟨w.heap.size, 0, none⟩ = some (.int .i64 n) := ⟨cl, cn⟩
      clear cl cn
      by_cases hrc : cap = r
      · have e1 : r = l.length := by omega
        have e2 : cap = l.length := by omega
        subst e1
        subst e2
        simp only [Nat.sub_self] at HJU
        clear hrc
        go_region_held3 (fun w' => w'.cell? ⟨lb, 0, none⟩ = some (.slice (some ⟨b, o, none⟩) l.length l.length) ∧ w'.cell? ⟨w.heap.size, 0, none⟩ = some (.int .i64 n)) (first | with_reducible exact hO | (simpa [go_sem, hne1, hne2, hne3] using hO))
          (first
            | (go_at_call 42; refine (HJU.out _ _ (fun h => by first | rfl | (exfalso; omega)) (by repeat (with_reducible first | exact Gr.refl _ | refine Gr.drew ?_))).mono ?_; rintro e w5 ⟨rfl, hg5x⟩
               have hg5 : Gr wc w5 := ⟨hg5x.os, hg5x.out, hg5x.size, hg5x.block⟩
               replace hO := And.intro ((hg5.cell _ 0 zlc).trans hO.1) ((hg5.cell _ 0 znc).trans hO.2)
               have ka5 := (hg5.block _ zac).trans HAB.out
               have ca5 := (row_all ka5).1
               have fa5 := (row_all ka5).2
               have kr5 := (hg5.block _ zrc).trans KRC.out
               clear hg5x))
        have ka6 := heap_setCell_same w5 w1.heap.size 4 _ _ (.int .i64 J) ka5
        have kr6 : (w5.setCell ⟨w1.heap.size, 4, none⟩ (.int .i64 J)).heap[w.heap.size + 1]? = _ := (heap_setCell_other w5 ⟨w1.heap.size, 4, none⟩ (w.heap.size + 1) (.int .i64 J) (by simp; omega)).trans kr5
        simp at ka6
        obtain ⟨W6, hW6⟩ : ∃ W, W = w5.setCell ⟨w1.heap.size, 4, none⟩ (.int .i64 J) := ⟨_, rfl⟩
        have gW6 : Gr w1 W6 := by rw [hW6]; exact (HGX.out.trans hg5).setCell (Nat.le_refl _) _
        rw [← hW6] at ka6 kr6
        refine name_exitI _ (fun W7 hW7 => ?_)
        have e76 : W7.heap = W6.heap ∧ W7.os = W6.os ∧ W7.output = W6.output := by rw [hW7, hW6]; exact ⟨rfl, rfl, rfl⟩
        have gW7 : Gr w1 W7 := ⟨by rw [e76.2.1]; exact gW6.os, by rw [e76.2.2]; exact gW6.out, by rw [e76.1]; exact gW6.size, fun x hx => by rw [e76.1]; exact gW6.block x hx⟩
        rw [← e76.1] at ka6 kr6
        have HG7 : Hid _ := gW7
        have ca := (row_all ka6).1
        have cr7 := (row_all kr6).1
        have fr7 := (row_all kr6).2
        clear hO ca5 fa5 ka5 kr5 hW6 hW7 e76 gW6 gW7 cr fr fa
        go_wp2_with fail
        refine bodyPost_ret (v := .agg (Ans.cells ⟨0, false, ⟨#[]⟩, va, vcap, [], J⟩).toArray) (by simp [results, Try.results38, go_sem, cr7, Ans.cells, HNE.out]) rfl ⟨⟨0, false, ⟨#[]⟩, va, vcap, [], J⟩, rfl, ⟨by show (Lit.int .i64 0).wf = true; decide, WalkArith.wf_i64 ⟨by simp only; have := HJB.out; omega, by simp only; have := HJB.out; omega⟩, by show (0 : Nat) ≤ maxLen; exact Nat.zero_le _, Nat.zero_le _, IntsAt.nil _ _, fun z hz => by simp at hz⟩, HLJ.out, ?_, fun h => absurd rfl h⟩
        repeat (with_reducible first | exact HGW.out.trans HG7.out | refine Gr.setCell ?_ (by simp) _)
      · have hrc2 : ¬ r = cap := fun e => hrc e.symm
        go_region_held3 (fun w' => w'.cell? ⟨lb, 0, none⟩ = some (.slice (some ⟨b, o, none⟩) l.length cap) ∧ w'.cell? ⟨w.heap.size, 0, none⟩ = some (.int .i64 n)) (first | with_reducible exact hO | (simpa [go_sem, hne1, hne2, hne3] using hO))
          (first
            | (go_at_call 42; refine (HJU.out _ _ (fun h => by first | rfl | (exfalso; omega)) (by repeat (with_reducible first | exact Gr.refl _ | refine Gr.drew ?_))).mono ?_; rintro e w5 ⟨rfl, hg5x⟩
               have hg5 : Gr wc w5 := ⟨hg5x.os, hg5x.out, hg5x.size, hg5x.block⟩
               replace hO := And.intro ((hg5.cell _ 0 zlc).trans hO.1) ((hg5.cell _ 0 znc).trans hO.2)
               have ka5 := (hg5.block _ zac).trans HAB.out
               have ca5 := (row_all ka5).1
               have fa5 := (row_all ka5).2
               have kr5 := (hg5.block _ zrc).trans KRC.out
               clear hg5x))
        have ka6 := heap_setCell_same w5 w1.heap.size 4 _ _ (.int .i64 J) ka5
        have kr6 : (w5.setCell ⟨w1.heap.size, 4, none⟩ (.int .i64 J)).heap[w.heap.size + 1]? = _ := (heap_setCell_other w5 ⟨w1.heap.size, 4, none⟩ (w.heap.size + 1) (.int .i64 J) (by simp; omega)).trans kr5
        simp at ka6
        obtain ⟨W6, hW6⟩ : ∃ W, W = w5.setCell ⟨w1.heap.size, 4, none⟩ (.int .i64 J) := ⟨_, rfl⟩
        have gW6 : Gr w1 W6 := by rw [hW6]; exact (HGX.out.trans hg5).setCell (Nat.le_refl _) _
        rw [← hW6] at ka6 kr6
        refine name_exitI _ (fun W7 hW7 => ?_)
        have e76 : W7.heap = W6.heap ∧ W7.os = W6.os ∧ W7.output = W6.output := by rw [hW7, hW6]; exact ⟨rfl, rfl, rfl⟩
        have gW7 : Gr w1 W7 := ⟨by rw [e76.2.1]; exact gW6.os, by rw [e76.2.2]; exact gW6.out, by rw [e76.1]; exact gW6.size, fun x hx => by rw [e76.1]; exact gW6.block x hx⟩
        rw [← e76.1] at ka6 kr6
        have HG7 : Hid _ := gW7
        have ca := (row_all ka6).1
        have cr7 := (row_all kr6).1
        have fr7 := (row_all kr6).2
        clear hO ca5 fa5 ka5 kr5 hW6 hW7 e76 gW6 gW7 cr fr fa
        go_wp2_with fail
        refine bodyPost_ret (v := .agg (Ans.cells ⟨0, false, ⟨#[]⟩, va, vcap, [], J⟩).toArray) (by simp [results, Try.results38, go_sem, cr7, Ans.cells, HNE.out]) rfl ⟨⟨0, false, ⟨#[]⟩, va, vcap, [], J⟩, rfl, ⟨by show (Lit.int .i64 0).wf = true; decide, WalkArith.wf_i64 ⟨by simp only; have := HJB.out; omega, by simp only; have := HJB.out; omega⟩, by show (0 : Nat) ≤ maxLen; exact Nat.zero_le _, Nat.zero_le _, IntsAt.nil _ _, fun z hz => by simp at hz⟩, HLJ.out, ?_, fun h => absurd rfl h⟩
        repeat (with_reducible first | exact HGW.out.trans HG7.out | refine Gr.setCell ?_ (by simp) _)
    · have HNE : Hid _ := hne
      have hlen : 0 < (offsR n l).length := List.length_pos_iff.2 hne
      have g0 : (((offsR n l).length : Int) == 0) = false := beq_eq_false_iff_ne.2 (by omega)
      have g1 : ¬ ((offsR n l).length : Int) = 0 := by omega
      have cr := (row_all KRC.out).1
      have fr := (row_all KRC.out).2
      have hne1 : w1.heap.size ≠ w.heap.size + 1 := by omega
      clear hne
      obtain ⟨Z, hZ⟩ : ∃ Z, offsR n l = Z := ⟨_, rfl⟩
      have HZ : Hid _ := hZ
      rw [hZ] at HZA HROW HWO HNE
      simp only [hZ] at hlen g0 g1 hvc
      obtain ⟨gb, hgb, hgb1, cs, hgbc⟩ := HROW.out HNE.out
      subst hgb
      have HCS : Hid _ := hgbc
      have HLJ : Hid _ := (show (0, false, (⟨#[]⟩ : ByteArray), Z, (0 : Int)) = localV l n by
        unfold localV localJ
        rw [hZ, if_neg HNE.out])
      clear hgbc
      go_wp2_with fail
      have HN2 := HNE.out
      refine bodyPost_ret (v := .agg (Ans.cells ⟨0, false, ⟨#[]⟩, some ⟨gb, 0, none⟩, vcap, Z, 0⟩).toArray) (by simp [results, Try.results38, go_sem, cr, Ans.cells]) rfl ⟨⟨0, false, ⟨#[]⟩, some ⟨gb, 0, none⟩, vcap, Z, 0⟩, rfl, ⟨by show (Lit.int .i64 0).wf = true; decide, by show (Lit.int .i64 0).wf = true; decide, by show (0 : Nat) ≤ maxLen; exact Nat.zero_le _, hvc, ?_, HWO.out⟩, HLJ.out, ?_, fun _ => ⟨gb, rfl, cs, ?_⟩⟩
      · exact ints_keep HZA.out (by simp [World.setCell]) (set5_heapI gb (by omega))
      · repeat (with_reducible first | exact HGW.out.trans HGX.out | refine Gr.setCell ?_ (by simp) _)
      · exact (set5_heapI gb (by omega)).trans HCS.out
end Go.Proofs.Ythnbmeihaojfnaa
