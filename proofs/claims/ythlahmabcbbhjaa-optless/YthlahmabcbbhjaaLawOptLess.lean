/- Proved: at every row of raw things and number the law OptLess returns true: merged, shared and balanced a forest is less, and not deep. No condition. -/
import Derived.Test.YthlahmabcbbhjaaOpt
import Derived.Test.YthlahmabcbbhjaaFoA
import Derived.Test.YthlahmabcbbhjaaOpnR
import Derived.Test.YthlahmabcbbhjaaOlA
import Derived.Deep.DeepCutAuto
import Derived.Deep.CutBlock
namespace Go.Proofs.Ythlahmabcbbhjaa
open Go.ChangeShapes Go.WideShapes Go.ChangeAt Go.RowKit
set_option linter.unusedVariables false
theorem ints_appL (a b : List Int) : ints (a ++ b) = ints a ++ ints b := by simp [ints]
theorem or_law (q : Int) (h0 : 0 ≤ q) (h7 : q ≤ 7) : (0 ≤ bits BinOp.or IntKind.i64 q 1 ∧ bits BinOp.or IntKind.i64 q 1 ≤ 7 ∧ isM (bits BinOp.or IntKind.i64 q 1) = true) ∧ (0 ≤ bits BinOp.or IntKind.i64 q 2 ∧ bits BinOp.or IntKind.i64 q 2 ≤ 7 ∧ isS (bits BinOp.or IntKind.i64 q 2) = true) ∧ (0 ≤ bits BinOp.or IntKind.i64 q 4 ∧ bits BinOp.or IntKind.i64 q 4 ≤ 7 ∧ isB (bits BinOp.or IntKind.i64 q 4) = true) := by
  have h : q = 0 ∨ q = 1 ∨ q = 2 ∨ q = 3 ∨ q = 4 ∨ q = 5 ∨ q = 6 ∨ q = 7 := by omega
  rcases h with rfl | rfl | rfl | rfl | rfl | rfl | rfl | rfl <;> decide
set_option maxRecDepth 8000 in
set_option maxHeartbeats 6400000 in
theorem optLess_walk (x : Raws) (m : Int) (w : World) (hx : RawsAt w x.p x.l) (wm : (Lit.int .i64 m).wf = true) :
    Calls Try.prog 5 #[.slice x.p x.l.length x.cap, .int .i64 m] w fun e w' => e = .returned (.bool true) ∧ Gr w w' := by
  obtain ⟨p, cap, l⟩ := x
  simp only at hx ⊢
  have m1 := Cal.pk_lo m (k := 8) (by omega)
  have m2 := Cal.pk_hi m (k := 8) (by omega)
  have HPM : Hid _ := fun k W (h0 : 0 < k) (h1 : k < 1099511627776) => picked_any m k W wm h0 h1
  have ho1 := fun (q : Int) (a : 0 ≤ q) (b : q ≤ 7) => or_law q a b
  have HOR : Hid _ := ho1
  clear ho1
  go_enter Try.func5, Try.ntmps5
  go_wp2_with fail
  refine (forest_any _ _ _ _ hx).mono ?_
  rintro e w1 ⟨F, rfl, hF, h0, hg1⟩
  have HO : Hid _ := fun k W (hg : Gr w1 W) (k0 : 0 ≤ k) (k7 : k ≤ 7) => opt_ok F k W (hF.gr hg) h0 k0 k7
  have HG1 : Hid _ := hg1
  have H0 : Hid _ := h0
  have HFO : Hid _ := hF
  obtain ⟨na, ncap, nodes, aa, acap, answers⟩ := F
  obtain ⟨X, hX⟩ : ∃ X : Fst, X = ⟨na, ncap, nodes, aa, acap, answers⟩ := ⟨_, rfl⟩
  have ec : X.cells = [.slice na nodes.length ncap, .slice aa answers.length acap] := by rw [hX]; rfl
  have HXN : Hid _ := (show X.nodes = nodes by rw [hX])
  rw [← hX] at HO H0
  rw [ec] at HO
  clear ec hX hx hF h0 hg1
  simp only [Fst.cells]
  obtain ⟨q, hq⟩ : ∃ q, Cal.pk m 8 = q := ⟨_, rfl⟩
  rw [hq] at m1 m2
  go_wp2_with (go_at_call 14; refine (HPM.out _ _ (by omega) (by omega)).mono ?_; rintro e w2 ⟨rfl, hw2⟩; subst w2; rw [hq])
  obtain ⟨W1, hW1⟩ : ∃ W1, W1 = w1.alloc (Obj.cells #[.slice na nodes.length ncap, .slice aa answers.length acap] 25) := ⟨_, rfl⟩
  rw [← hW1]
  have gW : Gr w1 W1 := by rw [hW1]; exact (Gr.refl _).alloc _
  have kW : W1.heap[w1.heap.size]? = some (.cells #[.slice na nodes.length ncap, .slice aa answers.length acap] 25) := by rw [hW1]; exact heapA _ _
  clear hW1
  have KW : Hid _ := kW
  obtain ⟨c1, f1⟩ := row_all kW
  have z1 : w1.heap.size < W1.heap.size := (Array.getElem?_eq_some_iff.1 kW).1
  have gP : Gr w1 W1 := gW
  clear kW
  refine (HO.out _ _ gP m1 (by omega)).mono ?_
  rintro e w3 ⟨g3, rfl, hM3⟩
  have k3 := (hM3.gr.block _ z1).trans KW.out
  have gP3 := gP.trans hM3.gr
  have HM3 : Hid _ := hM3
  clear c1 f1 gP
  obtain ⟨c1, f1⟩ := row_all k3
  have zz3 : w1.heap.size < w3.heap.size := (Array.getElem?_eq_some_iff.1 k3).1
  simp only [Fst.cells]
  go_upto_region 4 with fail
  obtain ⟨W3, hW3⟩ : ∃ W, W = w3.alloc (Obj.cells #[.slice g3.na g3.nodes.length g3.ncap, .slice g3.aa g3.answers.length g3.acap] 25) := ⟨_, rfl⟩
  rw [← hW3]
  have gQ3 : Gr w3 W3 := by rw [hW3]; exact (Gr.refl _).alloc _
  have KB3 : Hid _ := (show W3.heap[w3.heap.size]? = some (.cells #[.slice g3.na g3.nodes.length g3.ncap, .slice g3.aa g3.answers.length g3.acap] 25) from by rw [hW3]; exact heapA _ _)
  clear KW
  have KW : Hid _ := (gQ3.block _ zz3).trans k3
  have GS3 : Hid _ := And.intro hM3.gr gQ3
  have gP := gP3.trans gQ3
  clear c1 f1 z1 hW3 k3 gP3 gQ3 hM3
  obtain ⟨c1, f1⟩ := row_all KW.out
  have z1 : w1.heap.size < W3.heap.size := (Array.getElem?_eq_some_iff.1 KW.out).1
  have zb3 : w3.heap.size < W3.heap.size := (Array.getElem?_eq_some_iff.1 KB3.out).1
  go_wp2_with fail
  obtain ⟨qm, hqm⟩ : ∃ x, bits BinOp.or IntKind.i64 q 1 = x := ⟨_, rfl⟩
  have Hqm : Hid _ := (show 0 ≤ qm ∧ qm ≤ 7 ∧ isM qm = true by rw [← hqm]; exact (HOR.out q m1 (by omega)).1)
  simp only [hqm]
  clear hqm
  refine (HO.out _ _ gP Hqm.out.1 Hqm.out.2.1).mono ?_
  rintro e w4 ⟨g4, rfl, hM4⟩
  have k4 := (hM4.gr.block _ z1).trans KW.out
  have gP4 := gP.trans hM4.gr
  have HM4 : Hid _ := hM4
  clear c1 f1 gP
  obtain ⟨c1, f1⟩ := row_all k4
  have zz4 : w1.heap.size < w4.heap.size := (Array.getElem?_eq_some_iff.1 k4).1
  simp only [Fst.cells]
  go_upto_region 5 with fail
  obtain ⟨W4, hW4⟩ : ∃ W, W = w4.alloc (Obj.cells #[.slice g4.na g4.nodes.length g4.ncap, .slice g4.aa g4.answers.length g4.acap] 25) := ⟨_, rfl⟩
  rw [← hW4]
  have gQ4 : Gr w4 W4 := by rw [hW4]; exact (Gr.refl _).alloc _
  have KB4 : Hid _ := (show W4.heap[w4.heap.size]? = some (.cells #[.slice g4.na g4.nodes.length g4.ncap, .slice g4.aa g4.answers.length g4.acap] 25) from by rw [hW4]; exact heapA _ _)
  clear KW
  have KW : Hid _ := (gQ4.block _ zz4).trans k4
  have GS4 : Hid _ := And.intro hM4.gr gQ4
  have gP := gP4.trans gQ4
  clear c1 f1 z1 hW4 k4 gP4 gQ4 hM4
  obtain ⟨c1, f1⟩ := row_all KW.out
  have z1 : w1.heap.size < W4.heap.size := (Array.getElem?_eq_some_iff.1 KW.out).1
  have zb4 : w4.heap.size < W4.heap.size := (Array.getElem?_eq_some_iff.1 KB4.out).1
  go_wp2_with fail
  obtain ⟨qs, hqs⟩ : ∃ x, bits BinOp.or IntKind.i64 q 2 = x := ⟨_, rfl⟩
  have Hqs : Hid _ := (show 0 ≤ qs ∧ qs ≤ 7 ∧ isS qs = true by rw [← hqs]; exact (HOR.out q m1 (by omega)).2.1)
  simp only [hqs]
  clear hqs
  refine (HO.out _ _ gP Hqs.out.1 Hqs.out.2.1).mono ?_
  rintro e w5 ⟨g5, rfl, hM5⟩
  have k5 := (hM5.gr.block _ z1).trans KW.out
  have gP5 := gP.trans hM5.gr
  have HM5 : Hid _ := hM5
  clear c1 f1 gP
  obtain ⟨c1, f1⟩ := row_all k5
  have zz5 : w1.heap.size < w5.heap.size := (Array.getElem?_eq_some_iff.1 k5).1
  simp only [Fst.cells]
  go_upto_region 6 with fail
  obtain ⟨W5, hW5⟩ : ∃ W, W = w5.alloc (Obj.cells #[.slice g5.na g5.nodes.length g5.ncap, .slice g5.aa g5.answers.length g5.acap] 25) := ⟨_, rfl⟩
  rw [← hW5]
  have gQ5 : Gr w5 W5 := by rw [hW5]; exact (Gr.refl _).alloc _
  have KB5 : Hid _ := (show W5.heap[w5.heap.size]? = some (.cells #[.slice g5.na g5.nodes.length g5.ncap, .slice g5.aa g5.answers.length g5.acap] 25) from by rw [hW5]; exact heapA _ _)
  clear KW
  have KW : Hid _ := (gQ5.block _ zz5).trans k5
  have GS5 : Hid _ := And.intro hM5.gr gQ5
  have gP := gP5.trans gQ5
  clear c1 f1 z1 hW5 k5 gP5 gQ5 hM5
  obtain ⟨c1, f1⟩ := row_all KW.out
  have z1 : w1.heap.size < W5.heap.size := (Array.getElem?_eq_some_iff.1 KW.out).1
  have zb5 : w5.heap.size < W5.heap.size := (Array.getElem?_eq_some_iff.1 KB5.out).1
  go_wp2_with fail
  obtain ⟨qb, hqb⟩ : ∃ x, bits BinOp.or IntKind.i64 q 4 = x := ⟨_, rfl⟩
  have Hqb : Hid _ := (show 0 ≤ qb ∧ qb ≤ 7 ∧ isB qb = true by rw [← hqb]; exact (HOR.out q m1 (by omega)).2.2)
  simp only [hqb]
  clear hqb
  refine (HO.out _ _ gP Hqb.out.1 Hqb.out.2.1).mono ?_
  rintro e w6 ⟨g6, rfl, hM6⟩
  have k6 := (hM6.gr.block _ z1).trans KW.out
  have gP6 := gP.trans hM6.gr
  have HM6 : Hid _ := hM6
  clear c1 f1 gP
  obtain ⟨c1, f1⟩ := row_all k6
  have zz6 : w1.heap.size < w6.heap.size := (Array.getElem?_eq_some_iff.1 k6).1
  simp only [Fst.cells]
  go_upto_region 7 with fail
  obtain ⟨W6, hW6⟩ : ∃ W, W = w6.alloc (Obj.cells #[.slice g6.na g6.nodes.length g6.ncap, .slice g6.aa g6.answers.length g6.acap] 25) := ⟨_, rfl⟩
  rw [← hW6]
  have gQ6 : Gr w6 W6 := by rw [hW6]; exact (Gr.refl _).alloc _
  have KB6 : Hid _ := (show W6.heap[w6.heap.size]? = some (.cells #[.slice g6.na g6.nodes.length g6.ncap, .slice g6.aa g6.answers.length g6.acap] 25) from by rw [hW6]; exact heapA _ _)
  clear KW
  have KW : Hid _ := (gQ6.block _ zz6).trans k6
  have GS6 : Hid _ := And.intro hM6.gr gQ6
  have gP := gP6.trans gQ6
  clear c1 f1 z1 hW6 k6 gP6 gQ6 hM6
  obtain ⟨c1, f1⟩ := row_all KW.out
  have z1 : w1.heap.size < W6.heap.size := (Array.getElem?_eq_some_iff.1 KW.out).1
  have zb6 : w6.heap.size < W6.heap.size := (Array.getElem?_eq_some_iff.1 KB6.out).1
  have G36 : Gr W3 W6 := (GS4.out.1.trans GS4.out.2).trans ((GS5.out.1.trans GS5.out.2).trans (GS6.out.1.trans GS6.out.2))
  have G46 : Gr W4 W6 := (GS5.out.1.trans GS5.out.2).trans (GS6.out.1.trans GS6.out.2)
  have G56 : Gr W5 W6 := GS6.out.1.trans GS6.out.2
  have K3 : Hid _ := (G36.block _ zb3).trans KB3.out
  have K4 : Hid _ := (G46.block _ zb4).trans KB4.out
  have K5 : Hid _ := (G56.block _ zb5).trans KB5.out
  have hle : g4.nodes.length ≤ g3.nodes.length := HM4.out.least Hqm.out.2.2 g3 (good_of HM3.out.good) HM3.out.same
  have hlt : decide ((g3.nodes.length : Int) < (g4.nodes.length : Int)) = false := by rw [decide_eq_false_iff_not]; omega
  have hnd5 : g5.nodes.Nodup := HM5.out.nodup (by rw [Hqs.out.2.2]; simp)
  have HD6 : Hid _ := HM6.out.deep (by rw [Hqb.out.2.2]; simp)
  have HF6 : Hid _ := HM6.out.ok.gr GS6.out.2
  have HF5 : Hid _ := HM5.out.ok.gr (GS5.out.2.trans G56)
  have HN5 : Hid _ := hnd5
  have HCK : Hid _ := fun W (hg : Gr W6 W) => check_any g6 W (HF6.out.gr hg)
  have hgood6 := HM6.out.good
  have hG6 : Hid _ := good_of hgood6
  have hG5 : Hid _ := good_of HM5.out.good
  simp only [Fst.cells] at HCK
  simp only [hgood6] at HCK
  clear hgood6 hnd5 G36 G46 G56
  have d3 := (row_all K3.out).1
  have d4 := (row_all K4.out).1
  have d6 := (row_all KB6.out).1
  go_wp2_with fail
  refine (HCK.out _ (Gr.refl _)).mono ?_
  rintro e w7 ⟨rfl, hgn⟩
  have hg7 := Gr.ofGrown hgn
  clear hgn d3 d4 d6 c1 f1
  have hlt2 : ¬ g3.nodes.length < g4.nodes.length := by omega
  have KF : Hid _ := (hg7.block _ z1).trans KW.out
  have K5' : Hid _ := (hg7.block _ (Nat.lt_of_lt_of_le zb5 ((GS6.out.1.trans GS6.out.2).size))).trans K5.out
  have K6' : Hid _ := (hg7.block _ zb6).trans KB6.out
  have G17 : Hid _ := gP.trans hg7
  have HF6' : Hid _ := HF6.out.gr hg7
  have HF5' : Hid _ := HF5.out.gr hg7
  obtain ⟨c1, f1⟩ := row_all KF.out
  have hfo := HFO.out
  have hnl : nodes.length ≤ 8000 := by have := (good_of H0.out).n8; rw [HXN.out] at this; exact this
  obtain ⟨i0, hi, hi1, hi2, hi3⟩ := Try.infoInt
  go_upto_block 0 with fail
  clear hlt hlt2 hle c1 f1
  go_cut [15] (fun v wx => ∃ (zs : List Int) (za : Option Addr) (zcap : Nat), v = .slice za zs.length zcap ∧ zs.length ≤ zcap ∧ zs.length ≤ 8000 ∧ IntsAt wx za zs ∧ (∀ z ∈ zs, (Lit.int .i64 z).wf = true) ∧ (∀ nd ∈ nodes, nd.leaf = false → nd.bound ∈ zs) ∧ Gr w7 wx)
  case first =>
    go_wp2_with fail
    go_loopw [15, 86] (fun v t wr => ∃ (k : Nat) (zs : List Int), k ≤ nodes.length ∧ t = .int .i64 k ∧ wr.ownsRow w7.heap.size 3 1 v zs.length (ints zs) ∧ zs.length ≤ k ∧ (∀ (j : Nat) nd, j < k → nodes[j]? = some nd → nd.leaf = false → nd.bound ∈ zs) ∧ (∀ z ∈ zs, (Lit.int .i64 z).wf = true) ∧ Gr w7 wr) (fun _ t _ => nodes.length - (intOf t).toNat)
    case atStart => exact ⟨0, [], Nat.zero_le _, rfl, owns_nil _ _ _ _, Nat.le_refl _, fun j nd h => by omega, fun z h => by simp at h, Gr.refl _⟩
    case round =>
      obtain ⟨k, zs, hk, rfl, hown, hzk, hall, hwf, hgr⟩ := hrel
      have Hown : Hid _ := hown
      obtain ⟨za, zcap, rfl, hzc, hza⟩ := owns_ints hown
      have HZA : Hid _ := hza
      have HALL : Hid _ := hall
      have HWF : Hid _ := hwf
      have HGR : Hid _ := hgr
      by_cases hlt : k < nodes.length
      · obtain ⟨nd, hnd⟩ : ∃ x, nodes[k]? = some x := ⟨_, List.getElem?_eq_getElem hlt⟩
        obtain ⟨b, o, rfl, hb, hcc⟩ := (hfo.nat.gr (G17.out.trans hgr)).cell k nd hnd
        obtain ⟨q0, q1, q2, q3, q4⟩ := hcc
        have hno := hfo.nok nd (List.mem_of_getElem? hnd)
        have HND : Hid _ := hnd
        have HNO : Hid _ := hno
        obtain ⟨leaf, an, bo, le, mo⟩ := nd
        simp [Nod.cells] at q0 q1 q2 q3 q4
        have hg8 : w7.heap.size ≤ wr.heap.size := hgr.size
        clear hnd hown hza hall hwf hgr hno
        cases leaf with
        | true =>
          go_wp2_with fail
          go_roundw
          case rel => exact ⟨k + 1, zs, by omega, by go_num, owns_gr Hown.out ((Gr.refl _).alloc _), by omega, fun j nd hj hnd hl => by
              rcases Nat.lt_or_ge j k with h | h
              · exact HALL.out j nd h hnd hl
              · have e : j = k := by omega
                subst e
                rw [HND.out] at hnd
                cases hnd
                exact absurd hl (by simp), HWF.out, HGR.out.alloc _⟩
          case measure => simp [intOf]; omega
        | false =>
          have HCT : Hid _ := fun W (hg : Gr wr W) => containsI_any za zcap zs bo W (HZA.out.gr hg) (by omega)
          cases hin : decide (bo ∈ zs) with
          | true =>
            have HIN : Hid _ := (show bo ∈ zs from of_decide_eq_true hin)
            simp only [hin] at HCT
            clear hin
            go_wp2_with (go_at_call 18; refine (HCT.out _ ((Gr.refl _).alloc _)).mono ?_; rintro e w8 ⟨rfl, hw8⟩; subst w8)
            go_roundw
            case rel => exact ⟨k + 1, zs, by omega, by go_num, owns_gr Hown.out ((Gr.refl _).alloc _), by omega, fun j nd hj hnd hl => by
                rcases Nat.lt_or_ge j k with h | h
                · exact HALL.out j nd h hnd hl
                · have e : j = k := by omega
                  subst e
                  rw [HND.out] at hnd
                  cases hnd
                  exact HIN.out, HWF.out, HGR.out.alloc _⟩
            case measure => simp [intOf]; omega
          | false =>
            simp only [hin] at HCT
            clear hin
            go_wp2_with (first
              | (go_at_call 18; refine (HCT.out _ ((Gr.refl _).alloc _)).mono ?_; rintro e w8 ⟨rfl, hw8⟩; subst w8)
              | (at_builtin; (refine wpList_append_lies _ rfl _ _ _ rfl w7.heap.size 3 i0 _ 1 8 Try.underlying32 hi hi1 hi2 hi3 rfl (by decide) _ zs.length (ints zs) (by rfl) (owns_gr Hown.out (by exact ((Gr.refl _).alloc _).alloc _)) ⟨_, 0, none⟩ 1 1 [.int .i64 bo] (by rfl) (by rfl) (World.news_of_block (cs := #[.int .i64 bo]) (heapC _ _ _)) (by simp [Value.oneCell']) (by omega) (by unfold maxLen; omega) (by omega) (by simp; omega) _ rfl ?_); intro g cap' w9 hown2 hgrow hat hlt2
                 have hg9 : Gr w7 w9 := ((HGR.out.alloc _).alloc _).by_ hgrow (fun x hx => (owns_lt Hown.out hx).1)
                 have HE : Hid _ := And.intro hown2 hg9
                 clear hown2 hgrow hat hlt2 hg9))
            go_roundw
            case rel =>
              refine ⟨k + 1, zs ++ [bo], by omega, by go_num, ?_, by simp; omega, fun j nd hj hnd hl => ?_, fun z hz => ?_, HE.out.2⟩
              · rw [ints_appL, List.length_append]; exact HE.out.1
              · rcases Nat.lt_or_ge j k with h | h
                · exact List.mem_append_left _ (HALL.out j nd h hnd hl)
                · have e : j = k := by omega
                  subst e
                  rw [HND.out] at hnd
                  cases hnd
                  simp
              · rcases List.mem_append.1 hz with h | h
                · exact HWF.out z h
                · rw [List.mem_singleton.1 h]; exact HNO.out.bound
            case measure => simp [intOf]; omega
      · have hk' : k = nodes.length := by omega
        have hall2 : ∀ nd ∈ nodes, nd.leaf = false → nd.bound ∈ zs := fun nd hm hl => by
          obtain ⟨j, hj⟩ := List.getElem?_of_mem hm
          exact hall j nd (by have := (List.getElem?_eq_some_iff.1 hj).1; omega) hj hl
        go_wp2_with fail
        go_meet
        case rel => exact ⟨zs, za, zcap, rfl, hzc, by omega, HZA.out, HWF.out, hall2, HGR.out⟩
  case rest =>
    obtain ⟨zs, za, zcap, rfl, hzc, hz8, hz, hwf, hall2, hgx⟩ := hcut
    rename_i K hK
    exact hK _ _ (optLess_mid (HF5'.out.gr hgx) ((hgx.block _ (Array.getElem?_eq_some_iff.1 K5'.out).1).trans K5'.out) HN5.out hG5.out (HF6'.out.gr hgx) ((hgx.block _ (Array.getElem?_eq_some_iff.1 K6'.out).1).trans K6'.out) hG6.out hz hwf hz8 hzc (fun K hk t => HD6.out zs (fun nd hm hl => hall2 nd (by rw [← HXN.out]; exact hm) hl) K hk t) ((HG1.out.trans G17.out).trans hgx) _ rfl)

theorem optLess_own : ownKnob Try.prog.godebug = none := by kernel_rfl
theorem optLess_laidOut : laidOutB Try.prog = true := by kernel_rfl
theorem optLess_rec : ∀ t ∈ Try.f5.params.toList, Try.prog.readableRec t = true ∧ t < Try.prog.types.size := by
  rw [Try.params5]
  intro t ht
  simp only [List.mem_cons, List.not_mem_nil, or_false] at ht
  rcases ht with rfl | rfl
  all_goals exact ⟨by kernel_rfl, of_decide_eq_true (by kernel_rfl)⟩
set_option maxRecDepth 100000 in
theorem optLess_lifted (os : Os) (started : os.Started) (H : Type) (enc : TypeId × Value → H) :
    ReturnsInHanded {} Try.checked os 5 .any (Rows.optLessSpec.pre6 enc Try.prog Try.f5 Rows.optLessRow.domain false) (Rows.optLessSpec.post enc Try.prog Try.f5 false true false false) := by
  refine returnsInHanded_of_change_sized (C := Try.checked) optLess_own started (by kernel_rfl) Try.func5
    (ChangeSpec.witness6 (enc := enc) (C := Try.checked) false ⟨#[], #[.slice none 0 0, .int .i64 0], []⟩ 8 (by kernel_rfl) (by kernel_rfl) (by kernel_rfl) (by kernel_rfl)) ?_
  intro W base args ds gs before hval0 hW hcnd hsz0 _
  have hval : ∀ (j : Nat) t v, Try.f5.params[j]? = some t → args[j]? = some v → Value.okWide Try.prog W .any base t v := hval0
  have hW' := hW
  obtain ⟨p, q, hA0, hV, rfl, hfz, hnd⟩ := hW
  have hA : DataW.TrodAll enc Try.prog W 0 (fun _ => true) true Try.f5.params.toList args.toList ds p := hA0
  have hAk := hA
  have hsz : (DataW.weightsEach Try.prog (Try.f5.params.toList ++ Rows.optLessSpec.plain.varTypes Try.prog) (ds ++ gs)).all (· ≤ reachBytes) = true := hsz0
  rw [Try.params5] at hA hval hsz
  obtain ⟨v0, vs0, d0, ds0, p0, q0, hargs, rfl, rfl, h0, r0⟩ := trodAll_cons hA
  obtain ⟨v1, vs1, d1, ds1, p1, q1, rfl, rfl, rfl, h1, r1⟩ := trodAll_cons r0
  obtain ⟨rfl, rfl, rfl⟩ := trodAll_nil r1
  obtain rfl : args = #[v0, v1] := by cases args; simp_all
  obtain ⟨rfl, rfl⟩ := trodVars_none hV
  obtain ⟨x0, rfl, f0⟩ := open_raws (hval 0 42 v0 rfl rfl) h0
  obtain ⟨x1, rfl, _, _, f1⟩ := open_int Try.underlying3 (hval 1 3 v1 rfl rfl) h1
  clear hA0 hval0 hsz0
  refine (optLess_walk x0 x1 W f0 f1).mono fun e W' ⟨he, hg⟩ => ?_
  subst he
  refine ⟨_, rfl, _, _, _, [], _, [], hW', ?_, gr_trodAll optLess_laidOut hg optLess_rec hAk (fun x hx => hW'.lt x (List.mem_append_left _ hx)) (fun x hx => by simpa using hW'.lt x (List.mem_append_left _ hx)), ?_, hg.frame _, fun h => by cases h⟩
  · exact trodAll_cons_mk (shut_bool Try.underlying4 _) trodAll_mk0
  · rfl

theorem optLess_holds : Rows.OptLessSaid :=
  OpenClaim.holds_of_wide 5 Try.f5 rfl rfl rfl rfl rfl rfl rfl ⟨rfl, rfl, rfl, rfl, rfl⟩ rfl rfl rfl rfl rfl (by kernel_rfl) Try.func5 (by kernel_rfl)
    (of_decide_eq_true (by kernel_rfl)) (by unfold Func.isWrapper; first | (rw [if_pos (by decide +kernel)]; kernel_rfl) | (rw [if_neg (by decide +kernel)]; exact ⟨rfl, rfl⟩))
    (fun os started H enc _ => optLess_lifted os started H enc)
#print axioms optLess_holds
end Go.Proofs.Ythlahmabcbbhjaa
