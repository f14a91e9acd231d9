/- Contract: CodeOf (P5.8), by the document. -/
import Derived.Test.YtoolimfdadpmpaaDoorPrsQ
import Derived.Deep.RegionHeld3
import Derived.Deep.RegionLaw
namespace Go.Proofs.YtoolimfdadpmpaaDoor
open Go.ChangeShapes Go.WideShapes Go.ChangeAt Go.RowKit
set_option linter.unusedVariables false
theorem run_opnF (vs : Array Value) (w : World) : (callFunc 16 vs).run Tryd.prog w = .ok (.enter 16 vs) w := by
  have h1 : (Tryd.f16.name == "runtime.NumGoroutine") = false := by kernel_rfl
  have h2 : Tryd.f16.body.isNone = false := by kernel_rfl
  have h1' : ¬ Tryd.f16.name = "runtime.NumGoroutine" := by simpa using h1
  have h2' : ¬ Tryd.f16.body = none := by intro h; rw [h] at h2; cases h2
  simp [callFunc, go_sem, Tryd.func16, h1', h2']
structure CofL (W wr : World) (R : Except (Int × Int) (List Ins)) (P : List (List UInt8)) (L : List Ins) (v : Value) : Prop where
  res : R = Prs.more L (Prs.res (P.drop L.length) L.length)
  own : wr.ownsRow W.heap.size 36 2 v L.length (insC L)
  lt : L.length < P.length
  gr : Gr W wr
theorem cof_many {R : Except (Int × Int) (List Ins)} {P : List (List UInt8)} {L : List Ins} {t : List UInt8} {r : List (List UInt8)} (hd : P.drop L.length = t :: r) (hr : r ≠ []) (hk : 8000 ≤ L.length) (h : R = Prs.more L (Prs.res (P.drop L.length) L.length)) : R = .error ((L.length : Int) + 1, 1) := by
  rw [h, hd, Prs.res_many hr hk]; rfl
theorem cof_bad {R : Except (Int × Int) (List Ins)} {P : List (List UInt8)} {L : List Ins} {t : List UInt8} {r : List (List UInt8)} (hd : P.drop L.length = t :: r) (hr : r ≠ []) (hk : ¬ 8000 ≤ L.length) {e : Int} (hi : Prs.ins t = .error e) (h : R = Prs.more L (Prs.res (P.drop L.length) L.length)) : R = .error ((L.length : Int) + 1, e) := by
  rw [h, hd, Prs.res_bad hr hk hi]; rfl
theorem cof_on {R : Except (Int × Int) (List Ins)} {P : List (List UInt8)} {L : List Ins} {t : List UInt8} {r : List (List UInt8)} (hd : P.drop L.length = t :: r) (hr : r ≠ []) (hk : ¬ 8000 ≤ L.length) {x : Ins} (hi : Prs.ins t = .ok x) (h : R = Prs.more L (Prs.res (P.drop L.length) L.length)) : R = Prs.more (L ++ [x]) (Prs.res (P.drop (L ++ [x]).length) (L ++ [x]).length) := by
  have e : P.drop (L ++ [x]).length = r := by
    rw [List.length_append, List.length_singleton, ← List.drop_drop, hd]; rfl
  rw [e, h, hd, Prs.res_on hr hk hi, Prs.more_more]
  simp
theorem cof_short {R : Except (Int × Int) (List Ins)} {P : List (List UInt8)} {L : List Ins} {t : List UInt8} (hd : P.drop L.length = [t]) (ht : t ≠ []) (h : R = Prs.more L (Prs.res (P.drop L.length) L.length)) : R = .error ((L.length : Int) + 1, 5) := by
  rw [h, hd, Prs.res_last ht]; rfl
theorem cof_ok {R : Except (Int × Int) (List Ins)} {P : List (List UInt8)} {L : List Ins} (hd : P.drop L.length = [[]]) (h : R = Prs.more L (Prs.res (P.drop L.length) L.length)) : R = .ok L := by
  rw [h, hd, Prs.res_end]; simp [Prs.more]
theorem drop_two {P : List (List UInt8)} {k : Nat} (h : k + 1 < P.length) : ∃ t r, P.drop k = t :: r ∧ r ≠ [] ∧ P[k]? = some t := by
  refine ⟨P[k], P.drop (k + 1), List.drop_eq_getElem_cons (by omega), ?_, List.getElem?_eq_getElem (by omega)⟩
  exact List.ne_nil_of_length_pos (by rw [List.length_drop]; omega)
theorem drop_one {P : List (List UInt8)} {k : Nat} (h : k + 1 = P.length) : ∃ t, P.drop k = [t] ∧ P[k]? = some t := by
  refine ⟨P[k], ?_, List.getElem?_eq_getElem (by omega)⟩
  rw [List.drop_eq_getElem_cons (by omega), List.drop_of_length_le (by omega)]
set_option maxRecDepth 8000 in
set_option maxHeartbeats 6400000 in
theorem codeOf_any (s : ByteArray) (w : World) (hS : s.size ≤ 9223372036854775807) :
    Calls Tryd.prog 8 #[.string s] w (PrsPost w (Prs.parse s.data.toList)) := by
  have hsz := Prs.size_l s
  by_cases hl : 200000 < s.size
  · have E1 : Hid (Prs.parse s.data.toList = .error (0, 1)) := if_pos (by rw [hsz]; exact hl)
    have g : decide (200000 < ((s.size : Nat) : Int)) = true := by rw [decide_eq_true_iff]; omega
    go_enter Tryd.func8, Tryd.ntmps8
    go_wp2
    refine bodyPost_ret (v := .tuple #[.slice none 0 0, .int .i64 0, .int .i64 1]) (by simp [results, Tryd.results8, go_sem]) rfl ⟨Or.inl ⟨0, 1, E1.out, rfl⟩, Gr.refl _⟩
  · have g : decide (200000 < ((s.size : Nat) : Int)) = false := by rw [decide_eq_false_iff_not]; omega
    have EP : Hid (Prs.parse s.data.toList = Prs.res (Prs.parts 10 s.data.toList) 0) := if_neg (by rw [hsz]; exact hl)
    by_cases h0 : s.size = 0
    · have hse : s = ⟨#[]⟩ := by
        obtain ⟨a⟩ := s
        have : a.size = 0 := h0
        rw [Array.eq_empty_of_size_eq_zero this]
      subst hse
      have E1 : Hid (Prs.parse (⟨#[]⟩ : ByteArray).data.toList = .ok []) := EP.out
      clear EP
      go_enter Tryd.func8, Tryd.ntmps8
      go_wp2
      refine bodyPost_ret (v := .tuple #[.slice none 0 0, .int .i64 0, .int .i64 0]) (by simp [results, Tryd.results8, go_sem]) rfl ⟨Or.inr ⟨[], none, 0, E1.out, rfl, ⟨Nat.zero_le _, fun i x hx => by simp at hx⟩⟩, Gr.refl _⟩
    · have hne : (s.data.toList == []) = false := by
        cases h : s.data.toList with
        | nil => rw [h] at hsz; simp at hsz; omega
        | cons a b => rfl
      have hne2 : s.toList.isEmpty = false := by
        rw [ByteArray.toList_eq]
        cases h : s.data.toList with
        | nil => rw [h] at hsz; simp at hsz; omega
        | cons a b => rfl
      have hne3 : ¬ s.toList = [] := by
        rw [ByteArray.toList_eq]
        intro h
        rw [h] at hsz; simp at hsz; omega
      have HPA : Hid _ := fun (_ : Unit) => parted_any s 10 10 w rfl (by omega)
      have hP0 := List.length_pos_iff.2 (Prs.parts_ne 10 s.data.toList)
      have hPL := Prs.parts_len 10 s.data.toList
      have HPM : Hid _ := Prs.parts_mem 10 s.data.toList
      rw [hsz] at hPL HPM
      obtain ⟨P, hP⟩ : ∃ P, Prs.parts 10 s.data.toList = P := ⟨_, rfl⟩
      rw [hP] at EP HPA hP0 hPL HPM
      obtain ⟨R, hR⟩ : ∃ R, Prs.parse s.data.toList = R := ⟨_, rfl⟩
      rw [hR] at EP ⊢
      clear hP hR
      obtain ⟨i0, hi, hi1, hi2, hi3⟩ := Tryd.infoIns
      go_enter Tryd.func8, Tryd.ntmps8
      go_upto_region 7 with (go_at_call 20; refine (HPA.out ()).mono ?_; rintro e W ⟨⟨pa, pcap, rfl, hPA⟩, hgW⟩)
      have A0 : Hid (CofL W W R P [] (.slice none 0 0)) := ⟨by rw [Prs.more_nil]; exact EP.out, ⟨by simp [insC], Or.inl ⟨rfl, rfl⟩⟩, hP0, Gr.refl _⟩
      clear HPA EP hne hne2 hne3
      go_wp2_with fail
      go_loopw [7, 5] (fun i v wr => ∃ L : List Ins, i = .int .i64 L.length ∧ CofL W wr R P L v) (fun i _ _ => P.length - (intOf i).toNat)
      case atStart => exact ⟨[], rfl, A0.out⟩
      case round =>
        obtain ⟨wo, hwo⟩ : ∃ x, x = wr := ⟨_, rfl⟩
        subst hwo
        obtain ⟨L, rfl, hrl⟩ := hrel
        obtain ⟨va, vcap, hv⟩ := owns_formK hrl.own
        subst hv
        have HR : Hid _ := hrl
        have hL := hrl.lt
        have hws := hrl.gr.size
        have hPw := hPA.gr hrl.gr
        clear A0 hrl
        by_cases hlt : L.length + 1 < P.length
        · obtain ⟨t, r, hd, hr, ht⟩ := drop_two hlt
          have g1 : decide ((L.length : Int) + 1 < ((P.length : Nat) : Int)) = true := by rw [decide_eq_true_iff]; omega
          by_cases hk : 8000 ≤ L.length
          · have HE0 : Hid _ := cof_many hd hr hk HR.out.res
            have g2 : decide (8000 ≤ (L.length : Int)) = true := by rw [decide_eq_true_iff]; omega
            clear hd hr ht
            go_wp2
            refine bodyPost_ret (v := .tuple #[.slice none 0 0, .int .i64 ((L.length : Int) + 1), .int .i64 1]) (by simp [results, Tryd.results8, go_sem]) rfl ⟨Or.inl ⟨_, _, HE0.out, rfl⟩, hgW.trans HR.out.gr⟩
          · have g2 : decide (8000 ≤ (L.length : Int)) = false := by rw [decide_eq_false_iff_not]; omega
            have HBA : Hid _ := fun (e : Int) (hi : Prs.ins t = .error e) => cof_bad hd hr hk hi HR.out.res
            have HON : Hid _ := fun (x : Ins) (hi : Prs.ins t = .ok x) => cof_on hd hr hk hi HR.out.res
            obtain ⟨pb, rfl, hpb, hpc⟩ := hPw.cell L.length t ht
            have htl := HPM.out t (List.mem_of_getElem? ht)
            have HQA : Hid _ := fun W' => parted_any ⟨t.toArray⟩ 32 32 W' rfl (by rw [size_mk]; omega)
            have hQ0 := Prs.parts_ne 32 t
            have HQM : Hid _ := Prs.parts_mem 32 t
            have hti : Prs.ins t = match Prs.parts 32 t with | [] => .error 3 | w :: r => Prs.insW (Prs.opOf w) r := rfl
            obtain ⟨Q, hQ⟩ : ∃ Q, Prs.parts 32 t = Q := ⟨_, rfl⟩
            have hQA : ∀ W', Calls Tryd.prog 20 #[.string ⟨t.toArray⟩, .int .u8 32] W' fun e w' => (∃ a cap, e = .returned (.slice a Q.length cap) ∧ StrsAt w' a Q) ∧ Gr W' w' := by rw [← hQ]; exact HQA.out
            rw [hQ] at hQ0 HQM hti
            clear hQ HQA hd hr ht
            obtain ⟨w0, Qr, rfl⟩ : ∃ a b, Q = a :: b := by
              cases Q with
              | nil => exact absurd rfl hQ0
              | cons a b => exact ⟨a, b, rfl⟩
            have hO6 := Prs.opOf_in w0
            have HNM : Hid _ := fun (op : Int) (h1 : 1 ≤ op) (h2 : op ≤ 6) => Prs.opOf_nm (w := w0) h1 h2
            obtain ⟨O, hO⟩ : ∃ O, Prs.opOf w0 = O := ⟨_, rfl⟩
            simp only [hO] at HNM hti hO6
            have HTI : Hid _ := hti
            have HQL : Hid _ := hQA
            clear hO hti hQA hQ0
            go_upto_region 13 with (go_at_call 20; refine (HQL.out _).mono ?_; rintro e w2 ⟨⟨qa, qcap, rfl, hQS⟩, hg2⟩)
            have G2 : Gr W w2 := HR.out.gr.trans hg2
            have HOW : Hid _ := fun (_ : Unit) => owns_gr HR.out.own hg2
            have hz2 := G2.size
            obtain ⟨qb, rfl, hqb, hq0⟩ := hQS.cell 0 w0 rfl
            clear HQL hPw hpb hpc hg2 hws
            go_wp2_with fail
            go_loopw [10, 9] (fun jv ov wr => ∃ (j : Nat) (o : Int), 1 ≤ j ∧ j ≤ 7 ∧ jv = .int .i64 j ∧ ov = .int .i64 o ∧ ((O < j ∧ o = O) ∨ ((j : Int) ≤ O ∧ o = 0)) ∧ Gr w2 wr) (fun jv _ _ => 7 - (intOf jv).toNat)
            case atStart => exact ⟨1, 0, by omega, by omega, rfl, rfl, by omega, Gr.refl _⟩
            case round =>
              obtain ⟨j, o, hj1, hj7, rfl, rfl, hjo, hG3⟩ := hrel
              by_cases hj6 : j ≤ 6
              · have g3 : decide ((j : Int) ≤ 6) = true := by rw [decide_eq_true_iff]; omega
                have hnm := HNM.out j (by omega) (by omega)
                have HOP : Hid _ := fun W' => opNameOf_any j W' (by omega) (by omega)
                have c0 := (hG3.cell qb 0 hqb).trans hq0
                have hqw := Nat.lt_of_lt_of_le hqb hG3.size
                have hb : (Txl.nm j == w0) = decide (O = j) := by
                  by_cases e : O = j
                  · have := hnm.2 e
                    rw [this]; simp [e]
                  · have : ¬ Txl.nm j = w0 := fun h => e (hnm.1 h.symm)
                    simp [this, e]
                clear hnm
                go_upto_region 17 with fail
                go_region_law (refine step_callD (vs := #[.int .i64 j]) run_opnF (by first | (simp [Act.eval]; done) | (simp [Act.eval, Act.put]; done)) (HOP.out _) ?_; intro en w5 hpost5; obtain ⟨rfl, hg5⟩ := hpost5; refine ⟨_, rfl, ?_⟩; have c5 := (hg5.cell qb 0 (by exact hqw)).trans (show _ = _ from c0))
                all_goals
                  have gE : Gr w2 w5 := (by first | exact hG3.trans hg5 | exact hG3.drew.trans hg5 | exact (hG3.drewN _).trans hg5)
                  clear hg5 c0 hb
                  by_cases e : O = j
                  · have g5 : decide (O = (j : Int)) = true := by simpa using e
                    have e' : Hid _ := e
                    clear e
                    go_wp2
                    go_roundw
                    case rel => exact ⟨j + 1, j, by omega, by omega, by go_num, rfl, by have := e'.out; omega, gE⟩
                    case measure => simp [intOf]; omega
                  · have g5 : decide (O = (j : Int)) = false := by simpa using e
                    go_wp2
                    go_roundw
                    case rel => exact ⟨j + 1, o, by omega, by omega, by go_num, rfl, by omega, gE⟩
                    case measure => simp [intOf]; omega
              · have g3 : decide ((j : Int) ≤ 6) = false := by rw [decide_eq_false_iff_not]; omega
                have ho : o = O := by omega
                subst ho
                obtain ⟨O, hOo⟩ : ∃ x, x = o := ⟨_, rfl⟩
                rw [← hOo] at HTI hO6 ⊢
                clear hOo hjo HNM
                by_cases hO0 : O = 0
                · subst hO0
                  have Hx : Hid _ := HBA.out 3 HTI.out
                  have G3 := G2.trans hG3
                  go_wp2
                  refine bodyPost_ret (v := .tuple #[.slice none 0 0, .int .i64 ((L.length : Int) + 1), .int .i64 3]) (by simp [results, Tryd.results8, go_sem]) rfl ⟨Or.inl ⟨_, _, Hx.out, rfl⟩, hgW.trans G3⟩
                · have g4 : (O == 0) = false := by simpa using hO0
                  go_upto_region 22 with fail
                  obtain ⟨W3, hW3⟩ : ∃ X, X = wr.alloc (Obj.cells #[.int .i64 O, .int .i64 0] 36) := ⟨_, rfl⟩
                  have gx : Gr wr W3 := by rw [hW3]; exact (Gr.refl _).alloc _
                  have kx : W3.heap[wr.heap.size]? = some (.cells #[.int .i64 O, .int .i64 0] 36) := by rw [hW3]; exact heapA _ _
                  rw [← hW3]
                  have G3 : Gr W W3 := (G2.trans hG3).trans gx
                  have hx3 := lt_of_someE kx
                  have hWx : W.heap.size ≤ wr.heap.size := (G2.trans hG3).size
                  have HO3 : Hid _ := fun (_ : Unit) => owns_gr (HOW.out ()) (hG3.trans gx)
                  have HOlt : Hid (∀ g, (Value.slice va L.length vcap).ownBlock = some g → g < wr.heap.size) := fun g hg => (owns_lt (owns_gr (HOW.out ()) hG3) hg).2
                  have HQ3 : Hid _ := hQS.gr (hG3.trans gx)
                  have KX : Hid _ := kx
                  clear hW3 hG3 gx G2 HOW hQS hq0 hqb kx g3 hj1 hj7 hj6 hz2
                  have hz3 := G3.size
                  cases hn : numbered O with
                  | false =>
                    cases Qr with
                    | cons q1 Qr =>
                      have Hx : Hid _ := HBA.out 4 (HTI.out.trans (Prs.insW_q hO0 hn (by simp)))
                      have g6 : ((((q1 :: Qr).length + 1 : Nat) : Int) != 1) = true := by simp; omega
                      go_wp2_with (go_at_call 15; refine (hasNo_any O _).mono ?_; rintro e w4 ⟨rfl, hw4⟩; subst w4; rw [hn])
                      refine bodyPost_ret (v := .tuple #[.slice none 0 0, .int .i64 ((L.length : Int) + 1), .int .i64 4]) (by simp [results, Tryd.results8, go_sem]) rfl ⟨Or.inl ⟨_, _, Hx.out, rfl⟩, hgW.trans G3⟩
                    | nil =>
                      have HI0 : Hid _ := HTI.out.trans (Prs.insW_p hO0 hn)
                      obtain ⟨cx, fx⟩ := row_all KX.out
                      clear HTI
                      go_upto_region 29 with (go_at_call 15; refine (hasNo_any O _).mono ?_; rintro e w4 ⟨rfl, hw4⟩; subst w4; rw [hn])
                      have Hx : Hid _ := HON.out ⟨O, 0⟩ HI0.out
                      go_wp2_with (at_builtin; (refine wpList_append_lies _ rfl _ _ _ rfl W.heap.size 36 i0 _ 2 16 Tryd.underlying22 hi hi1 hi2 hi3 rfl (by decide) _ L.length (insC L) (by rfl) (owns_gr (HO3.out ()) (by exact (Gr.refl _).alloc _)) ⟨_, 0, none⟩ 1 1 [.int .i64 O, .int .i64 0] (by rfl) (by rfl) (World.news_of_block (cs := #[.int .i64 O, .int .i64 0]) (heapA _ _)) (by simp [Value.oneCell']) (by omega) (by unfold maxLen; omega) (by omega) (by simp; omega) _ rfl ?_))
                      intro g cap' w5 hown5 hgrow hat hlt5
                      have hrow : ∀ x, (Value.slice va L.length vcap).ownBlock = some x → W.heap.size ≤ x := fun x hx => (owns_lt HR.out.own hx).1
                      have Hend : Hid _ := And.intro ((G3.alloc _).by_ hgrow hrow) hown5
                      clear hown5 hgrow hat hrow
                      go_wp2
                      go_roundw
                      case rel =>
                        refine ⟨L ++ [⟨O, 0⟩], by simp, Hx.out, ?_, by rw [List.length_append, List.length_singleton]; omega, Hend.out.1⟩
                        rw [insC_app, List.length_append, List.length_singleton]
                        exact Hend.out.2
                      case measure => simp [intOf]; omega
                  | true =>
                    by_cases hq1 : Qr.length = 1
                    · obtain ⟨d, rfl⟩ : ∃ d, Qr = [d] := List.length_eq_one_iff.1 hq1
                      obtain ⟨qb', hqe, hqb3, hc1⟩ := HQ3.out.cell 1 d rfl
                      cases hqe
                      have hdl := HQM.out d (by simp)
                      have HDE : Hid _ := fun W' => decimal_any ⟨d.toArray⟩ W' (by rw [size_mk]; omega)
                      have hnd : ∃ N, Prs.num d = N := ⟨_, rfl⟩
                      obtain ⟨N, hN⟩ := hnd
                      have HDE2 : ∀ W', Calls Tryd.prog 21 #[.string ⟨d.toArray⟩, .int .i64 8000] W' (DecTPost W' N) := by rw [← hN]; exact HDE.out
                      have HD3 : Hid _ := HDE2
                      clear HDE HDE2 hq1
                      go_upto_region 26 with (first | (go_at_call 15; refine (hasNo_any O _).mono ?_; rintro e w4 ⟨rfl, hw4⟩; subst w4; rw [hn]) | (go_at_call 21; refine (HD3.out _).mono ?_; rintro e w4 ⟨hpost, hw4⟩; subst w4; rcases hpost with ⟨n, hNn, rfl⟩ | ⟨hNn, x, hx0, rfl⟩))
                      · have HI0 : Hid _ := HTI.out.trans (Prs.insW_n hO0 hn (hN.trans hNn))
                        obtain ⟨cx, fx⟩ := row_all KX.out
                        clear HTI hN hNn
                        go_upto_region 29 with (go_at_call 15; refine (hasNo_any O _).mono ?_; rintro e w4 ⟨rfl, hw4⟩; subst w4; rw [hn])
                        obtain ⟨W4, hW4⟩ : ∃ X, X = W3.setCell ⟨wr.heap.size, 1, none⟩ (.int .i64 n) := ⟨_, rfl⟩
                        have kx4 : W4.heap[wr.heap.size]? = some (.cells #[.int .i64 O, .int .i64 n] 36) := by
                          rw [hW4]
                          have := heap_setCell_same W3 wr.heap.size 1 _ _ (.int .i64 n) KX.out
                          simpa using this
                        have G4 : Gr W W4 := by rw [hW4]; exact G3.setCell (by exact hWx) _
                        have HO4 : Hid _ := fun (_ : Unit) => (show W4.ownsRow W.heap.size 36 2 (.slice va L.length vcap) L.length (insC L) from owns_same (HO3.out ()) (fun g hg => by rw [hW4]; exact heap_setCell_other W3 ⟨wr.heap.size, 1, none⟩ g (.int .i64 n) (by have := HOlt.out g hg; simp; omega)))
                        rw [← hW4]
                        have hz4 := G4.size
                        clear hW4 cx fx G3 hz3 HO3
                        obtain ⟨cx, fx⟩ := row_all kx4
                        obtain ⟨G3, HO3⟩ : Gr W W4 ∧ Hid (Unit → W4.ownsRow W.heap.size 36 2 (.slice va L.length vcap) L.length (insC L)) := ⟨G4, HO4.out⟩
                        clear HO4 kx4
                        have Hx : Hid _ := HON.out ⟨O, (n : Int)⟩ HI0.out
                        go_wp2_with (at_builtin; (refine wpList_append_lies _ rfl _ _ _ rfl W.heap.size 36 i0 _ 2 16 Tryd.underlying22 hi hi1 hi2 hi3 rfl (by decide) _ L.length (insC L) (by rfl) (owns_gr (HO3.out ()) (by exact (Gr.refl _).alloc _)) ⟨_, 0, none⟩ 1 1 [.int .i64 O, .int .i64 n] (by rfl) (by rfl) (World.news_of_block (cs := #[.int .i64 O, .int .i64 n]) (heapA _ _)) (by simp [Value.oneCell']) (by omega) (by unfold maxLen; omega) (by omega) (by simp; omega) _ rfl ?_))
                        intro g cap' w5 hown5 hgrow hat hlt5
                        have hrow : ∀ x, (Value.slice va L.length vcap).ownBlock = some x → W.heap.size ≤ x := fun x hx => (owns_lt HR.out.own hx).1
                        have Hend : Hid _ := And.intro ((G3.alloc _).by_ hgrow hrow) hown5
                        clear hown5 hgrow hat hrow
                        go_wp2
                        go_roundw
                        case rel =>
                          refine ⟨L ++ [⟨O, (n : Int)⟩], by simp, Hx.out, ?_, by rw [List.length_append, List.length_singleton]; omega, Hend.out.1⟩
                          rw [insC_app, List.length_append, List.length_singleton]
                          exact Hend.out.2
                        case measure => simp [intOf]; omega
                      · have Hx : Hid _ := HBA.out 4 (HTI.out.trans (Prs.insW_m hO0 hn (hN.trans hNn)))
                        have g6 : (x != 0) = true := by simpa using hx0
                        go_wp2
                        refine bodyPost_ret (v := .tuple #[.slice none 0 0, .int .i64 ((L.length : Int) + 1), .int .i64 4]) (by simp [results, Tryd.results8, go_sem]) rfl ⟨Or.inl ⟨_, _, Hx.out, rfl⟩, hgW.trans G3⟩
                    · have Hx : Hid _ := HBA.out 4 (HTI.out.trans (Prs.insW_k hO0 hn hq1))
                      have g6 : (((Qr.length + 1 : Nat) : Int) != 2) = true := by simp; omega
                      have g7 : (((Qr.length : Nat) : Int) + 1 != 2) = true := by simp; omega
                      have h7 : ¬ ((Qr.length : Nat) : Int) + 1 = 2 := by omega
                      clear HTI hq1
                      go_wp2_with (go_at_call 15; refine (hasNo_any O _).mono ?_; rintro e w4 ⟨rfl, hw4⟩; subst w4; rw [hn])
                      refine bodyPost_ret (v := .tuple #[.slice none 0 0, .int .i64 ((L.length : Int) + 1), .int .i64 4]) (by simp [results, Tryd.results8, go_sem]) rfl ⟨Or.inl ⟨_, _, Hx.out, rfl⟩, hgW.trans G3⟩
        · have hPe : P.length = L.length + 1 := by omega
          obtain ⟨t, hd, ht⟩ := drop_one (P := P) (k := L.length) hPe.symm
          obtain ⟨pb, rfl, hpb, hpc⟩ := hPw.cell L.length t ht
          have HPE : Hid _ := hPe
          have g1 : decide ((L.length : Int) + 1 < (((L.length + 1 : Nat)) : Int)) = false := by rw [decide_eq_false_iff_not]; omega
          have e1 : (L.length : Int) + 1 - 1 = L.length := by omega
          rw [hPe]
          clear hPe hPw ht
          by_cases ht0 : t = []
          · subst ht0
            have Hx : Hid _ := cof_ok hd HR.out.res
            clear hd
            go_wp2
            refine bodyPost_ret (v := .tuple #[.slice va L.length vcap, .int .i64 0, .int .i64 0]) (by simp [results, Tryd.results8, go_sem]) rfl ⟨Or.inr ?_, hgW.trans HR.out.gr⟩
            obtain ⟨a', cap', e1, e2, e3⟩ := owns_inss HR.out.own
            cases e1
            exact ⟨L, va, vcap, Hx.out, rfl, e3⟩
          · have Hx : Hid _ := cof_short hd ht0 HR.out.res
            have g2 : (t == []) = false := by simpa using ht0
            clear hd
            go_wp2
            refine bodyPost_ret (v := .tuple #[.slice none 0 0, .int .i64 ((L.length : Int) + 1), .int .i64 5]) (by simp [results, Tryd.results8, go_sem]) rfl ⟨Or.inl ⟨_, _, Hx.out, rfl⟩, hgW.trans HR.out.gr⟩
end Go.Proofs.YtoolimfdadpmpaaDoor
