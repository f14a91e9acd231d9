/- Contract: programs in bytes (P5.5), by the document. -/
import Derived.Test.YtddamfnoggjkfaaDoorEncQ
import Derived.Test.YtddamfnoggjkfaaDoorVerR
namespace Go.Proofs.YtddamfnoggjkfaaDoor
open Go.ChangeShapes Go.WideShapes Go.ChangeAt Go.RowKit
set_option linter.unusedVariables false
theorem OwR.news {w : World} {B : Nat} {v : Value} {l : List Int} (h : OwR w B v l) (hl : 0 < l.length) : ∃ ad c, v = .slice (some ad) l.length c ∧ ∀ j u, (bys l)[j]? = some u → w.cell? (ad.add j) = some u := by
  rcases h.row.2 with ⟨_, hn⟩ | ⟨g, cap, cur, hv, _⟩
  · omega
  · exact ⟨⟨g, 0, none⟩, cap, hv, h.row.cells (by rw [hv]; rfl)⟩
theorem hasNumber_any (op : Int) (w : World) : Calls Tryd.prog 18 #[.int .i64 op] w fun e w' => e = .returned (.bool (numbered op)) ∧ w' = w := by
  by_cases h1 : op = 1
  · subst h1
    go_enter Tryd.func18, Tryd.ntmps18
    go_wp2
    go_ret
    exact ⟨rfl, rfl⟩
  · have g1 : (op != 1) = true := by simpa using h1
    by_cases h3 : op = 3
    · subst h3
      go_enter Tryd.func18, Tryd.ntmps18
      go_wp2
      go_ret
      exact ⟨rfl, rfl⟩
    · have g3 : (op != 3) = true := by simpa using h3
      go_enter Tryd.func18, Tryd.ntmps18
      go_wp2
      go_ret
      exact ⟨ret_bool (by simp [numbered, h1, h3]), rfl⟩
theorem own_head2 (w : World) : OwR (w.alloc (Obj.cells #[.int .u8 115, .int .u8 100, .int .u8 49] 5)) w.heap.size (.slice (some ⟨w.heap.size, 0, none⟩) 3 3) [115, 100, 49] :=
  ⟨rfl, Or.inr ⟨w.heap.size, 3, _, rfl, Nat.le_refl _, heapA _ _, Nat.le_refl _, by unfold maxLen; decide, rfl, rfl⟩⟩
theorem sev_true : Enc.sev (if true = true then 1 else 0) = [2] := by
  show Enc.sev 1 = [2]
  unfold Enc.sev
  rw [show Enc.zig 1 = 2 from rfl, Enc.sevN_lo (by decide)]
  rfl
theorem sev_false : Enc.sev (if false = true then 1 else 0) = [0] := by
  show Enc.sev 0 = [0]
  unfold Enc.sev
  rw [show Enc.zig 0 = 0 from rfl, Enc.sevN_lo (by decide)]
  rfl
set_option maxRecDepth 100000 in
set_option maxHeartbeats 3200000 in
theorem bytesOf_any (p : Prg) (w : World) (hp : PrgOk w p) :
    Calls Tryd.prog 7 #[.agg p.cells.toArray] w (EncPost p w) := by
  have HO : Hid _ := fun W (hW : PrgOk W p) => verifyOf_any p W hW
  obtain ⟨i0, hi, hi1, hi2, hi3⟩ := Tryd.infoByte
  have ec : p.cells = [.slice p.ca p.code.length p.ccap, .slice p.pa p.pool.length p.pcap, .slice p.aa p.answers.length p.acap] := rfl
  by_cases h0 : (Ver.verify p).2.2 = 0
  · obtain ⟨s, m, hv⟩ : ∃ s m, Ver.verify p = (s, m, 0) := ⟨(Ver.verify p).1, (Ver.verify p).2.1, by rw [← h0]⟩
    have hG := (Ver.ways_of hv).1
    have l1 := hG.clen
    have l2 := hG.plen
    have l3 := hG.alen
    have HOP : Hid (∀ x ∈ p.code, 1 ≤ x.op ∧ x.op ≤ 6) := fun x hx => by obtain ⟨i, hi⟩ := List.getElem?_of_mem hx; exact (hG.ins i x hi).1
    have HZL : Hid _ := fun (x : Ans) (hx : x ∈ p.answers) => Ver.ans_ok hv hx
    have HYES : Hid _ := fun (e : Ending) (w1 w' : World) (v : Value) => encPost_yes (p := p) (w := w) (w1 := w1) (w' := w') (e := e) (v := v) h0
    rw [hv] at HO
    have HP : Hid _ := hp
    clear h0 hv hG hp
    have wcl : (Lit.int .i64 (p.code.length : Int)).wf = true := Enc.wf_small (by omega) (by omega)
    have wpl : (Lit.int .i64 (p.pool.length : Int)).wf = true := Enc.wf_small (by omega) (by omega)
    have wal : (Lit.int .i64 (p.answers.length : Int)).wf = true := Enc.wf_small (by omega) (by omega)
    rw [ec] at HO ⊢
    go_enter Tryd.func7, Tryd.ntmps7
    go_upto_region 4 with (go_at_call 16; refine (HO.out _ (HP.out.gr (by exact (Gr.refl _).alloc _))).mono ?_; rintro e w1 ⟨rfl, hg1⟩; simp only [ret3])
    have gw1 : Gr w w1 := ((Gr.refl _).alloc _).trans hg1
    have k1 := (hg1.block w.heap.size (by simp)).trans (heapA w _)
    have K1 : Hid _ := k1
    have z1 : w.heap.size < w1.heap.size := by have := hg1.size; simp at this; omega
    have hP1 := HP.out.gr gw1
    have G0 : Gr w1 (w1.alloc (Obj.cells #[.int .u8 115, .int .u8 100, .int .u8 49] 5)) := (Gr.refl _).alloc _
    have A0 : Hid _ := own_head2 w1
    obtain ⟨cA, _⟩ := row_all ((G0.block w.heap.size z1).trans k1)
    clear hg1 k1 HO
    go_upto_region 6 with (first | (go_at_call 17; refine (sevens_any (p.code.length : Int) _ wcl).mono ?_; rintro e ws1 ⟨vs1, rfl, hgs1, hos1⟩; obtain ⟨as1, cs1, hv1, hn1⟩ := OwR.news hos1 (Enc.sev_pos _); subst hv1) | (at_builtin; (refine app_x rfl _ _ rfl w1.heap.size _ [115, 100, 49] (by rfl) (OwnX.gr (Or.inl A0.out) hgs1) as1 cs1 (Enc.sev (p.code.length : Int)) (by rfl) hn1 (Enc.sev_pos _) (by have := Enc.sev_len wcl; (try simp only [List.length_cons, List.length_nil]); omega) (Nat.le_trans G0.size hgs1.size) ?_; intro vt1 wt1 ho1 hap1)))
    have g1 := hap1.gr (G0.trans hgs1) (Nat.le_refl _)
    have A1 : Hid _ := ho1
    clear hap1 ho1 hn1 hos1 hgs1
    clear cA A0 G0
    go_wp2_with fail
    go_loopw [7, 8] (fun b i wr => ∃ k : Nat, k ≤ p.code.length ∧ i = .int .i64 k ∧ Gr w1 wr ∧ OwR wr w1.heap.size b ([115, 100, 49] ++ Enc.sev p.code.length ++ (p.code.take k).flatMap Enc.ins)) (fun _ i _ => p.code.length - (intOf i).toNat)
    case atStart => exact ⟨0, Nat.zero_le _, rfl, g1, by simpa using A1.out⟩
    case round =>
      obtain ⟨k, hk, rfl, hgr, hown⟩ := hrel
      have hml := Enc.code_len HP.out.cok k hk
      have s1 := Enc.sev_len wcl
      obtain ⟨L, hL⟩ : ∃ L, L = [115, 100, 49] ++ Enc.sev p.code.length ++ (p.code.take k).flatMap Enc.ins := ⟨_, rfl⟩
      have hlen : L.length ≤ 200000 := by rw [hL]; simp only [List.length_append, List.length_cons, List.length_nil]; omega
      rw [← hL] at hown
      obtain ⟨va, vcap, hv⟩ := OwnX.form (Or.inl hown)
      subst hv
      have HL : Hid _ := hL
      have HW : Hid _ := hown
      have zr : w1.heap.size ≤ wr.heap.size := hgr.size
      obtain ⟨cA, _⟩ := row_all ((hgr.block w.heap.size z1).trans K1.out)
      clear hL hown hml A1 g1 s1
      by_cases hlt : k < p.code.length
      · obtain ⟨x, hx⟩ : ∃ x, p.code[k]? = some x := ⟨_, List.getElem?_eq_getElem hlt⟩
        obtain ⟨b, o, hca, hb, hc1, hc2⟩ := hP1.cat.cell k x hx
        have wx := HP.out.cok x (List.mem_of_getElem? hx)
        obtain ⟨o1, o2⟩ := HOP.out x (List.mem_of_getElem? hx)
        obtain ⟨op, n⟩ := x
        have wn := wx.n
        have q0 := (hgr.cell b _ hb).trans hc1
        have q1 := (hgr.cell b _ hb).trans hc2
        simp only at o1 o2 q0 q1 wn
        have zb : b < wr.heap.size := Nat.lt_of_lt_of_le hb hgr.size
        have zb1 : b < w1.heap.size := hb
        have x3 : IntKind.u8.wrap op = op := by rw [IntKind.wrap_u8']; omega
        rw [hca] at cA
        have HCA : Hid _ := hca
        have Hx : Hid _ := hx
        clear hx wx hca
        go_upto_region 10 with (at_builtin; (refine app_x rfl _ _ rfl w1.heap.size _ L (by rfl) (OwnX.gr (Or.inl HW.out) (by exact (Gr.refl _).alloc _)) ⟨_, 0, none⟩ 1 [op] (by rfl) (World.news_of_block (cs := #[.int .u8 op]) (heapA _ _)) Nat.zero_lt_one (by simp only [List.length_singleton]; omega) (by simp; omega) ?_; intro v3 w3 ho3 hap3))
        have g3 := hap3.gr (hgr.alloc _) (Nat.le_refl _)
        have A3 : Hid _ := ho3
        obtain ⟨cB, _⟩ := row_all ((g3.block w.heap.size z1).trans K1.out)
        rw [HCA.out] at cB
        have r0 := (g3.cell b _ zb1).trans hc1
        have r1 := (g3.cell b _ zb1).trans hc2
        simp only at r0 r1
        clear hap3 ho3 cA q0 q1 hc1 hc2
        cases hnb : numbered op with
        | false =>
          have N0 : Hid _ := numbered_not hnb n
          go_wp2_with (go_at_call 18; refine (hasNumber_any op _).mono ?_; rintro e w4 ⟨rfl, hw4⟩; subst w4)
          go_wp2
          go_roundw
          case rel => exact ⟨k + 1, by omega, by go_num, g3, by rw [Enc.flat_take Hx.out, N0.out, ← List.append_assoc, ← HL.out]; exact A3.out⟩
          case measure => simp [intOf]; omega
        | true =>
          have N0 : Hid _ := numbered_yes hnb n
          have hl3 : (L ++ [op]).length ≤ 200001 := by simp only [List.length_append, List.length_singleton]; omega
          obtain ⟨L3, hL3⟩ : ∃ L3, L3 = L ++ [op] := ⟨_, rfl⟩
          rw [← hL3] at A3 hl3
          have HL3 : Hid _ := hL3
          clear hL3
          go_upto_region 11 with (go_at_call 18; refine (hasNumber_any op _).mono ?_; rintro e w4 ⟨rfl, hw4⟩; subst w4)
          go_wp2_with (first | (go_at_call 17; refine (sevens_any n _ wn).mono ?_; rintro e ws4 ⟨vs4, rfl, hgs4, hos4⟩; obtain ⟨as4, cs4, hv4, hn4⟩ := OwR.news hos4 (Enc.sev_pos _); subst hv4) | (at_builtin; (refine app_x rfl _ _ rfl w1.heap.size _ L3 (by rfl) (OwnX.gr (Or.inl A3.out) hgs4) as4 cs4 (Enc.sev n) (by rfl) hn4 (Enc.sev_pos _) (by have := Enc.sev_len wn; (try simp only [List.length_cons, List.length_nil]); omega) (Nat.le_trans g3.size hgs4.size) ?_; intro vt4 wt4 ho4 hap4)))
          have g4 := hap4.gr (g3.trans hgs4) (Nat.le_refl _)
          have A4 : Hid _ := ho4
          clear hap4 ho4 hn4 hos4 hgs4
          go_wp2
          go_roundw
          case rel => exact ⟨k + 1, by omega, by go_num, g4, by rw [Enc.flat_take Hx.out, N0.out, ← List.append_assoc, ← HL.out, ← List.append_assoc, ← HL3.out]; exact A4.out⟩
          case measure => simp [intOf]; omega
      · have hk' : k = p.code.length := by omega
        have hE : L = [115, 100, 49] ++ Enc.code p.code := by rw [HL.out, hk', List.take_length, Enc.code, List.append_assoc]
        have HE : Hid _ := hE
        clear HL hE
        go_upto_region 12 with fail
        go_upto_region 13 with (first | (go_at_call 17; refine (sevens_any (p.pool.length : Int) _ wpl).mono ?_; rintro e ws5 ⟨vs5, rfl, hgs5, hos5⟩; obtain ⟨as5, cs5, hv5, hn5⟩ := OwR.news hos5 (Enc.sev_pos _); subst hv5) | (at_builtin; (refine app_x rfl _ _ rfl w1.heap.size _ L (by rfl) (OwnX.gr (Or.inl HW.out) hgs5) as5 cs5 (Enc.sev (p.pool.length : Int)) (by rfl) hn5 (Enc.sev_pos _) (by have := Enc.sev_len wpl; omega) (Nat.le_trans hgr.size hgs5.size) ?_; intro vt5 wt5 ho5 hap5)))
        have g5 := hap5.gr (hgr.trans hgs5) (Nat.le_refl _)
        obtain ⟨L5, hL5⟩ : ∃ X, X = L ++ Enc.sev (p.pool.length : Int) := ⟨_, rfl⟩
        have bL5 : L5.length ≤ 210000 := by rw [hL5, List.length_append]; have := Enc.sev_len wpl; omega
        rw [← hL5] at ho5
        have A5 : Hid _ := ho5
        have HL5 : Hid _ := hL5
        clear hap5 ho5 hn5 hos5 hgs5 hL5
        clear cA
        go_wp2_with fail
        go_loopw [7, 9] (fun b i wx => ∃ k : Nat, k ≤ p.pool.length ∧ i = .int .i64 k ∧ Gr w1 wx ∧ OwR wx w1.heap.size b (L5 ++ (p.pool.take k).flatMap Enc.sev)) (fun _ i _ => p.pool.length - (intOf i).toNat)
        case atStart => exact ⟨0, Nat.zero_le _, rfl, g5, by simpa using A5.out⟩
        case round =>
          obtain ⟨k2, hk2, rfl, hgr2, hown2⟩ := hrel
          have hml := Enc.many_len HP.out.pok (by omega) k2 hk2
          obtain ⟨M, hM⟩ : ∃ M, M = L5 ++ (p.pool.take k2).flatMap Enc.sev := ⟨_, rfl⟩
          have hmlen : M.length ≤ 300000 := by rw [hM, List.length_append]; omega
          rw [← hM] at hown2
          obtain ⟨vb, vbcap, hv⟩ := OwnX.form (Or.inl hown2)
          subst hv
          have HM : Hid _ := hM
          have HW2 : Hid _ := hown2
          have zr2 : w1.heap.size ≤ _ := hgr2.size
          obtain ⟨cA, _⟩ := row_all ((hgr2.block w.heap.size z1).trans K1.out)
          clear hM hown2 hml A5 g5 HW hgr
          by_cases hlt2 : k2 < p.pool.length
          · obtain ⟨z, hz⟩ : ∃ z, p.pool[k2]? = some z := ⟨_, List.getElem?_eq_getElem hlt2⟩
            obtain ⟨b, o, hpa, hb, hc⟩ := hP1.pat.cell k2 z hz
            have wz := HP.out.pok z (List.mem_of_getElem? hz)
            have q0 := (hgr2.cell b _ hb).trans hc
            have zb := Nat.lt_of_lt_of_le hb hgr2.size
            rw [hpa] at cA
            have HPA : Hid _ := hpa
            have Hz : Hid _ := hz
            clear hz hpa hc
            go_wp2_with (first | (go_at_call 17; refine (sevens_any z _ wz).mono ?_; rintro e ws6 ⟨vs6, rfl, hgs6, hos6⟩; obtain ⟨as6, cs6, hv6, hn6⟩ := OwR.news hos6 (Enc.sev_pos _); subst hv6) | (at_builtin; (refine app_x rfl _ _ rfl w1.heap.size _ M (by rfl) (OwnX.gr (Or.inl HW2.out) hgs6) as6 cs6 (Enc.sev z) (by rfl) hn6 (Enc.sev_pos _) (by have := Enc.sev_len wz; omega) (Nat.le_trans hgr2.size hgs6.size) ?_; intro vt6 wt6 ho6 hap6)))
            have g6 := hap6.gr (hgr2.trans hgs6) (Nat.le_refl _)
            have A6 : Hid _ := ho6
            clear hap6 ho6 hn6 hos6 hgs6
            go_wp2
            go_roundw
            case rel => exact ⟨k2 + 1, by omega, by go_num, g6, by rw [Enc.flat_take Hz.out, ← List.append_assoc, ← HM.out]; exact A6.out⟩
            case measure => simp [intOf]; omega
          · have hk2' : k2 = p.pool.length := by omega
            have HE2 : Hid (M = [115, 100, 49] ++ Enc.code p.code ++ Enc.many p.pool) := by show M = _; rw [HM.out, hk2', List.take_length, HL5.out, HE.out, Enc.many]; simp only [List.append_assoc]
            clear HM HL5 HE
            go_upto_region 17 with fail
            go_upto_region 18 with (first | (go_at_call 17; refine (sevens_any (p.answers.length : Int) _ wal).mono ?_; rintro e ws7 ⟨vs7, rfl, hgs7, hos7⟩; obtain ⟨as7, cs7, hv7, hn7⟩ := OwR.news hos7 (Enc.sev_pos _); subst hv7) | (at_builtin; (refine app_x rfl _ _ rfl w1.heap.size _ M (by rfl) (OwnX.gr (Or.inl HW2.out) hgs7) as7 cs7 (Enc.sev (p.answers.length : Int)) (by rfl) hn7 (Enc.sev_pos _) (by have := Enc.sev_len wal; omega) (Nat.le_trans hgr2.size hgs7.size) ?_; intro vt7 wt7 ho7 hap7)))
            have g7 := hap7.gr (hgr2.trans hgs7) (Nat.le_refl _)
            obtain ⟨L7, hL7⟩ : ∃ X, X = M ++ Enc.sev (p.answers.length : Int) := ⟨_, rfl⟩
            have bL7 : L7.length ≤ 310000 := by rw [hL7, List.length_append]; have := Enc.sev_len wal; omega
            rw [← hL7] at ho7
            have A7 : Hid _ := ho7
            have HL7 : Hid _ := hL7
            clear hap7 ho7 hn7 hos7 hgs7 hL7
            clear cA
            have HPE : Hid (Enc.prog p = L7 ++ p.answers.flatMap Enc.answer) := by show Enc.prog p = _; rw [HL7.out, HE2.out]; rfl
            clear HE2 HL7 HW2
            go_wp2_with fail
            go_loopw [7, 10] (fun b i wy => ∃ k : Nat, k ≤ p.answers.length ∧ i = .int .i64 k ∧ Gr w1 wy ∧ OwR wy w1.heap.size b (L7 ++ (p.answers.take k).flatMap Enc.answer)) (fun _ i _ => p.answers.length - (intOf i).toNat)
            case atStart => exact ⟨0, Nat.zero_le _, rfl, g7, by simpa using A7.out⟩
            case round =>
              obtain ⟨k3, hk3, rfl, hgr3, hown3⟩ := hrel
              have hml : ((p.answers.take k3).flatMap Enc.answer).length ≤ k3 * 140 := by
                have := Enc.flat_len (f := Enc.answer) (c := 140) (l := p.answers.take k3) fun x hx => Enc.answer_len (HP.out.aok x (List.mem_of_mem_take hx)) (HZL.out x (List.mem_of_mem_take hx)).1 (HZL.out x (List.mem_of_mem_take hx)).2
                rw [List.length_take, Nat.min_eq_left hk3] at this
                exact this
              obtain ⟨Y, hY⟩ : ∃ Y, Y = L7 ++ (p.answers.take k3).flatMap Enc.answer := ⟨_, rfl⟩
              have hylen : Y.length ≤ 1000000 := by rw [hY, List.length_append]; omega
              rw [← hY] at hown3
              obtain ⟨vd, vdcap, hv⟩ := OwnX.form (Or.inl hown3)
              subst hv
              have HY : Hid _ := hY
              have HW3 : Hid _ := hown3
              have zr3 : w1.heap.size ≤ _ := hgr3.size
              obtain ⟨cA, _⟩ := row_all ((hgr3.block w.heap.size z1).trans K1.out)
              clear hY hown3 hml A7 g7
              by_cases hlt3 : k3 < p.answers.length
              · obtain ⟨x, hx⟩ : ∃ x, p.answers[k3]? = some x := ⟨_, List.getElem?_eq_getElem hlt3⟩
                obtain ⟨b, o, haa, hb, hc⟩ := hP1.aat.cell k3 x hx
                have ho := hP1.aok x (List.mem_of_getElem? hx)
                obtain ⟨f1, f2⟩ := HZL.out x (List.mem_of_getElem? hx)
                obtain ⟨q0, q1, q2, q3, q4⟩ := hc.gr hb hgr3
                have zb := Nat.lt_of_lt_of_le hb hgr3.size
                rw [haa] at cA
                have Hx : Hid _ := hx
                have HAA : Hid _ := haa
                obtain ⟨off, sv, nm, a, cap, zs, jump⟩ := x
                simp [Ans.cells] at q0 q1 q2 q3 q4
                have woff := ho.off
                have wjmp := ho.jump
                have wzs := ho.wz
                have hzs := ho.zs
                simp only at f1 f2 woff wjmp wzs hzs
                have wnm : (Lit.int .i64 (nm.size : Int)).wf = true := Enc.wf_small (by omega) (by omega)
                have wzl : (Lit.int .i64 (zs.length : Int)).wf = true := Enc.wf_small (by omega) (by omega)
                clear hx haa hc ho
                cases sv with
                | true =>
                  go_upto_region 22 with fail
                  obtain ⟨WA, hWA⟩ : ∃ WA, WA = wr.alloc (Obj.cells #[Value.int .i64 off, Value.bool true, Value.string nm, Value.slice a zs.length cap, Value.int .i64 jump] 44) := ⟨_, rfl⟩
                  have gA : Gr w1 WA := by rw [hWA]; exact hgr3.alloc _
                  have AA : Hid _ := HW3.out.gr (show Gr wr WA by rw [hWA]; exact (Gr.refl _).alloc _)
                  have KB0 : Hid (WA.heap[wr.heap.size]? = some (Obj.cells #[Value.int .i64 off, Value.bool true, Value.string nm, Value.slice a zs.length cap, Value.int .i64 jump] 44)) := by show WA.heap[wr.heap.size]? = _; rw [hWA]; exact heapA _ _
                  obtain ⟨cx0, _⟩ := row_all KB0.out
                  rw [← hWA]
                  clear hWA cA q0 q1 q2 q3 q4
                  go_upto_region 23 with (first | (go_at_call 17; refine (sevens_any off _ woff).mono ?_; rintro e ws8 ⟨vs8, rfl, hgs8, hos8⟩; obtain ⟨as8, cs8, hv8, hn8⟩ := OwR.news hos8 (Enc.sev_pos _); subst hv8) | (at_builtin; (refine app_x rfl _ _ rfl w1.heap.size _ Y (by rfl) (OwnX.gr (Or.inl AA.out) hgs8) as8 cs8 (Enc.sev off) (by rfl) hn8 (Enc.sev_pos _) (by have := Enc.sev_len woff; omega) (Nat.le_trans gA.size hgs8.size) ?_; intro vt8 wt8 ho8 hap8)))
                  have g8 := hap8.gr (gA.trans hgs8) (Nat.le_refl _)
                  have KB8 : Hid _ := hap8.row ((hgs8.block _ (lt_of_someE KB0.out)).trans KB0.out) (by decide)
                  obtain ⟨cx8, _⟩ := row_all KB8.out
                  obtain ⟨L8, hL8⟩ : ∃ X, X = Y ++ Enc.sev off := ⟨_, rfl⟩
                  have bL8 : L8.length ≤ 1000020 := by rw [hL8, List.length_append]; have := Enc.sev_len woff; omega
                  rw [← hL8] at ho8
                  have A8 : Hid _ := ho8
                  have HL8 : Hid _ := hL8
                  clear hap8 ho8 hn8 hos8 hgs8 hL8
                  clear cx0
                  go_upto_region 26 with (at_builtin; (refine app_x rfl _ _ rfl w1.heap.size _ L8 (by rfl) (OwnX.gr (Or.inl A8.out) (by exact (Gr.refl _).alloc _)) ⟨_, 0, none⟩ 1 [2] (by rfl) (World.news_of_block (cs := #[.int .u8 2]) (heapA _ _)) Nat.zero_lt_one (by simp only [List.length_singleton]; omega) (by have := g8.size; simp; omega) ?_; intro v9 w9 ho9 hap9))
                  have g9 := hap9.gr (g8.alloc _) (Nat.le_refl _)
                  have KB9 : Hid _ := hap9.row ((Below.heap_alloc _ _ _ (lt_of_someE KB8.out)).trans KB8.out) (by decide)
                  obtain ⟨cx9, _⟩ := row_all KB9.out
                  obtain ⟨L9, hL9⟩ : ∃ X, X = L8 ++ [2] := ⟨_, rfl⟩
                  have bL9 : L9.length ≤ 1000030 := by rw [hL9, List.length_append]; rw [List.length_singleton]; omega
                  rw [← hL9] at ho9
                  have A9 : Hid _ := ho9
                  have HL9 : Hid _ := hL9
                  clear hap9 ho9 hL9 cx8
                  go_upto_region 27 with (first | (go_at_call 17; refine (sevens_any (nm.size : Int) _ wnm).mono ?_; rintro e ws10 ⟨vs10, rfl, hgs10, hos10⟩; obtain ⟨as10, cs10, hv10, hn10⟩ := OwR.news hos10 (Enc.sev_pos _); subst hv10) | (at_builtin; (refine app_x rfl _ _ rfl w1.heap.size _ L9 (by rfl) (OwnX.gr (Or.inl A9.out) hgs10) as10 cs10 (Enc.sev (nm.size : Int)) (by rfl) hn10 (Enc.sev_pos _) (by have := Enc.sev_len wnm; omega) (Nat.le_trans g9.size hgs10.size) ?_; intro vt10 wt10 ho10 hap10)))
                  have g10 := hap10.gr (g9.trans hgs10) (Nat.le_refl _)
                  have KB10 : Hid _ := hap10.row ((hgs10.block _ (lt_of_someE KB9.out)).trans KB9.out) (by decide)
                  obtain ⟨cx10, _⟩ := row_all KB10.out
                  obtain ⟨L10, hL10⟩ : ∃ X, X = L9 ++ Enc.sev (nm.size : Int) := ⟨_, rfl⟩
                  have bL10 : L10.length ≤ 1000050 := by rw [hL10, List.length_append]; have := Enc.sev_len wnm; omega
                  rw [← hL10] at ho10
                  have A10 : Hid _ := ho10
                  have HL10 : Hid _ := hL10
                  clear hap10 ho10 hn10 hos10 hgs10 hL10
                  clear cx9
                  go_upto_region 28 with (at_builtin; (refine Lib.wpList_append_own_string _ rfl _ _ _ _ rfl w1.heap.size 5 i0 Tryd.underlying27 Tryd.underlying9 hi hi1 hi2 hi3 _ _ _ (by rfl) A10.out.row nm (by rfl) (by unfold maxLen; omega) (by omega) g10.size ?_; intro v11 w11 hown11 hgrow11 hnil11; clear hnil11))
                  have ho11 := owR_text hown11 rfl
                  have hap11 := (Ap.ofGr (B := w1.heap.size) (Gr.refl _)).app (Or.inl A10.out) hgrow11
                  have g11 := hap11.gr g10 (Nat.le_refl _)
                  have KB11 : Hid _ := hap11.row KB10.out (by decide)
                  obtain ⟨cx11, _⟩ := row_all KB11.out
                  obtain ⟨L11, hL11⟩ : ∃ X, X = L10 ++ Enc.text nm := ⟨_, rfl⟩
                  have bL11 : L11.length ≤ 1000080 := by rw [hL11, List.length_append]; rw [Enc.text_len]; omega
                  rw [← hL11] at ho11
                  have A11 : Hid _ := ho11
                  have HL11 : Hid _ := hL11
                  clear hown11 hgrow11 hap11 ho11 hL11 cx10
                  go_upto_region 29 with (first | (go_at_call 17; refine (sevens_any (zs.length : Int) _ wzl).mono ?_; rintro e ws12 ⟨vs12, rfl, hgs12, hos12⟩; obtain ⟨as12, cs12, hv12, hn12⟩ := OwR.news hos12 (Enc.sev_pos _); subst hv12) | (at_builtin; (refine app_x rfl _ _ rfl w1.heap.size _ L11 (by rfl) (OwnX.gr (Or.inl A11.out) hgs12) as12 cs12 (Enc.sev (zs.length : Int)) (by rfl) hn12 (Enc.sev_pos _) (by have := Enc.sev_len wzl; omega) (Nat.le_trans g11.size hgs12.size) ?_; intro vt12 wt12 ho12 hap12)))
                  have g12 := hap12.gr (g11.trans hgs12) (Nat.le_refl _)
                  have KB12 : Hid _ := hap12.row ((hgs12.block _ (lt_of_someE KB11.out)).trans KB11.out) (by decide)
                  obtain ⟨cx12, _⟩ := row_all KB12.out
                  obtain ⟨L12, hL12⟩ : ∃ X, X = L11 ++ Enc.sev (zs.length : Int) := ⟨_, rfl⟩
                  have bL12 : L12.length ≤ 1000100 := by rw [hL12, List.length_append]; have := Enc.sev_len wzl; omega
                  rw [← hL12] at ho12
                  have A12 : Hid _ := ho12
                  have HL12 : Hid _ := hL12
                  clear hap12 ho12 hn12 hos12 hgs12 hL12
                  clear cx11
                  go_wp2_with fail
                  go_loopw [7, 12] (fun b i wz => ∃ k : Nat, k ≤ zs.length ∧ i = .int .i64 k ∧ Gr w1 wz ∧ OwR wz w1.heap.size b (L12 ++ (zs.take k).flatMap Enc.sev) ∧ wz.heap[wr.heap.size]? = some (Obj.cells #[Value.int .i64 off, Value.bool true, Value.string nm, Value.slice a zs.length cap, Value.int .i64 jump] 44)) (fun _ i _ => zs.length - (intOf i).toNat)
                  case atStart => exact ⟨0, Nat.zero_le _, rfl, g12, by simpa using A12.out, KB12.out⟩
                  case round =>
                    obtain ⟨k4, hk4, rfl, hgr4, hown4, hkb4⟩ := hrel
                    have hml := Enc.many_len wzs (by omega) k4 hk4
                    obtain ⟨Z, hZ⟩ : ∃ Z, Z = L12 ++ (zs.take k4).flatMap Enc.sev := ⟨_, rfl⟩
                    have hzlen : Z.length ≤ 1001000 := by rw [hZ, List.length_append]; omega
                    rw [← hZ] at hown4
                    obtain ⟨ve, vecap, hv⟩ := OwnX.form (Or.inl hown4)
                    subst hv
                    have HZ : Hid _ := hZ
                    have HW4 : Hid _ := hown4
                    have KB4 : Hid _ := hkb4
                    obtain ⟨cy, _⟩ := row_all hkb4
                    clear hZ hown4 hkb4 hml A12 g12 cx12
                    by_cases hlt4 : k4 < zs.length
                    · obtain ⟨z, hz⟩ : ∃ z, zs[k4]? = some z := ⟨_, List.getElem?_eq_getElem hlt4⟩
                      obtain ⟨zb2, zo2, rfl, hzb2, hzc2⟩ := hzs.cell k4 z hz
                      have wz := wzs z (List.mem_of_getElem? hz)
                      have q0 := (hgr4.cell zb2 _ hzb2).trans hzc2
                      have Hz : Hid _ := hz
                      clear hz hzc2
                      go_wp2_with (first | (go_at_call 17; refine (sevens_any z _ wz).mono ?_; rintro e ws13 ⟨vs13, rfl, hgs13, hos13⟩; obtain ⟨as13, cs13, hv13, hn13⟩ := OwR.news hos13 (Enc.sev_pos _); subst hv13) | (at_builtin; (refine app_x rfl _ _ rfl w1.heap.size _ Z (by rfl) (OwnX.gr (Or.inl HW4.out) hgs13) as13 cs13 (Enc.sev z) (by rfl) hn13 (Enc.sev_pos _) (by have := Enc.sev_len wz; omega) (Nat.le_trans hgr4.size hgs13.size) ?_; intro vt13 wt13 ho13 hap13)))
                      have g13 := hap13.gr (hgr4.trans hgs13) (Nat.le_refl _)
                      have KB13 : Hid _ := hap13.row ((hgs13.block _ (lt_of_someE KB4.out)).trans KB4.out) (by decide)
                      have A13 : Hid _ := ho13
                      clear hap13 ho13 hn13 hos13 hgs13 cy
                      go_wp2
                      go_roundw
                      case rel => exact ⟨k4 + 1, by omega, by go_num, g13, by rw [Enc.flat_take Hz.out, ← List.append_assoc, ← HZ.out]; exact A13.out, KB13.out⟩
                      case measure => simp [intOf]; omega
                    · have hk4' : k4 = zs.length := by omega
                      have HEZ : Hid (Z ++ Enc.sev jump = Y ++ Enc.answer ⟨off, true, nm, a, cap, zs, jump⟩) := by
                        show Z ++ Enc.sev jump = Y ++ (Enc.sev off ++ Enc.sev (if true = true then 1 else 0) ++ Enc.sev nm.size ++ Enc.text nm ++ (Enc.sev zs.length ++ zs.flatMap Enc.sev) ++ Enc.sev jump)
                        rw [HZ.out, hk4', List.take_length, HL12.out, HL11.out, HL10.out, HL9.out, HL8.out, sev_true]
                        simp only [List.append_assoc]
                      clear HZ HL12 HL11 HL10 HL9 HL8
                      go_wp2_with (first | (go_at_call 17; refine (sevens_any jump _ wjmp).mono ?_; rintro e ws14 ⟨vs14, rfl, hgs14, hos14⟩; obtain ⟨as14, cs14, hv14, hn14⟩ := OwR.news hos14 (Enc.sev_pos _); subst hv14) | (at_builtin; (refine app_x rfl _ _ rfl w1.heap.size _ Z (by rfl) (OwnX.gr (Or.inl HW4.out) hgs14) as14 cs14 (Enc.sev jump) (by rfl) hn14 (Enc.sev_pos _) (by have := Enc.sev_len wjmp; omega) (Nat.le_trans hgr4.size hgs14.size) ?_; intro vt14 wt14 ho14 hap14)))
                      have g14 := hap14.gr (hgr4.trans hgs14) (Nat.le_refl _)
                      have A14 : Hid _ := ho14
                      rw [HEZ.out] at A14
                      clear hap14 ho14 hn14 hos14 hgs14 cy HEZ
                      go_wp2
                      go_roundw
                      case rel => exact ⟨k3 + 1, by omega, by go_num, g14, by rw [Enc.flat_take Hx.out, ← List.append_assoc, ← HY.out]; exact A14.out⟩
                      case measure => simp [intOf]; omega
                | false =>
                  go_upto_region 22 with fail
                  obtain ⟨WA, hWA⟩ : ∃ WA, WA = wr.alloc (Obj.cells #[Value.int .i64 off, Value.bool false, Value.string nm, Value.slice a zs.length cap, Value.int .i64 jump] 44) := ⟨_, rfl⟩
                  have gA : Gr w1 WA := by rw [hWA]; exact hgr3.alloc _
                  have AA : Hid _ := HW3.out.gr (show Gr wr WA by rw [hWA]; exact (Gr.refl _).alloc _)
                  have KB0 : Hid (WA.heap[wr.heap.size]? = some (Obj.cells #[Value.int .i64 off, Value.bool false, Value.string nm, Value.slice a zs.length cap, Value.int .i64 jump] 44)) := by show WA.heap[wr.heap.size]? = _; rw [hWA]; exact heapA _ _
                  obtain ⟨cx0, _⟩ := row_all KB0.out
                  rw [← hWA]
                  clear hWA cA q0 q1 q2 q3 q4
                  go_upto_region 23 with (first | (go_at_call 17; refine (sevens_any off _ woff).mono ?_; rintro e ws8 ⟨vs8, rfl, hgs8, hos8⟩; obtain ⟨as8, cs8, hv8, hn8⟩ := OwR.news hos8 (Enc.sev_pos _); subst hv8) | (at_builtin; (refine app_x rfl _ _ rfl w1.heap.size _ Y (by rfl) (OwnX.gr (Or.inl AA.out) hgs8) as8 cs8 (Enc.sev off) (by rfl) hn8 (Enc.sev_pos _) (by have := Enc.sev_len woff; omega) (Nat.le_trans gA.size hgs8.size) ?_; intro vt8 wt8 ho8 hap8)))
                  have g8 := hap8.gr (gA.trans hgs8) (Nat.le_refl _)
                  have KB8 : Hid _ := hap8.row ((hgs8.block _ (lt_of_someE KB0.out)).trans KB0.out) (by decide)
                  obtain ⟨cx8, _⟩ := row_all KB8.out
                  obtain ⟨L8, hL8⟩ : ∃ X, X = Y ++ Enc.sev off := ⟨_, rfl⟩
                  have bL8 : L8.length ≤ 1000020 := by rw [hL8, List.length_append]; have := Enc.sev_len woff; omega
                  rw [← hL8] at ho8
                  have A8 : Hid _ := ho8
                  have HL8 : Hid _ := hL8
                  clear hap8 ho8 hn8 hos8 hgs8 hL8
                  clear cx0
                  go_upto_region 26 with (at_builtin; (refine app_x rfl _ _ rfl w1.heap.size _ L8 (by rfl) (OwnX.gr (Or.inl A8.out) (by exact (Gr.refl _).alloc _)) ⟨_, 0, none⟩ 1 [0] (by rfl) (World.news_of_block (cs := #[.int .u8 0]) (heapA _ _)) Nat.zero_lt_one (by simp only [List.length_singleton]; omega) (by have := g8.size; simp; omega) ?_; intro v9 w9 ho9 hap9))
                  have g9 := hap9.gr (g8.alloc _) (Nat.le_refl _)
                  have KB9 : Hid _ := hap9.row ((Below.heap_alloc _ _ _ (lt_of_someE KB8.out)).trans KB8.out) (by decide)
                  obtain ⟨cx9, _⟩ := row_all KB9.out
                  obtain ⟨L9, hL9⟩ : ∃ X, X = L8 ++ [0] := ⟨_, rfl⟩
                  have bL9 : L9.length ≤ 1000030 := by rw [hL9, List.length_append]; rw [List.length_singleton]; omega
                  rw [← hL9] at ho9
                  have A9 : Hid _ := ho9
                  have HL9 : Hid _ := hL9
                  clear hap9 ho9 hL9 cx8
                  go_upto_region 27 with (first | (go_at_call 17; refine (sevens_any (nm.size : Int) _ wnm).mono ?_; rintro e ws10 ⟨vs10, rfl, hgs10, hos10⟩; obtain ⟨as10, cs10, hv10, hn10⟩ := OwR.news hos10 (Enc.sev_pos _); subst hv10) | (at_builtin; (refine app_x rfl _ _ rfl w1.heap.size _ L9 (by rfl) (OwnX.gr (Or.inl A9.out) hgs10) as10 cs10 (Enc.sev (nm.size : Int)) (by rfl) hn10 (Enc.sev_pos _) (by have := Enc.sev_len wnm; omega) (Nat.le_trans g9.size hgs10.size) ?_; intro vt10 wt10 ho10 hap10)))
                  have g10 := hap10.gr (g9.trans hgs10) (Nat.le_refl _)
                  have KB10 : Hid _ := hap10.row ((hgs10.block _ (lt_of_someE KB9.out)).trans KB9.out) (by decide)
                  obtain ⟨cx10, _⟩ := row_all KB10.out
                  obtain ⟨L10, hL10⟩ : ∃ X, X = L9 ++ Enc.sev (nm.size : Int) := ⟨_, rfl⟩
                  have bL10 : L10.length ≤ 1000050 := by rw [hL10, List.length_append]; have := Enc.sev_len wnm; omega
                  rw [← hL10] at ho10
                  have A10 : Hid _ := ho10
                  have HL10 : Hid _ := hL10
                  clear hap10 ho10 hn10 hos10 hgs10 hL10
                  clear cx9
                  go_upto_region 28 with (at_builtin; (refine Lib.wpList_append_own_string _ rfl _ _ _ _ rfl w1.heap.size 5 i0 Tryd.underlying27 Tryd.underlying9 hi hi1 hi2 hi3 _ _ _ (by rfl) A10.out.row nm (by rfl) (by unfold maxLen; omega) (by omega) g10.size ?_; intro v11 w11 hown11 hgrow11 hnil11; clear hnil11))
                  have ho11 := owR_text hown11 rfl
                  have hap11 := (Ap.ofGr (B := w1.heap.size) (Gr.refl _)).app (Or.inl A10.out) hgrow11
                  have g11 := hap11.gr g10 (Nat.le_refl _)
                  have KB11 : Hid _ := hap11.row KB10.out (by decide)
                  obtain ⟨cx11, _⟩ := row_all KB11.out
                  obtain ⟨L11, hL11⟩ : ∃ X, X = L10 ++ Enc.text nm := ⟨_, rfl⟩
                  have bL11 : L11.length ≤ 1000080 := by rw [hL11, List.length_append]; rw [Enc.text_len]; omega
                  rw [← hL11] at ho11
                  have A11 : Hid _ := ho11
                  have HL11 : Hid _ := hL11
                  clear hown11 hgrow11 hap11 ho11 hL11 cx10
                  go_upto_region 29 with (first | (go_at_call 17; refine (sevens_any (zs.length : Int) _ wzl).mono ?_; rintro e ws12 ⟨vs12, rfl, hgs12, hos12⟩; obtain ⟨as12, cs12, hv12, hn12⟩ := OwR.news hos12 (Enc.sev_pos _); subst hv12) | (at_builtin; (refine app_x rfl _ _ rfl w1.heap.size _ L11 (by rfl) (OwnX.gr (Or.inl A11.out) hgs12) as12 cs12 (Enc.sev (zs.length : Int)) (by rfl) hn12 (Enc.sev_pos _) (by have := Enc.sev_len wzl; omega) (Nat.le_trans g11.size hgs12.size) ?_; intro vt12 wt12 ho12 hap12)))
                  have g12 := hap12.gr (g11.trans hgs12) (Nat.le_refl _)
                  have KB12 : Hid _ := hap12.row ((hgs12.block _ (lt_of_someE KB11.out)).trans KB11.out) (by decide)
                  obtain ⟨cx12, _⟩ := row_all KB12.out
                  obtain ⟨L12, hL12⟩ : ∃ X, X = L11 ++ Enc.sev (zs.length : Int) := ⟨_, rfl⟩
                  have bL12 : L12.length ≤ 1000100 := by rw [hL12, List.length_append]; have := Enc.sev_len wzl; omega
                  rw [← hL12] at ho12
                  have A12 : Hid _ := ho12
                  have HL12 : Hid _ := hL12
                  clear hap12 ho12 hn12 hos12 hgs12 hL12
                  clear cx11
                  go_wp2_with fail
                  go_loopw [7, 12] (fun b i wz => ∃ k : Nat, k ≤ zs.length ∧ i = .int .i64 k ∧ Gr w1 wz ∧ OwR wz w1.heap.size b (L12 ++ (zs.take k).flatMap Enc.sev) ∧ wz.heap[wr.heap.size]? = some (Obj.cells #[Value.int .i64 off, Value.bool false, Value.string nm, Value.slice a zs.length cap, Value.int .i64 jump] 44)) (fun _ i _ => zs.length - (intOf i).toNat)
                  case atStart => exact ⟨0, Nat.zero_le _, rfl, g12, by simpa using A12.out, KB12.out⟩
                  case round =>
                    obtain ⟨k4, hk4, rfl, hgr4, hown4, hkb4⟩ := hrel
                    have hml := Enc.many_len wzs (by omega) k4 hk4
                    obtain ⟨Z, hZ⟩ : ∃ Z, Z = L12 ++ (zs.take k4).flatMap Enc.sev := ⟨_, rfl⟩
                    have hzlen : Z.length ≤ 1001000 := by rw [hZ, List.length_append]; omega
                    rw [← hZ] at hown4
                    obtain ⟨ve, vecap, hv⟩ := OwnX.form (Or.inl hown4)
                    subst hv
                    have HZ : Hid _ := hZ
                    have HW4 : Hid _ := hown4
                    have KB4 : Hid _ := hkb4
                    obtain ⟨cy, _⟩ := row_all hkb4
                    clear hZ hown4 hkb4 hml A12 g12 cx12
                    by_cases hlt4 : k4 < zs.length
                    · obtain ⟨z, hz⟩ : ∃ z, zs[k4]? = some z := ⟨_, List.getElem?_eq_getElem hlt4⟩
                      obtain ⟨zb2, zo2, rfl, hzb2, hzc2⟩ := hzs.cell k4 z hz
                      have wz := wzs z (List.mem_of_getElem? hz)
                      have q0 := (hgr4.cell zb2 _ hzb2).trans hzc2
                      have Hz : Hid _ := hz
                      clear hz hzc2
                      go_wp2_with (first | (go_at_call 17; refine (sevens_any z _ wz).mono ?_; rintro e ws13 ⟨vs13, rfl, hgs13, hos13⟩; obtain ⟨as13, cs13, hv13, hn13⟩ := OwR.news hos13 (Enc.sev_pos _); subst hv13) | (at_builtin; (refine app_x rfl _ _ rfl w1.heap.size _ Z (by rfl) (OwnX.gr (Or.inl HW4.out) hgs13) as13 cs13 (Enc.sev z) (by rfl) hn13 (Enc.sev_pos _) (by have := Enc.sev_len wz; omega) (Nat.le_trans hgr4.size hgs13.size) ?_; intro vt13 wt13 ho13 hap13)))
                      have g13 := hap13.gr (hgr4.trans hgs13) (Nat.le_refl _)
                      have KB13 : Hid _ := hap13.row ((hgs13.block _ (lt_of_someE KB4.out)).trans KB4.out) (by decide)
                      have A13 : Hid _ := ho13
                      clear hap13 ho13 hn13 hos13 hgs13 cy
                      go_wp2
                      go_roundw
                      case rel => exact ⟨k4 + 1, by omega, by go_num, g13, by rw [Enc.flat_take Hz.out, ← List.append_assoc, ← HZ.out]; exact A13.out, KB13.out⟩
                      case measure => simp [intOf]; omega
                    · have hk4' : k4 = zs.length := by omega
                      have HEZ : Hid (Z ++ Enc.sev jump = Y ++ Enc.answer ⟨off, false, nm, a, cap, zs, jump⟩) := by
                        show Z ++ Enc.sev jump = Y ++ (Enc.sev off ++ Enc.sev (if false = true then 1 else 0) ++ Enc.sev nm.size ++ Enc.text nm ++ (Enc.sev zs.length ++ zs.flatMap Enc.sev) ++ Enc.sev jump)
                        rw [HZ.out, hk4', List.take_length, HL12.out, HL11.out, HL10.out, HL9.out, HL8.out, sev_false]
                        simp only [List.append_assoc]
                      clear HZ HL12 HL11 HL10 HL9 HL8
                      go_wp2_with (first | (go_at_call 17; refine (sevens_any jump _ wjmp).mono ?_; rintro e ws14 ⟨vs14, rfl, hgs14, hos14⟩; obtain ⟨as14, cs14, hv14, hn14⟩ := OwR.news hos14 (Enc.sev_pos _); subst hv14) | (at_builtin; (refine app_x rfl _ _ rfl w1.heap.size _ Z (by rfl) (OwnX.gr (Or.inl HW4.out) hgs14) as14 cs14 (Enc.sev jump) (by rfl) hn14 (Enc.sev_pos _) (by have := Enc.sev_len wjmp; omega) (Nat.le_trans hgr4.size hgs14.size) ?_; intro vt14 wt14 ho14 hap14)))
                      have g14 := hap14.gr (hgr4.trans hgs14) (Nat.le_refl _)
                      have A14 : Hid _ := ho14
                      rw [HEZ.out] at A14
                      clear hap14 ho14 hn14 hos14 hgs14 cy HEZ
                      go_wp2
                      go_roundw
                      case rel => exact ⟨k3 + 1, by omega, by go_num, g14, by rw [Enc.flat_take Hx.out, ← List.append_assoc, ← HY.out]; exact A14.out⟩
                      case measure => simp [intOf]; omega
              · have hk3' : k3 = p.answers.length := by omega
                have HF : Hid (Y = Enc.prog p) := by show Y = Enc.prog p; rw [HY.out, HPE.out, hk3', List.take_length]
                go_wp2
                go_ret2
                exact HYES.out _ w1 _ _ rfl gw1.size (by rw [← HF.out]; exact HW3.out) (gw1.trans hgr3)
  · have g : ((Ver.verify p).2.2 != 0) = true := by simpa using h0
    have HN : Hid _ := fun e w' => encPost_no (w := w) (w' := w') (e := e) h0
    obtain ⟨V, hV⟩ : ∃ V, V = Ver.verify p := ⟨_, rfl⟩
    rw [← hV] at HO HN g
    have HP : Hid _ := hp
    clear h0 hV hp
    obtain ⟨x, y, z⟩ := V
    simp only at g HN
    rw [ec] at HO ⊢
    go_enter Tryd.func7, Tryd.ntmps7
    go_wp2_with (go_at_call 16; refine (HO.out _ (HP.out.gr (by exact (Gr.refl _).alloc _))).mono ?_; rintro e w1 ⟨rfl, hg1⟩; simp only [ret3])
    go_ret2
    exact HN.out _ _ rfl (((Gr.refl _).alloc _).trans hg1)
end Go.Proofs.YtddamfnoggjkfaaDoor
