/- Contracts: answers and programs in bytes (P5.5), by the program. -/
import Derived.Test.YtddamfnoggjkfaaDoorEncP
import Derived.Test.YtddamfnoggjkfaaDoorVerV
import Derived.Test.YtddamfnoggjkfaaDoorRunM
import Derived.Lib.SlBytesConst
namespace Go.Proofs.YtddamfnoggjkfaaDoor
open Go.ChangeShapes Go.WideShapes Go.ChangeAt Go.RowKit
set_option linter.unusedVariables false
theorem strCells_text (s : ByteArray) : Lib.strCells s = bys (Enc.text s) := by
  simp [Lib.strCells, bys, Enc.text]
theorem owR_text {w : World} {B : Nat} {v : Value} {l : List Int} {s : ByteArray} {n : Nat} (h : w.ownsRow B 5 1 v (n + s.size) (bys l ++ Lib.strCells s)) : n = l.length → OwR w B v (l ++ Enc.text s) := by
  rintro rfl
  refine ⟨?_⟩
  rw [bys_app, List.length_append, Enc.text_len, ← strCells_text]
  exact h
set_option maxHeartbeats 1600000 in
theorem appendAnswer_any (B : Nat) (v : Value) (l : List Int) (x : Ans) (W w : World) (hW : Gr W w) (hWB : W.heap.size ≤ B) (hx : AnsOk W x) (h6 : x.zs.length ≤ 6) (h24 : x.nm.size ≤ 24) (hown : OwnX w B v l) (hB : B ≤ w.heap.size) (hl : l.length ≤ 1000000) :
    Calls Tryd.prog 15 #[v, .agg x.cells.toArray] w fun e w' => ∃ v', e = .returned v' ∧ Ap B w w' ∧ OwR w' B v' (l ++ Enc.answer x) := by
  obtain ⟨off, sv, nm, a, cap, zs, jump⟩ := x
  simp only at h6 h24
  simp only [Ans.cells]
  obtain ⟨i0, hi, hi1, hi2, hi3⟩ := Tryd.infoByte
  have woff := hx.off
  have wjmp := hx.jump
  have wsv : (Lit.int .i64 (if sv = true then (1 : Int) else 0)).wf = true := by cases sv <;> decide
  have H1 : Hid _ := fun W => oneIfB_any sv W
  obtain ⟨q, hq⟩ : ∃ q : Int, (if sv = true then (1 : Int) else 0) = q := ⟨_, rfl⟩
  rw [hq] at H1 wsv
  have HQ : Hid _ := hq
  clear hq
  have wnm : (Lit.int .i64 (nm.size : Int)).wf = true := Enc.wf_small (by omega) (by omega)
  have wzl : (Lit.int .i64 (zs.length : Int)).wf = true := Enc.wf_small (by omega) (by omega)
  have wzs := hx.wz
  have hzs := hx.zs
  simp only at woff wjmp wzs hzs
  have e1 := Enc.sev_len woff
  have e2 := Enc.sev_len wsv
  have e3 := Enc.sev_len wnm
  have e4 := Enc.text_len nm
  have e6 := Enc.sev_len wjmp
  have e5 : (Enc.many zs).length ≤ 70 := by
    have h1 := Enc.sev_len wzl
    have h2 := Enc.many_len wzs (by omega) zs.length (Nat.le_refl _)
    rw [List.take_length] at h2
    unfold Enc.many
    simp only [List.length_append]
    omega
  have AP0 : Hid _ := And.intro (Ap.ofGr (B := B) ((Gr.refl w).alloc (Obj.cells #[.int .i64 off, .bool sv, .string nm, .slice a zs.length cap, .int .i64 jump] 44))) (hown.gr ((Gr.refl w).alloc (Obj.cells #[.int .i64 off, .bool sv, .string nm, .slice a zs.length cap, .int .i64 jump] 44)))
  have KB0 : Hid _ := heapA w (Obj.cells #[.int .i64 off, .bool sv, .string nm, .slice a zs.length cap, .int .i64 jump] 44)
  clear hown hx
  go_enter Tryd.func15, Tryd.ntmps15
  have c0 : True := trivial
  go_upto_region 2 with (go_at_call 14; refine (appendNumber_any B _ _ off _ AP0.out.2 (Nat.le_trans hB AP0.out.1.size) woff (by (try simp only [List.length_append]); omega)).mono ?_; rintro e w1 ⟨v1, rfl, hap1, how1⟩)
  have AP1 : Hid _ := And.intro (AP0.out.1.trans hap1) how1
  have KB1 : Hid _ := hap1.row KB0.out (by decide)
  obtain ⟨c1, _⟩ := row_all KB1.out
  clear hap1 how1 c0
  go_upto_region 3 with (first | (go_at_call 29; refine (H1.out _).mono ?_; rintro e w2 ⟨rfl, hw2⟩; subst w2) | (go_at_call 14; refine (appendNumber_any B _ _ q _ (Or.inl AP1.out.2) (Nat.le_trans hB AP1.out.1.size) wsv (by (try simp only [List.length_append]); omega)).mono ?_; rintro e w2 ⟨v2, rfl, hap2, how2⟩))
  have AP2 : Hid _ := And.intro (AP1.out.1.trans hap2) how2
  have KB2 : Hid _ := hap2.row KB1.out (by decide)
  obtain ⟨c2, _⟩ := row_all KB2.out
  clear hap2 how2 c1
  go_upto_region 4 with (go_at_call 14; refine (appendNumber_any B _ _ (nm.size : Int) _ (Or.inl AP2.out.2) (Nat.le_trans hB AP2.out.1.size) wnm (by (try simp only [List.length_append]); omega)).mono ?_; rintro e w3 ⟨v3, rfl, hap3, how3⟩)
  have AP3 : Hid _ := And.intro (AP2.out.1.trans hap3) how3
  have KB3 : Hid _ := hap3.row KB2.out (by decide)
  obtain ⟨c3, _⟩ := row_all KB3.out
  clear hap3 how3 c2
  go_upto_region 5 with (at_builtin; (refine Lib.wpList_append_own_string _ rfl _ _ _ _ rfl B 5 i0 Tryd.underlying27 Tryd.underlying9 hi hi1 hi2 hi3 _ _ _ (by rfl) AP3.out.2.row nm (by rfl) (by unfold maxLen; simp only [List.length_append]; omega) (by (try simp only [List.length_append]); omega) (Nat.le_trans hB AP3.out.1.size) ?_; intro v4 w4 hown4 hgrow4 hnil4; clear hnil4))
  have how4 := owR_text hown4 (by simp only [List.length_append])
  have hap4 := (Ap.ofGr (B := B) (Gr.refl _)).app (Or.inl AP3.out.2) hgrow4
  have AP4 : Hid _ := And.intro (AP3.out.1.trans hap4) how4
  have KB4 : Hid _ := hap4.row KB3.out (by decide)
  obtain ⟨c4, _⟩ := row_all KB4.out
  clear hown4 hgrow4 how4 hap4 c3
  go_upto_region 6 with (go_at_call 13; refine (appendNumbers_any B _ _ a cap zs W _ (AP4.out.1.gr hW hWB) hWB hzs wzs (Or.inl AP4.out.2) (Nat.le_trans hB AP4.out.1.size) (by (try simp only [List.length_append]); omega) (by omega)).mono ?_; rintro e w5 ⟨v5, rfl, hap5, how5⟩)
  have AP5 : Hid _ := And.intro (AP4.out.1.trans hap5) how5
  have KB5 : Hid _ := hap5.row KB4.out (by decide)
  obtain ⟨c5, _⟩ := row_all KB5.out
  clear hap5 how5 c4
  go_wp2_with (go_at_call 14; refine (appendNumber_any B _ _ jump _ (Or.inl AP5.out.2) (Nat.le_trans hB AP5.out.1.size) wjmp (by (try simp only [List.length_append]); omega)).mono ?_; rintro e w6 ⟨v6, rfl, hap6, how6⟩)
  go_ret
  refine ⟨_, rfl, AP5.out.1.trans hap6, ?_⟩
  have := how6
  show OwR w6 B v6 (l ++ (Enc.sev off ++ Enc.sev (if sv = true then 1 else 0) ++ Enc.sev nm.size ++ Enc.text nm ++ Enc.many zs ++ Enc.sev jump))
  rw [HQ.out]
  simp only [List.append_assoc] at this ⊢
  exact this
/-- P5.5: the bytes of a program that may be run. -/
def encB (p : Prg) : List Int := if (Ver.verify p).2.2 = 0 then Enc.prog p else []
structure EncPost (p : Prg) (w : World) (e : Ending) (w' : World) : Prop where
  ex : ∃ v, e = .returned (.tuple #[v, .int .i64 (Ver.verify p).2.2]) ∧ OwR w' w.heap.size v (encB p) ∧ Gr w w'
theorem encPost_no {p : Prg} {w w' : World} {e : Ending} (h : (Ver.verify p).2.2 ≠ 0) (he : e = .returned (.tuple #[.slice none 0 0, .int .i64 (Ver.verify p).2.2])) (hg : Gr w w') : EncPost p w e w' :=
  ⟨_, he, by rw [encB, if_neg h]; exact OwR.nil _ _, hg⟩
theorem encPost_yes {p : Prg} {w w1 w' : World} {e : Ending} {v : Value} (h : (Ver.verify p).2.2 = 0) (he : e = .returned (.tuple #[v, .int .i64 0])) (hw : w.heap.size ≤ w1.heap.size) (ho : OwR w' w1.heap.size v (Enc.prog p)) (hg : Gr w w') : EncPost p w e w' :=
  ⟨v, by rw [he, h], by rw [encB, if_pos h]; exact ho.base hw, hg⟩
theorem own_head (w : World) : OwnX (w.alloc (Obj.cells #[.int .u8 115, .int .u8 100, .int .u8 49] 5 (3, 4))) w.heap.size (.slice (some ⟨w.heap.size, 0, none⟩) 3 3) [115, 100, 49] :=
  Or.inr ⟨w.heap.size, _, _, rfl, Nat.le_refl _, heapA _ _, by unfold maxLen; decide, rfl, by decide⟩
set_option maxHeartbeats 1600000 in
theorem encode_any (p : Prg) (w : World) (hp : PrgOk w p) (hT : Opr w) :
    Calls Tryd.prog 6 #[.agg p.cells.toArray] w (EncPost p w) := by
  have HO : Hid _ := fun W (hW : PrgOk W p) (hT' : Opr W) => verify_any p W hW hT'
  have ec : p.cells = [.slice p.ca p.code.length p.ccap, .slice p.pa p.pool.length p.pcap, .slice p.aa p.answers.length p.acap] := rfl
  have hcs := fun (W : World) (C : Array Value) (n c : Nat) => Lib.run_convert_bytes_const (P := Tryd.prog) W 27 5 C n c Tryd.underlying27 Tryd.underlying5
  by_cases h0 : (Ver.verify p).2.2 = 0
  · obtain ⟨s, m, hv⟩ : ∃ s m, Ver.verify p = (s, m, 0) := ⟨(Ver.verify p).1, (Ver.verify p).2.1, by rw [← h0]⟩
    have hG := (Ver.ways_of hv).1
    have l1 := hG.clen
    have l2 := hG.plen
    have l3 := hG.alen
    have HOP : Hid (∀ x ∈ p.code, 1 ≤ x.op ∧ x.op ≤ 6) := fun x hx => by obtain ⟨i, hi⟩ := List.getElem?_of_mem hx; exact (hG.ins i x hi).1
    have HZL : Hid _ := fun (x : Ans) (hx : x ∈ p.answers) => Ver.ans_ok hv hx
    have HYES : Hid _ := fun (e : Ending) (w1 w' : World) (v : Value) => encPost_yes (p := p) (w := w) (w1 := w1) (w' := w') (e := e) (v := v) h0
    rw [hv] at HO
    have HP : Hid _ := hp
    have HT : Hid _ := hT
    clear h0 hv hG hp hT
    have s1 := Enc.sev_len (n := (p.code.length : Int)) (Enc.wf_small (by omega) (by omega))
    have s2 := Enc.sev_len (n := (p.pool.length : Int)) (Enc.wf_small (by omega) (by omega))
    have wal : (Lit.int .i64 (p.answers.length : Int)).wf = true := Enc.wf_small (by omega) (by omega)
    have s3 := Enc.sev_len wal
    have c1 := Enc.code_len HP.out.cok p.code.length (Nat.le_refl _)
    have c2 := Enc.many_len HP.out.pok (by omega) p.pool.length (Nat.le_refl _)
    rw [List.take_length] at c1 c2
    have b1 : (Enc.code p.code).length ≤ 100000 := by unfold Enc.code; simp only [List.length_append]; omega
    have b2 : (Enc.many p.pool).length ≤ 100000 := by unfold Enc.many; simp only [List.length_append]; omega
    clear s1 s2 c1 c2
    rw [ec] at HO ⊢
    go_enter Tryd.func6, Tryd.ntmps6
    go_upto_region 4 with (go_at_call 11; refine (HO.out _ (HP.out.gr (by exact (Gr.refl _).alloc _)) (HT.out.gr (by exact (Gr.refl _).alloc _))).mono ?_; rintro e w1 ⟨rfl, hg1⟩; simp only [ret3])
    have gw1 : Gr w w1 := ((Gr.refl _).alloc _).trans hg1
    have k1 := (hg1.block w.heap.size (by simp)).trans (heapA w _)
    have K1 : Hid _ := k1
    have z1 : w.heap.size < w1.heap.size := by have := hg1.size; simp at this; omega
    have hP1 := HP.out.gr gw1
    have hT1 := HT.out.gr gw1
    have G0 : Gr w1 (w1.alloc (Obj.cells #[.int .u8 115, .int .u8 100, .int .u8 49] 5 (3, 4))) := (Gr.refl _).alloc _
    obtain ⟨cA, _⟩ := row_all ((G0.block w.heap.size z1).trans k1)
    clear hg1 k1 HO HT
    go_upto_region 5 with (go_at_call 12; refine (appendCode_any w1.heap.size _ [115, 100, 49] p.ca p.ccap p.code w1 _ G0 (Nat.le_refl _) hP1.cat hP1.cok HOP.out hT1 (own_head w1) (by simp) (by simp) l1).mono ?_; rintro e w2 ⟨v2, rfl, hap2, how2⟩)
    have g2 := hap2.gr G0 (Nat.le_refl _)
    have A2 : Hid _ := how2
    obtain ⟨cB, _⟩ := row_all ((g2.block w.heap.size z1).trans K1.out)
    clear hap2 how2 cA
    go_upto_region 6 with (go_at_call 13; refine (appendNumbers_any w1.heap.size _ _ p.pa p.pcap p.pool w1 _ g2 (Nat.le_refl _) hP1.pat hP1.pok (Or.inl A2.out) g2.size (by simp only [List.length_append, List.length_cons, List.length_nil]; omega) (by omega)).mono ?_; rintro e w3 ⟨v3, rfl, hap3, how3⟩)
    have g3 := hap3.gr g2 (Nat.le_refl _)
    have A3 : Hid _ := how3
    obtain ⟨cC, _⟩ := row_all ((g3.block w.heap.size z1).trans K1.out)
    clear hap3 how3 cB
    go_upto_region 7 with (go_at_call 14; refine (appendNumber_any w1.heap.size _ _ (p.answers.length : Int) _ (Or.inl A3.out) g3.size wal (by simp only [List.length_append, List.length_cons, List.length_nil]; omega)).mono ?_; rintro e w4 ⟨v4, rfl, hap4, how4⟩)
    have g4 := hap4.gr g3 (Nat.le_refl _)
    have A4 : Hid _ := how4
    obtain ⟨cD, _⟩ := row_all ((g4.block w.heap.size z1).trans K1.out)
    clear hap4 how4 cC
    obtain ⟨L0, hL0⟩ : ∃ L0, L0 = [115, 100, 49] ++ Enc.code p.code ++ Enc.many p.pool ++ Enc.sev p.answers.length := ⟨_, rfl⟩
    have hb0 : L0.length ≤ 300000 := by rw [hL0]; simp only [List.length_append, List.length_cons, List.length_nil]; omega
    rw [← hL0] at A4
    have HL0 : Hid (Enc.prog p = L0 ++ p.answers.flatMap Enc.answer) := by show Enc.prog p = L0 ++ p.answers.flatMap Enc.answer; rw [hL0]; rfl
    have HG4 : Hid _ := g4
    clear hL0 b1 b2 s3 g2 g3 g4 G0 A2 A3
    go_wp2_with fail
    go_loopw [7, 36] (fun b i wr => ∃ k : Nat, k ≤ p.answers.length ∧ i = .int .i64 k ∧ Gr w1 wr ∧ OwR wr w1.heap.size b (L0 ++ (p.answers.take k).flatMap Enc.answer)) (fun _ i _ => p.answers.length - (intOf i).toNat)
    case atStart => exact ⟨0, Nat.zero_le _, rfl, HG4.out, by simpa using A4.out⟩
    case round =>
      obtain ⟨k, hk, rfl, hgr, hown⟩ := hrel
      have hml : ((p.answers.take k).flatMap Enc.answer).length ≤ k * 140 := by
        have := Enc.flat_len (f := Enc.answer) (c := 140) (l := p.answers.take k) fun x hx => Enc.answer_len (HP.out.aok x (List.mem_of_mem_take hx)) (HZL.out x (List.mem_of_mem_take hx)).1 (HZL.out x (List.mem_of_mem_take hx)).2
        rw [List.length_take, Nat.min_eq_left hk] at this
        exact this
      obtain ⟨L, hL⟩ : ∃ L, L = L0 ++ (p.answers.take k).flatMap Enc.answer := ⟨_, rfl⟩
      have hlen : L.length ≤ 1000000 := by rw [hL]; simp only [List.length_append]; omega
      rw [← hL] at hown
      obtain ⟨va, vcap, hv⟩ := OwnX.form (Or.inl hown)
      subst hv
      have HL : Hid _ := hL
      have HW : Hid _ := hown
      clear hL hown hml A4 HG4 cD
      by_cases hlt : k < p.answers.length
      · obtain ⟨x, hx⟩ : ∃ x, p.answers[k]? = some x := ⟨_, List.getElem?_eq_getElem hlt⟩
        obtain ⟨b, o, haa, hb, hc⟩ := hP1.aat.cell k x hx
        have ho := hP1.aok x (List.mem_of_getElem? hx)
        obtain ⟨f1, f2⟩ := HZL.out x (List.mem_of_getElem? hx)
        obtain ⟨q0, q1, q2, q3, q4⟩ := hc.gr hb hgr
        have zb : b < wr.heap.size := Nat.lt_of_lt_of_le hb hgr.size
        have Hx : Hid _ := hx
        have HAA : Hid _ := haa
        obtain ⟨off, sv, nm, a, cap, zs, jump⟩ := x
        have HAP : Hid _ := fun (W' : World) (hg' : Gr wr W') => appendAnswer_any w1.heap.size (.slice va L.length vcap) L ⟨off, sv, nm, a, cap, zs, jump⟩ w1 W' (hgr.trans hg') (Nat.le_refl _) ho f1 f2 (Or.inl (HW.out.gr hg')) (Nat.le_trans hgr.size hg'.size) hlen
        simp only [Ans.cells] at HAP
        simp [Ans.cells] at q0 q1 q2 q3 q4
        clear hx haa hc
        rw [HAA.out]
        go_wp2_with (go_at_call 15; refine (HAP.out _ (by exact (Gr.refl _).alloc _)).mono ?_; rintro e w5 ⟨v5, rfl, hap5, how5⟩)
        go_roundw
        case rel => exact ⟨k + 1, by omega, by go_num, hap5.gr (hgr.alloc _) (Nat.le_refl _), by rw [Enc.flat_take Hx.out, ← List.append_assoc, ← HL.out]; exact how5⟩
        case measure => simp [intOf]; omega
      · have hk' : k = p.answers.length := by omega
        have HE : Hid (L = Enc.prog p) := by show L = Enc.prog p; rw [HL.out, HL0.out, hk', List.take_length]
        go_wp2
        go_ret2
        exact HYES.out _ w1 _ _ rfl gw1.size (by rw [← HE.out]; exact HW.out) (gw1.trans hgr)
  · have g : ((Ver.verify p).2.2 != 0) = true := by simpa using h0
    have HN : Hid _ := fun e w' => encPost_no (w := w) (w' := w') (e := e) h0
    obtain ⟨V, hV⟩ : ∃ V, V = Ver.verify p := ⟨_, rfl⟩
    rw [← hV] at HO HN g
    have HP : Hid _ := hp
    have HT : Hid _ := hT
    clear h0 hV hp hT
    obtain ⟨x, y, z⟩ := V
    simp only at g HN
    rw [ec] at HO ⊢
    go_enter Tryd.func6, Tryd.ntmps6
    go_wp2_with (go_at_call 11; refine (HO.out _ (HP.out.gr (by exact (Gr.refl _).alloc _)) (HT.out.gr (by exact (Gr.refl _).alloc _))).mono ?_; rintro e w1 ⟨rfl, hg1⟩; simp only [ret3])
    go_ret2
    exact HN.out _ _ rfl (((Gr.refl _).alloc _).trans hg1)
end Go.Proofs.YtddamfnoggjkfaaDoor
