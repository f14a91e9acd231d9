/- Contracts: code, numbers and answers in bytes (P5.5), by the program. -/
import Derived.Test.YtddamfnoggjkfaaDoorEncN
import Derived.Lib.AppendStr
import Derived.Deep.Cut
namespace Go.Proofs.YtddamfnoggjkfaaDoor
open Go.ChangeShapes Go.WideShapes Go.ChangeAt Go.RowKit
set_option linter.unusedVariables false
theorem oneIfB_any (b : Bool) (w : World) : Calls Tryd.prog 29 #[.bool b] w fun e w' => e = .returned (.int .i64 (if b = true then 1 else 0)) ∧ w' = w := by
  cases b
  all_goals
    go_enter Tryd.func29, Tryd.ntmps29
    go_wp2
    go_ret
    exact ⟨rfl, rfl⟩
set_option maxHeartbeats 1600000 in
theorem appendNumbers_any (B : Nat) (v : Value) (l : List Int) (a : Option Addr) (cap : Nat) (zs : List Int) (W w : World) (hW : Gr W w) (hWB : W.heap.size ≤ B) (hz : IntsAt W a zs) (wz : ∀ z ∈ zs, (Lit.int .i64 z).wf = true) (hown : OwnX w B v l) (hB : B ≤ w.heap.size) (hl : l.length ≤ 10000000) (hzl : zs.length ≤ 10000) :
    Calls Tryd.prog 13 #[v, .slice a zs.length cap] w fun e w' => ∃ v', e = .returned v' ∧ Ap B w w' ∧ OwR w' B v' (l ++ Enc.many zs) := by
  have s1 := Enc.sev_len (n := (zs.length : Int)) (Enc.wf_small (by omega) (by omega))
  go_enter Tryd.func13, Tryd.ntmps13
  go_wp2_with (go_at_call 14; refine (appendNumber_any B v l (zs.length : Int) _ hown hB (Enc.wf_small (by omega) (by omega)) (by omega)).mono ?_; rintro e w1 ⟨v1, rfl, hap, how⟩)
  have A0 : Hid _ := And.intro hap how
  clear hap how
  go_loopw [0, 13] (fun b i wr => ∃ k : Nat, k ≤ zs.length ∧ i = .int .i64 k ∧ Ap B w wr ∧ OwR wr B b (l ++ Enc.sev zs.length ++ (zs.take k).flatMap Enc.sev)) (fun _ i _ => zs.length - (intOf i).toNat)
  case atStart => exact ⟨0, Nat.zero_le _, rfl, A0.out.1, by simpa using A0.out.2⟩
  case round =>
    obtain ⟨k, hk, rfl, hap, how⟩ := hrel
    have hml := Enc.many_len wz (by omega) k hk
    have hsz := hap.size
    have hlen : (l ++ Enc.sev zs.length ++ (zs.take k).flatMap Enc.sev).length ≤ 20000000 := by simp only [List.length_append]; omega
    obtain ⟨L, hL⟩ : ∃ L, L = l ++ Enc.sev zs.length ++ (zs.take k).flatMap Enc.sev := ⟨_, rfl⟩
    rw [← hL] at how hlen
    obtain ⟨va, vcap, hv⟩ := (OwnX.form (Or.inl how))
    subst hv
    have AP : Hid _ := And.intro hap how
    have HL : Hid _ := hL
    clear hap how hL
    by_cases hlt : k < zs.length
    · obtain ⟨z, hz1⟩ : ∃ z, zs[k]? = some z := ⟨_, List.getElem?_eq_getElem hlt⟩
      have hg := AP.out.1.gr hW hWB
      obtain ⟨b, o, rfl, hb, hc⟩ := (hz.gr hg).cell k z hz1
      have wz1 := wz z (List.mem_of_getElem? hz1)
      have Hz : Hid _ := hz1
      clear hz1
      go_wp2_with (go_at_call 14; refine (appendNumber_any B _ L z _ (Or.inl AP.out.2) (by omega) wz1 (by omega)).mono ?_; rintro e w2 ⟨v2, rfl, hap2, how2⟩)
      go_roundw
      case rel => exact ⟨k + 1, by omega, by go_num, AP.out.1.trans hap2, by rw [Enc.flat_take Hz.out, ← List.append_assoc, ← HL.out]; exact how2⟩
      case measure => simp [intOf]; omega
    · have hk' : k = zs.length := by omega
      go_wp2
      go_ret
      exact ⟨_, rfl, AP.out.1, by have := AP.out.2; have e : L = l ++ Enc.many zs := (by rw [HL.out, hk', List.take_length, Enc.many, List.append_assoc]); rw [← e]; exact this⟩
theorem lt_of_someE {w : World} {b : Nat} {o : Obj} (h : w.heap[b]? = some o) : b < w.heap.size := (Array.getElem?_eq_some_iff.1 h).1
theorem field_opr (s : ByteArray) (a b : Int) (c : Bool) (W : World) : (Instr.field 65 (.agg #[.string s, .int .i64 a, .int .i64 b, .bool c]) 3).run Tryd.prog W = .ok (.bool c) W := by
  kernel_rfl
theorem numbered_not {op : Int} (h : numbered op = false) (n : Int) : Enc.ins ⟨op, n⟩ = [op] := by simp [Enc.ins, h]
theorem numbered_yes {op : Int} (h : numbered op = true) (n : Int) : Enc.ins ⟨op, n⟩ = [op] ++ Enc.sev n := by simp [Enc.ins, h]
set_option maxHeartbeats 1600000 in
theorem appendCode_any (B : Nat) (v : Value) (l : List Int) (a : Option Addr) (cap : Nat) (code : List Ins) (W w : World) (hW : Gr W w) (hWB : W.heap.size ≤ B) (hc : InssAt W a code) (hok : ∀ x ∈ code, InsOk x) (hop : ∀ x ∈ code, 1 ≤ x.op ∧ x.op ≤ 6) (hT : Opr W) (hown : OwnX w B v l) (hB : B ≤ w.heap.size) (hl : l.length ≤ 10000) (hcl : code.length ≤ 8000) :
    Calls Tryd.prog 12 #[v, .slice a code.length cap] w fun e w' => ∃ v', e = .returned v' ∧ Ap B w w' ∧ OwR w' B v' (l ++ Enc.code code) := by
  have s1 := Enc.sev_len (n := (code.length : Int)) (Enc.wf_small (by omega) (by omega))
  obtain ⟨i0, hi, hi1, hi2, hi3⟩ := Tryd.infoByte
  have hfl := field_opr
  go_enter Tryd.func12, Tryd.ntmps12
  go_wp2_with (go_at_call 14; refine (appendNumber_any B v l (code.length : Int) _ hown hB (Enc.wf_small (by omega) (by omega)) (by omega)).mono ?_; rintro e w1 ⟨v1, rfl, hap, how⟩)
  have A0 : Hid _ := And.intro hap how
  clear hap how
  go_loopw [0, 13] (fun b i wr => ∃ k : Nat, k ≤ code.length ∧ i = .int .i64 k ∧ Ap B w wr ∧ OwR wr B b (l ++ Enc.sev code.length ++ (code.take k).flatMap Enc.ins)) (fun _ i _ => code.length - (intOf i).toNat)
  case atStart => exact ⟨0, Nat.zero_le _, rfl, A0.out.1, by simpa using A0.out.2⟩
  case round =>
    obtain ⟨k, hk, rfl, hap, how⟩ := hrel
    have hml := Enc.code_len hok k hk
    have hsz := hap.size
    have hlen : (l ++ Enc.sev code.length ++ (code.take k).flatMap Enc.ins).length ≤ 200000 := by simp only [List.length_append]; omega
    obtain ⟨L, hL⟩ : ∃ L, L = l ++ Enc.sev code.length ++ (code.take k).flatMap Enc.ins := ⟨_, rfl⟩
    rw [← hL] at how hlen
    obtain ⟨va, vcap, hv⟩ := (OwnX.form (Or.inl how))
    subst hv
    have AP : Hid _ := And.intro hap how
    have HL : Hid _ := hL
    clear hap how hL
    by_cases hlt : k < code.length
    · obtain ⟨x, hx⟩ : ∃ x, code[k]? = some x := ⟨_, List.getElem?_eq_getElem hlt⟩
      have hg := AP.out.1.gr hW hWB
      obtain ⟨b, o, rfl, hb, hc1, hc2⟩ := (hc.gr hg).cell k x hx
      have wx := hok x (List.mem_of_getElem? hx)
      obtain ⟨o1, o2⟩ := hop x (List.mem_of_getElem? hx)
      obtain ⟨op, n⟩ := x
      simp only at o1 o2 hc1 hc2
      have wn := wx.n
      simp only at wn
      have x3 : IntKind.u8.wrap op = op := by rw [IntKind.wrap_u8']; omega
      have Hx : Hid _ := hx
      clear hx wx
      go_wp2_with (at_builtin; (refine app_x rfl _ _ rfl B _ L (by rfl) (OwnX.gr (Or.inl AP.out.2) (by exact ((Gr.refl _).alloc _).alloc _)) ⟨wr.heap.size + 1, 0, none⟩ 1 [op] (by rfl) (World.news_of_block (cs := #[.int .u8 op]) (heapC _ _ _)) Nat.zero_lt_one (by simp only [List.length_singleton]; omega) (by simp; omega) ?_))
      intro v3 w3 hown3 hap3
      have hap2 := (AP.out.1.more (((Gr.refl _).alloc (Obj.cells #[.int .i64 op, .int .i64 n] 48)).alloc _)).trans hap3
      have hsz2 := hap2.size
      have hbx : w3.heap[wr.heap.size]? = some (.cells #[.int .i64 op, .int .i64 n] 48) := hap3.row (heapB wr (Obj.cells #[.int .i64 op, .int .i64 n] 48) _) (by decide)
      obtain ⟨c3, f3⟩ := row_all hbx
      have hT3 := hT.gr (hap2.gr hW hWB)
      have AP2 : Hid _ := And.intro hap2 hown3
      have HB : Hid _ := hbx
      clear hown3 hap3 hap2 hbx
      cases hnb : numbered op with
      | false =>
        have N0 : Hid _ := numbered_not hnb n
        go_wp2_with (go_at_call 28; refine (operatorOf_any op _ hT3 o1 o2).mono ?_; rintro e w4 ⟨rfl, hg4⟩)
        go_wp2
        go_roundw
        case rel => exact ⟨k + 1, by omega, by go_num, AP2.out.1.more hg4, by rw [Enc.flat_take Hx.out, N0.out, ← List.append_assoc, ← HL.out]; exact AP2.out.2.gr hg4⟩
        case measure => simp [intOf]; omega
      | true =>
        have N0 : Hid _ := numbered_yes hnb n
        go_upto_region 7 with (go_at_call 28; refine (operatorOf_any op _ hT3 o1 o2).mono ?_; rintro e w4 ⟨rfl, hg4⟩)
        have AP3 : Hid _ := And.intro (AP2.out.1.more hg4) (AP2.out.2.gr hg4)
        obtain ⟨c4, f4⟩ := row_all ((hg4.block _ (by exact lt_of_someE HB.out)).trans HB.out)
        have hsz3 := AP3.out.1.size
        clear c3 f3
        go_wp2_with (go_at_call 14; refine (appendNumber_any B _ (L ++ [op]) n _ (Or.inl AP3.out.2) (by omega) wn (by simp only [List.length_append, List.length_singleton]; omega)).mono ?_; rintro e w5 ⟨v5, rfl, hap5, how5⟩)
        go_wp2
        go_roundw
        case rel => exact ⟨k + 1, by omega, by go_num, AP3.out.1.trans hap5, by rw [Enc.flat_take Hx.out, N0.out, ← List.append_assoc, ← HL.out, ← List.append_assoc]; exact how5⟩
        case measure => simp [intOf]; omega
    · have hk' : k = code.length := by omega
      go_wp2
      go_ret
      exact ⟨_, rfl, AP.out.1, by have := AP.out.2; have e : L = l ++ Enc.code code := (by rw [HL.out, hk', List.take_length, Enc.code, List.append_assoc]); rw [← e]; exact this⟩
end Go.Proofs.YtddamfnoggjkfaaDoor
