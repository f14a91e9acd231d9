/- Contracts: numbers in bytes (P5.5), by the program and by the document. -/
import Derived.Test.YtddamfnoggjkfaaDoorEncM
import Derived.Laws.Bits128
import Derived.Laws.Bits64
import Derived.Laws.Bits64b
import Derived.Laws.BitsAllLaws
import Derived.Deep.Cut
namespace Go.Proofs.YtddamfnoggjkfaaDoor
open Go.ChangeShapes Go.WideShapes Go.ChangeAt Go.RowKit
set_option linter.unusedVariables false
theorem and127 (u : Nat) (h : u < 18446744073709551616) : bits .and .u64 (u : Int) 127 = (u : Int) % 128 := by
  have := bits_and_u64_nat u 127 h (by decide)
  rw [show ((127 : Nat) : Int) = 127 from rfl] at this
  rw [this, show (127 : Nat) = 2 ^ 7 - 1 from rfl, Nat.and_two_pow_sub_one_eq_mod]
  omega
theorem not64 (u : Nat) (h : u < 18446744073709551616) : bits .xor .u64 18446744073709551615 (u : Int) = 18446744073709551615 - (u : Int) := by
  have := bits_xor_u64_nat 18446744073709551615 u (by decide) h
  rw [show ((18446744073709551615 : Nat) : Int) = 18446744073709551615 from rfl] at this
  rw [this]
  have e : 18446744073709551615 ^^^ u = 18446744073709551615 - u := by
    have h1 : (18446744073709551615 : Nat) = 2 ^ 64 - 1 := by decide
    apply Nat.eq_of_testBit_eq
    intro i
    rw [Nat.testBit_xor, h1, Nat.testBit_two_pow_sub_one, show 2 ^ 64 - 1 - u = 2 ^ 64 - (u + 1) by omega, Nat.testBit_two_pow_sub_succ (by omega)]
    cases hh : decide (i < 64) with
    | true => simp
    | false =>
      have : u.testBit i = false := Nat.testBit_lt_two_pow (Nat.lt_of_lt_of_le h (by
        have : 64 ≤ i := by simpa using hh
        calc 18446744073709551616 = 2 ^ 64 := by decide
          _ ≤ 2 ^ i := Nat.pow_le_pow_right (by decide) this))
      simp [this]
  rw [e]
  omega
theorem zig_neg {n : Int} {U : Nat} (hn : n < 0) (h : -9223372036854775808 ≤ n) (hU : Enc.zig n = U) : bits BinOp.xor IntKind.u64 IntKind.u64.max (IntKind.u64.wrap (2 * IntKind.u64.wrap n)) = (U : Int) := by
  have e1 : IntKind.u64.wrap n = n + 18446744073709551616 := by rw [IntKind.wrap_u64]; omega
  have e2 : IntKind.u64.wrap (2 * (n + 18446744073709551616)) = ((2 * n + 18446744073709551616).toNat : Int) := by rw [IntKind.wrap_u64]; omega
  rw [e1, e2, show IntKind.u64.max = 18446744073709551615 from rfl, not64 _ (by omega)]
  unfold Enc.zig at hU
  rw [if_pos hn] at hU
  omega
theorem zig_pos {n : Int} {U : Nat} (hn : ¬ n < 0) (h : n ≤ 9223372036854775807) (hU : Enc.zig n = U) : 2 * n = (U : Int) := by
  unfold Enc.zig at hU
  rw [if_neg hn] at hU
  omega
theorem owns_nilB (w : World) (base : Nat) (e : TypeId) (size : Nat) : w.ownsRow base e size (.slice none 0 0) 0 [] := ⟨by simp, Or.inl ⟨rfl, rfl⟩⟩
set_option maxHeartbeats 1600000 in
theorem appendNumber_any (B : Nat) (v : Value) (l : List Int) (n : Int) (w : World) (hown : OwnX w B v l) (hB : B ≤ w.heap.size) (wn : (Lit.int .i64 n).wf = true) (hl : l.length ≤ 100000000) :
    Calls Tryd.prog 14 #[v, .int .i64 n] w fun e w' => ∃ v', e = .returned v' ∧ Ap B w w' ∧ OwR w' B v' (l ++ Enc.sev n) := by
  have bn := bounds_i64 wn
  have hz := Enc.zig_lt wn
  obtain ⟨U, hU⟩ : ∃ U, Enc.zig n = U := ⟨_, rfl⟩
  rw [hU] at hz
  have hsl := Enc.sev_len wn
  unfold Enc.sev at hsl ⊢
  rw [hU] at hsl ⊢
  by_cases hn : n < 0
  · have hx : bits BinOp.xor IntKind.u64 IntKind.u64.max (IntKind.u64.wrap (2 * IntKind.u64.wrap n)) = (U : Int) := zig_neg hn bn.1 hU
    go_enter Tryd.func14, Tryd.ntmps14
    go_wp2_with fail
    clear hx
    go_loopw [0, 5] (fun b s wr => ∃ (u : Nat) (l1 : List Int), s = .int .u64 u ∧ u < 18446744073709551616 ∧ Ap B w wr ∧ OwnX wr B b l1 ∧ l1 ++ Enc.sevN u = l ++ Enc.sevN U) (fun _ s _ => (intOf s).toNat)
    case atStart => exact ⟨U, l, rfl, hz, Ap.ofGr (Gr.refl w), hown, rfl⟩
    case round =>
        obtain ⟨u, l1, rfl, hu, hap, hox, heq⟩ := hrel
        have hl1 : l1.length ≤ l.length + 10 := by have := congrArg List.length heq; simp only [List.length_append] at this; omega
        have HEQ : Hid _ := heq
        obtain ⟨va, vcap, hv⟩ := hox.form
        subst hv
        have hsz := hap.size
        have AP : Hid _ := And.intro hap hox
        clear heq hap hox
        by_cases h128 : u < 128
        · have x3 : IntKind.u8.wrap (u : Int) = (u : Int) := by rw [IntKind.wrap_u8']; omega
          have d1 : ((128 : Int) ≤ (u : Int)) = False := by simp; omega
          go_wp2_with (at_builtin; (refine app_x rfl _ _ rfl B _ l1 (by rfl) (AP.out.2.gr (by exact (Gr.refl _).alloc _)) ⟨_, 0, none⟩ 1 [(u : Int)] (by rfl) (World.news_of_block (cs := #[.int .u8 ((u : Int))]) (heapA _ _)) Nat.zero_lt_one (by simp only [List.length_singleton]; omega) (by simp; omega) ?_))
          intro v3 w3 hown3 hap3
          have APF : Hid _ := And.intro ((AP.out.1.more ((Gr.refl _).alloc _)).trans hap3) hown3
          clear hown3 hap3
          go_wp2
          go_ret
          exact ⟨_, rfl, APF.out.1, by rw [← HEQ.out, Enc.sevN_lo h128]; exact APF.out.2⟩
        · have hh := Enc.sevN_hi h128
          have x1 := and127 u hu
          have x2 := u8_or128_right ((u : Int) % 128) (by omega) (by omega)
          have x3 : IntKind.u8.wrap ((u : Int) % 128) = (u : Int) % 128 := by rw [IntKind.wrap_u8']; omega
          have d1 : ((128 : Int) ≤ (u : Int)) = True := by simp; omega
          have HH : Hid _ := hh
          clear hh
          go_wp2_with (at_builtin; (refine app_x rfl _ _ rfl B _ l1 (by rfl) (AP.out.2.gr (by exact (Gr.refl _).alloc _)) ⟨_, 0, none⟩ 1 [(u : Int) % 128 + 128] (by rfl) (World.news_of_block (cs := #[.int .u8 ((u : Int) % 128 + 128)]) (heapA _ _)) Nat.zero_lt_one (by simp only [List.length_singleton]; omega) (by simp; omega) ?_))
          intro v3 w3 hown3 hap3
          have APF : Hid _ := And.intro ((AP.out.1.more ((Gr.refl _).alloc _)).trans hap3) hown3
          clear hown3 hap3
          go_wp2
          go_roundw
          case rel => exact ⟨u / 128, l1 ++ [(u : Int) % 128 + 128], by simp, by omega, APF.out.1, Or.inl APF.out.2, by rw [← HEQ.out, HH.out, List.append_assoc]; rfl⟩
          case measure => simp [intOf]; omega
  · have HX : Hid _ := zig_pos hn bn.2 hU
    go_enter Tryd.func14, Tryd.ntmps14
    go_wp2_with fail
    rw [HX.out]
    clear HX
    go_loopw [0, 5] (fun b s wr => ∃ (u : Nat) (l1 : List Int), s = .int .u64 u ∧ u < 18446744073709551616 ∧ Ap B w wr ∧ OwnX wr B b l1 ∧ l1 ++ Enc.sevN u = l ++ Enc.sevN U) (fun _ s _ => (intOf s).toNat)
    case atStart => exact ⟨U, l, rfl, hz, Ap.ofGr (Gr.refl w), hown, rfl⟩
    case round =>
        obtain ⟨u, l1, rfl, hu, hap, hox, heq⟩ := hrel
        have hl1 : l1.length ≤ l.length + 10 := by have := congrArg List.length heq; simp only [List.length_append] at this; omega
        have HEQ : Hid _ := heq
        obtain ⟨va, vcap, hv⟩ := hox.form
        subst hv
        have hsz := hap.size
        have AP : Hid _ := And.intro hap hox
        clear heq hap hox
        by_cases h128 : u < 128
        · have x3 : IntKind.u8.wrap (u : Int) = (u : Int) := by rw [IntKind.wrap_u8']; omega
          have d1 : ((128 : Int) ≤ (u : Int)) = False := by simp; omega
          go_wp2_with (at_builtin; (refine app_x rfl _ _ rfl B _ l1 (by rfl) (AP.out.2.gr (by exact (Gr.refl _).alloc _)) ⟨_, 0, none⟩ 1 [(u : Int)] (by rfl) (World.news_of_block (cs := #[.int .u8 ((u : Int))]) (heapA _ _)) Nat.zero_lt_one (by simp only [List.length_singleton]; omega) (by simp; omega) ?_))
          intro v3 w3 hown3 hap3
          have APF : Hid _ := And.intro ((AP.out.1.more ((Gr.refl _).alloc _)).trans hap3) hown3
          clear hown3 hap3
          go_wp2
          go_ret
          exact ⟨_, rfl, APF.out.1, by rw [← HEQ.out, Enc.sevN_lo h128]; exact APF.out.2⟩
        · have hh := Enc.sevN_hi h128
          have x1 := and127 u hu
          have x2 := u8_or128_right ((u : Int) % 128) (by omega) (by omega)
          have x3 : IntKind.u8.wrap ((u : Int) % 128) = (u : Int) % 128 := by rw [IntKind.wrap_u8']; omega
          have d1 : ((128 : Int) ≤ (u : Int)) = True := by simp; omega
          have HH : Hid _ := hh
          clear hh
          go_wp2_with (at_builtin; (refine app_x rfl _ _ rfl B _ l1 (by rfl) (AP.out.2.gr (by exact (Gr.refl _).alloc _)) ⟨_, 0, none⟩ 1 [(u : Int) % 128 + 128] (by rfl) (World.news_of_block (cs := #[.int .u8 ((u : Int) % 128 + 128)]) (heapA _ _)) Nat.zero_lt_one (by simp only [List.length_singleton]; omega) (by simp; omega) ?_))
          intro v3 w3 hown3 hap3
          have APF : Hid _ := And.intro ((AP.out.1.more ((Gr.refl _).alloc _)).trans hap3) hown3
          clear hown3 hap3
          go_wp2
          go_roundw
          case rel => exact ⟨u / 128, l1 ++ [(u : Int) % 128 + 128], by simp, by omega, APF.out.1, Or.inl APF.out.2, by rw [← HEQ.out, HH.out, List.append_assoc]; rfl⟩
          case measure => simp [intOf]; omega
set_option maxHeartbeats 1600000 in
theorem sevens_any (n : Int) (w : World) (wn : (Lit.int .i64 n).wf = true) :
    Calls Tryd.prog 17 #[.int .i64 n] w fun e w' => ∃ v', e = .returned v' ∧ Gr w w' ∧ OwR w' w.heap.size v' (Enc.sev n) := by
  have bn := bounds_i64 wn
  have hz := Enc.zig_lt wn
  obtain ⟨U, hU⟩ : ∃ U, Enc.zig n = U := ⟨_, rfl⟩
  rw [hU] at hz
  have hsl := Enc.sev_len wn
  unfold Enc.sev at hsl ⊢
  rw [hU] at hsl ⊢
  by_cases hn : n < 0
  · have hx : bits BinOp.xor IntKind.u64 IntKind.u64.max (IntKind.u64.wrap (2 * IntKind.u64.wrap n)) = (U : Int) := zig_neg hn bn.1 hU
    go_enter Tryd.func17, Tryd.ntmps17
    go_wp2_with fail
    clear hx
    go_loopw [4, 3] (fun b s wr => ∃ (u : Nat) (l1 : List Int), s = .int .u64 u ∧ u < 18446744073709551616 ∧ Ap w.heap.size w wr ∧ OwnX wr w.heap.size b l1 ∧ l1 ++ Enc.sevN u = Enc.sevN U) (fun _ s _ => (intOf s).toNat)
    case atStart => exact ⟨U, [], rfl, hz, Ap.ofGr (Gr.refl w), Or.inl (OwR.nil _ _), rfl⟩
    case round =>
        obtain ⟨u, l1, rfl, hu, hap, hox, heq⟩ := hrel
        have hl1 : l1.length ≤ 10 := by have := congrArg List.length heq; simp only [List.length_append] at this; omega
        have HEQ : Hid _ := heq
        obtain ⟨va, vcap, hv⟩ := hox.form
        subst hv
        have hsz := hap.size
        have AP : Hid _ := And.intro hap hox
        clear heq hap hox
        by_cases h128 : u < 128
        · have x3 : IntKind.u8.wrap (u : Int) = (u : Int) := by rw [IntKind.wrap_u8']; omega
          have d1 : ((128 : Int) ≤ (u : Int)) = False := by simp; omega
          go_wp2_with (at_builtin; (refine app_x rfl _ _ rfl w.heap.size _ l1 (by rfl) (AP.out.2.gr (by exact (Gr.refl _).alloc _)) ⟨_, 0, none⟩ 1 [(u : Int)] (by rfl) (World.news_of_block (cs := #[.int .u8 ((u : Int))]) (heapA _ _)) Nat.zero_lt_one (by simp only [List.length_singleton]; omega) (by simp; omega) ?_))
          intro v3 w3 hown3 hap3
          have APF : Hid _ := And.intro ((AP.out.1.more ((Gr.refl _).alloc _)).trans hap3) hown3
          clear hown3 hap3
          go_wp2
          go_ret
          exact ⟨_, rfl, APF.out.1.gr (Gr.refl w) (Nat.le_refl _), by rw [← HEQ.out, Enc.sevN_lo h128]; exact APF.out.2⟩
        · have hh := Enc.sevN_hi h128
          have x3 : IntKind.u8.wrap ((u : Int) % 128) = (u : Int) % 128 := by rw [IntKind.wrap_u8']; omega
          have x4 : IntKind.u8.wrap ((u : Int) % 128 + 128) = (u : Int) % 128 + 128 := by rw [IntKind.wrap_u8']; omega
          have d1 : ((128 : Int) ≤ (u : Int)) = True := by simp; omega
          have HH : Hid _ := hh
          clear hh
          go_wp2_with (at_builtin; (refine app_x rfl _ _ rfl w.heap.size _ l1 (by rfl) (AP.out.2.gr (by exact (Gr.refl _).alloc _)) ⟨_, 0, none⟩ 1 [(u : Int) % 128 + 128] (by rfl) (World.news_of_block (cs := #[.int .u8 ((u : Int) % 128 + 128)]) (heapA _ _)) Nat.zero_lt_one (by simp only [List.length_singleton]; omega) (by simp; omega) ?_))
          intro v3 w3 hown3 hap3
          have APF : Hid _ := And.intro ((AP.out.1.more ((Gr.refl _).alloc _)).trans hap3) hown3
          clear hown3 hap3
          go_wp2
          go_roundw
          case rel => exact ⟨u / 128, l1 ++ [(u : Int) % 128 + 128], by simp, by omega, APF.out.1, Or.inl APF.out.2, by rw [← HEQ.out, HH.out, List.append_assoc]; rfl⟩
          case measure => simp [intOf]; omega
  · have HX : Hid _ := zig_pos hn bn.2 hU
    go_enter Tryd.func17, Tryd.ntmps17
    go_wp2_with fail
    rw [HX.out]
    clear HX
    go_loopw [4, 3] (fun b s wr => ∃ (u : Nat) (l1 : List Int), s = .int .u64 u ∧ u < 18446744073709551616 ∧ Ap w.heap.size w wr ∧ OwnX wr w.heap.size b l1 ∧ l1 ++ Enc.sevN u = Enc.sevN U) (fun _ s _ => (intOf s).toNat)
    case atStart => exact ⟨U, [], rfl, hz, Ap.ofGr (Gr.refl w), Or.inl (OwR.nil _ _), rfl⟩
    case round =>
        obtain ⟨u, l1, rfl, hu, hap, hox, heq⟩ := hrel
        have hl1 : l1.length ≤ 10 := by have := congrArg List.length heq; simp only [List.length_append] at this; omega
        have HEQ : Hid _ := heq
        obtain ⟨va, vcap, hv⟩ := hox.form
        subst hv
        have hsz := hap.size
        have AP : Hid _ := And.intro hap hox
        clear heq hap hox
        by_cases h128 : u < 128
        · have x3 : IntKind.u8.wrap (u : Int) = (u : Int) := by rw [IntKind.wrap_u8']; omega
          have d1 : ((128 : Int) ≤ (u : Int)) = False := by simp; omega
          go_wp2_with (at_builtin; (refine app_x rfl _ _ rfl w.heap.size _ l1 (by rfl) (AP.out.2.gr (by exact (Gr.refl _).alloc _)) ⟨_, 0, none⟩ 1 [(u : Int)] (by rfl) (World.news_of_block (cs := #[.int .u8 ((u : Int))]) (heapA _ _)) Nat.zero_lt_one (by simp only [List.length_singleton]; omega) (by simp; omega) ?_))
          intro v3 w3 hown3 hap3
          have APF : Hid _ := And.intro ((AP.out.1.more ((Gr.refl _).alloc _)).trans hap3) hown3
          clear hown3 hap3
          go_wp2
          go_ret
          exact ⟨_, rfl, APF.out.1.gr (Gr.refl w) (Nat.le_refl _), by rw [← HEQ.out, Enc.sevN_lo h128]; exact APF.out.2⟩
        · have hh := Enc.sevN_hi h128
          have x3 : IntKind.u8.wrap ((u : Int) % 128) = (u : Int) % 128 := by rw [IntKind.wrap_u8']; omega
          have x4 : IntKind.u8.wrap ((u : Int) % 128 + 128) = (u : Int) % 128 + 128 := by rw [IntKind.wrap_u8']; omega
          have d1 : ((128 : Int) ≤ (u : Int)) = True := by simp; omega
          have HH : Hid _ := hh
          clear hh
          go_wp2_with (at_builtin; (refine app_x rfl _ _ rfl w.heap.size _ l1 (by rfl) (AP.out.2.gr (by exact (Gr.refl _).alloc _)) ⟨_, 0, none⟩ 1 [(u : Int) % 128 + 128] (by rfl) (World.news_of_block (cs := #[.int .u8 ((u : Int) % 128 + 128)]) (heapA _ _)) Nat.zero_lt_one (by simp only [List.length_singleton]; omega) (by simp; omega) ?_))
          intro v3 w3 hown3 hap3
          have APF : Hid _ := And.intro ((AP.out.1.more ((Gr.refl _).alloc _)).trans hap3) hown3
          clear hown3 hap3
          go_wp2
          go_roundw
          case rel => exact ⟨u / 128, l1 ++ [(u : Int) % 128 + 128], by simp, by omega, APF.out.1, Or.inl APF.out.2, by rw [← HEQ.out, HH.out, List.append_assoc]; rfl⟩
          case measure => simp [intOf]; omega
end Go.Proofs.YtddamfnoggjkfaaDoor
