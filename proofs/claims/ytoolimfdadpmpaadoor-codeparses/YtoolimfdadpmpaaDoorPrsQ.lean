/- Contracts: a text cut at each byte, a number of digits, by the document (P5.8). -/
import Derived.Test.YtoolimfdadpmpaaDoorPrsP
import Derived.Lib.Strings
import Derived.Shelf.Abstract
import Derived.Deep.DeepCutAuto
import Derived.Deep.CutBlock
namespace Go.Proofs.YtoolimfdadpmpaaDoor
open Go.ChangeShapes Go.WideShapes Go.ChangeAt Go.RowKit
set_option linter.unusedVariables false
namespace Prs
theorem drop_at (s : ByteArray) (k : Nat) (h : k < s.size) : s.data.toList.drop k = s[k] :: s.data.toList.drop (k + 1) := by
  rw [List.drop_eq_getElem_cons (by simpa using h)]; rfl
theorem take_at (s : ByteArray) (k : Nat) (h : k < s.size) : s.data.toList.take (k + 1) = s.data.toList.take k ++ [s[k]] := by
  rw [List.take_succ_eq_append_getElem (by simpa using h)]; rfl
theorem size_l (s : ByteArray) : s.data.toList.length = s.size := by simp
/-- What is cut so far. -/
inductive Cutd (c : UInt8) (s : ByteArray) : Nat → Nat → List (List UInt8) → Prop where
  | on {k f : Nat} {O : List (List UInt8)} (hk : k ≤ s.size) (hf : f ≤ k) (h : parts c s.data.toList = O ++ pre ((s.data.toList.drop f).take (k - f)) (parts c (s.data.toList.drop k))) : Cutd c s k f O
  | end_ {k f : Nat} {O : List (List UInt8)} (hk : k = s.size + 1) (h : parts c s.data.toList = O) : Cutd c s k f O
theorem cutd_0 (c : UInt8) (s : ByteArray) : Cutd c s 0 0 [] := .on (Nat.zero_le _) (Nat.le_refl _) (by simp; exact (pre_nil (parts_ne c _)).symm)
theorem cutd_last {c : UInt8} {s : ByteArray} {k f f' : Nat} {O : List (List UInt8)} (h : Cutd c s k f O) (hk : k = s.size) : Cutd c s (k + 1) f' (O ++ [(s.data.toList.drop f).take (k - f)]) := by
  cases h with
  | end_ h1 h2 => omega
  | on h1 h2 h3 =>
    refine .end_ (by omega) ?_
    have hd : s.data.toList.drop k = [] := List.drop_of_length_le (by rw [size_l]; omega)
    rw [h3, hd]
    simp [parts, pre]
theorem cutd_cut {c : UInt8} {s : ByteArray} {k f : Nat} {O : List (List UInt8)} (h : Cutd c s k f O) (hk : k < s.size) (hc : s[k] = c) : Cutd c s (k + 1) (k + 1) (O ++ [(s.data.toList.drop f).take (k - f)]) := by
  cases h with
  | end_ h1 h2 => omega
  | on h1 h2 h3 =>
    refine .on (by omega) (Nat.le_refl _) ?_
    rw [h3, drop_at s k hk, hc, parts_at]
    simp [pre]
    exact (pre_nil (parts_ne c _)).symm
theorem cutd_on {c : UInt8} {s : ByteArray} {k f : Nat} {O : List (List UInt8)} (h : Cutd c s k f O) (hk : k < s.size) (hc : s[k] ≠ c) : Cutd c s (k + 1) f O := by
  cases h with
  | end_ h1 h2 => omega
  | on h1 h2 h3 =>
    refine .on (by omega) (by omega) ?_
    rw [h3, drop_at s k hk, parts_off hc, pre_pre]
    congr 2
    have e : k + 1 - f = (k - f) + 1 := by omega
    rw [e, List.take_succ_eq_append_getElem (by simp; omega)]
    congr 2
    simp
    have e2 : f + (k - f) = k := by omega
    simp only [e2]
    rfl
theorem cutd_all {c : UInt8} {s : ByteArray} {k f : Nat} {O : List (List UInt8)} (h : Cutd c s k f O) (hk : ¬ k ≤ s.size) : parts c s.data.toList = O := by
  cases h with
  | end_ h1 h2 => exact h2
  | on h1 h2 h3 => omega
theorem cutd_f {c : UInt8} {s : ByteArray} {k f : Nat} {O : List (List UInt8)} (h : Cutd c s k f O) (hk : k ≤ s.size) : f ≤ k := by
  cases h with
  | end_ h1 h2 => omega
  | on h1 h2 h3 => exact h2
def digB (c : Int) : Bool := decide (48 ≤ c) && decide (c ≤ 57)
def allD (l : List UInt8) : Bool := l.all fun c => digB (c.toNat : Int)
theorem allD_at (s : ByteArray) (k : Nat) (h : k < s.size) : allD (s.data.toList.drop k) = (digB (s[k].toNat : Int) && allD (s.data.toList.drop (k + 1))) := by
  rw [drop_at s k h]; simp [allD]
theorem allD_end (s : ByteArray) (k : Nat) (h : s.size ≤ k) : allD (s.data.toList.drop k) = true := by
  rw [List.drop_of_length_le (by simpa using h)]; rfl
theorem allD_dig {l : List UInt8} (h : allD l = true) : ∀ x ∈ l, dig x := fun x hx => by
  have := List.all_eq_true.1 h x hx
  simp [digB] at this
  exact ⟨by omega, by omega⟩
theorem dig_allD {l : List UInt8} (h : ∀ x ∈ l, dig x) : allD l = true := List.all_eq_true.2 fun x hx => by
  have := h x hx
  have h1 := this.1
  have h2 := this.2
  simp [digB]
  omega
theorem num_len {d : List UInt8} (h : ¬ (1 ≤ d.length ∧ d.length ≤ 6)) : num d = none := num_no fun n hn e => h (by rw [← e]; exact Prs.digs_len n (by omega))
theorem num_dig {d : List UInt8} (h : allD d = false) : num d = none := num_no fun n hn e => by
  rw [← e, dig_allD (digs_all n n (Nat.le_refl _))] at h
  cases h
theorem num_head {s : ByteArray} (h1 : 1 < s.size) (h0 : s[0].toNat = 48) : num s.data.toList = none := num_no fun n hn e => by
  have hd := drop_at s 0 (by omega)
  rw [List.drop_zero] at hd
  rcases Nat.eq_zero_or_pos n with z | z
  · have := congrArg List.length e
    rw [z, Lib.decDigits_one (by omega), size_l] at this
    simp at this
    omega
  · exact digs_head n n (Nat.le_refl _) z s[0] (by rw [e, hd]; rfl) h0
theorem num_val {s : ByteArray} (h1 : 1 ≤ s.size) (hd : allD s.data.toList = true) (h0 : ∀ (h : 1 < s.size), s[0].toNat ≠ 48) : num s.data.toList = if val 0 s.data.toList ≤ 8000 then some (val 0 s.data.toList) else none := by
  have hc : Lib.decDigits (val 0 s.data.toList) = s.data.toList := by
    refine canon _ (fun e => by have := size_l s; rw [e, List.length_nil] at this; omega) (allD_dig hd) fun hl x hx => ?_
    rw [size_l] at hl
    have hd := drop_at s 0 (by omega)
    rw [List.drop_zero] at hd
    rw [hd] at hx
    simp only [List.head?_cons, Option.some.injEq] at hx
    rw [← hx]
    exact h0 hl
  unfold num
  by_cases h8 : val 0 s.data.toList ≤ 8000
  · rw [if_pos ⟨h8, hc⟩, if_pos h8]
  · rw [if_neg (fun h => h8 h.1), if_neg h8]
theorem val_take {s : ByteArray} {k : Nat} (h : k < s.size) : val 0 (s.data.toList.take (k + 1)) = val 0 (s.data.toList.take k) * 10 + (s[k].toNat - 48) := by
  rw [take_at s k h, val_app, val_one]
end Prs
structure PtL (w wr : World) (c : UInt8) (s : ByteArray) (k f : Nat) (O : List (List UInt8)) (v : Value) : Prop where
  own : wr.ownsRow w.heap.size 9 1 v O.length (strC O)
  gr : Gr w wr
  len : O.length ≤ k
  st : Prs.Cutd c s k f O
set_option maxHeartbeats 3200000 in
theorem parted_any (s : ByteArray) (c : UInt8) (z : Int) (w : World) (hz : (c.toNat : Int) = z) (hS : s.size ≤ 200000) :
    Calls Tryd.prog 20 #[.string s, .int .u8 z] w fun e w' => (∃ a cap, e = .returned (.slice a (Prs.parts c s.data.toList).length cap) ∧ StrsAt w' a (Prs.parts c s.data.toList)) ∧ Gr w w' := by
  have HZ : Hid _ := hz
  have A0 : Hid (PtL w w c s 0 0 [] (.slice none 0 0)) := ⟨⟨by simp [strC], Or.inl ⟨rfl, rfl⟩⟩, Gr.refl _, Nat.le_refl _, Prs.cutd_0 c s⟩
  obtain ⟨i0, hi, hi1, hi2, hi3⟩ := Tryd.infoStr
  clear hz
  go_enter Tryd.func20, Tryd.ntmps20
  go_wp2_with fail
  go_loopw [7, 6, 5] (fun i fv v wr => ∃ (k f : Nat) (O : List (List UInt8)), k ≤ s.size + 1 ∧ i = .int .i64 k ∧ fv = .int .i64 f ∧ PtL w wr c s k f O v) (fun i _ _ _ => s.size + 1 - (intOf i).toNat)
  case atStart => exact ⟨0, 0, [], Nat.zero_le _, rfl, rfl, A0.out⟩
  case round =>
    obtain ⟨k, f, O, hk, rfl, rfl, hrl⟩ := hrel
    obtain ⟨va, vcap, hv⟩ := owns_formK hrl.own
    subst hv
    have HR : Hid _ := hrl
    have hO := hrl.len
    have hws := hrl.gr.size
    have HO : Hid _ := fun (_ : Unit) => hrl.own
    clear A0 hrl
    by_cases hle : k ≤ s.size
    · have g1 : decide ((k : Int) ≤ ((s.size : Nat) : Int)) = true := by rw [decide_eq_true_iff]; omega
      have hf := Prs.cutd_f HR.out.st hle
      have hx := Lib.extract_eq s f k
      have q1 : (0 : Int) ≤ f := by omega
      have q2 : (f : Int) ≤ k := by omega
      have q3 : (k : Int) ≤ s.size := by omega
      by_cases hend : k = s.size
      · have HC : Hid _ := fun f' => Prs.cutd_last (f' := f') HR.out.st hend
        have g2 : ((k : Int) == ((s.size : Nat) : Int)) = true := by simp; omega
        have HX : Hid _ := hx
        clear hend hx
        go_wp2_with (at_builtin; (refine wpList_append_lies _ rfl _ _ _ rfl w.heap.size 9 i0 _ 1 16 Tryd.underlying51 hi hi1 hi2 hi3 rfl (by decide) _ O.length (strC O) (by rfl) (owns_gr (HO.out ()) (by exact (Gr.refl _).alloc _)) ⟨_, 0, none⟩ 1 1 [.string (s.extract f k)] (by rfl) (by rfl) (World.news_of_block (cs := #[.string (s.extract f k)]) (heapA _ _)) (by simp [Value.oneCell']) (by omega) (by unfold maxLen; omega) (by omega) (by simp; omega) _ rfl ?_))
        intro g cap' w3 hown3 hgrow hat hlt3
        have hrow : ∀ x, (Value.slice va O.length vcap).ownBlock = some x → w.heap.size ≤ x := fun x hx => (owns_lt HR.out.own hx).1
        have Hend : Hid _ := And.intro ((HR.out.gr.alloc _).by_ hgrow hrow) hown3
        clear hown3 hgrow hat hrow
        go_wp2
        go_roundw
        case rel =>
          refine ⟨k + 1, k + 1, O ++ [(s.data.toList.drop f).take (k - f)], by omega, by go_num, by go_num, ?_, Hend.out.1, by simp; omega, HC.out _⟩
          rw [strC_app, List.length_append, List.length_singleton]
          have := Hend.out.2
          rw [HX.out] at this
          exact this
        case measure => simp [intOf]; omega
      · have g2 : ((k : Int) == ((s.size : Nat) : Int)) = false := by simp; omega
        have hlt : k < s.size := by omega
        have HX : Hid _ := hx
        clear hx
        by_cases hc : s[k] = c
        · have HC : Hid _ := Prs.cutd_cut HR.out.st hlt hc
          have g3 : ((s[k].toNat : Int) == z) = true := by rw [← HZ.out, hc]; simp
          clear hc
          go_wp2_with (at_builtin; (refine wpList_append_lies _ rfl _ _ _ rfl w.heap.size 9 i0 _ 1 16 Tryd.underlying51 hi hi1 hi2 hi3 rfl (by decide) _ O.length (strC O) (by rfl) (owns_gr (HO.out ()) (by exact (Gr.refl _).alloc _)) ⟨_, 0, none⟩ 1 1 [.string (s.extract f k)] (by rfl) (by rfl) (World.news_of_block (cs := #[.string (s.extract f k)]) (heapA _ _)) (by simp [Value.oneCell']) (by omega) (by unfold maxLen; omega) (by omega) (by simp; omega) _ rfl ?_))
          intro g cap' w3 hown3 hgrow hat hlt3
          have hrow : ∀ x, (Value.slice va O.length vcap).ownBlock = some x → w.heap.size ≤ x := fun x hx => (owns_lt HR.out.own hx).1
          have Hend : Hid _ := And.intro ((HR.out.gr.alloc _).by_ hgrow hrow) hown3
          clear hown3 hgrow hat hrow
          go_wp2
          go_roundw
          case rel =>
            refine ⟨k + 1, k + 1, O ++ [(s.data.toList.drop f).take (k - f)], by omega, by go_num, by go_num, ?_, Hend.out.1, by simp; omega, HC.out⟩
            rw [strC_app, List.length_append, List.length_singleton]
            have := Hend.out.2
            rw [HX.out] at this
            exact this
          case measure => simp [intOf]; omega
        · have HC : Hid _ := Prs.cutd_on HR.out.st hlt hc
          have hn : (s[k].toNat : Int) ≠ z := fun e => hc (UInt8.toNat_inj.1 (by rw [← HZ.out] at e; omega))
          have g3 : ((s[k].toNat : Int) == z) = false := by simpa using hn
          clear hc hn
          go_wp2
          go_roundw
          case rel => exact ⟨k + 1, f, O, by omega, by go_num, rfl, HR.out.own, HR.out.gr, by omega, HC.out⟩
          case measure => simp [intOf]; omega
    · have g1 : decide ((k : Int) ≤ ((s.size : Nat) : Int)) = false := by rw [decide_eq_false_iff_not]; omega
      have HC : Hid _ := Prs.cutd_all HR.out.st hle
      go_wp2
      go_ret
      refine ⟨?_, HR.out.gr⟩
      rw [HC.out]
      obtain ⟨a', cap', e1, e2, e3⟩ := owns_strs HR.out.own
      cases e1
      exact ⟨va, vcap, rfl, e3⟩
theorem isDig_any (c : Int) (w : World) :
    Calls Tryd.prog 30 #[.int .u8 c] w fun e w' => e = .returned (.bool (Prs.digB c)) ∧ w' = w := by
  unfold Prs.digB
  go_enter Tryd.func30, Tryd.ntmps30
  go_wp2
  all_goals
    go_ret
    exact ⟨ret_bool (by apply Bool.eq_iff_iff.mpr; simp [*] <;> omega), rfl⟩
theorem isDig_in : Enters Tryd.prog 30 := enters_of Tryd.func30 (by kernel_rfl) rfl
set_option maxHeartbeats 400000 in
theorem allDig_any (s : ByteArray) (w : World) (hs : s.size ≤ 200000) :
    Calls Tryd.prog 29 #[.string s, .func (.func 30) #[] #[]] w fun e w' => e = .returned (.bool (Prs.allD s.data.toList)) ∧ w' = w := by
  have he := isDig_in
  unfold Enters at he
  go_enter Tryd.func29, Tryd.ntmps29
  go_wp2
  go_loop [5] (fun i => ∃ k : Nat, k ≤ s.size ∧ i = .int .i64 k ∧ Prs.allD (s.data.toList.drop k) = Prs.allD s.data.toList) (fun i => s.size - (intOf i).toNat)
  case atStart => exact ⟨0, Nat.zero_le _, rfl, rfl⟩
  case round =>
    obtain ⟨k, hk, rfl, hr⟩ := hrel
    have hr' : Hid (Prs.allD (s.data.toList.drop k) = Prs.allD s.data.toList) := hr
    clear hr
    by_cases hlt : k < s.size
    · have ha : Hid (Prs.allD (s.data.toList.drop k) = (Prs.digB (s[k].toNat : Int) && Prs.allD (s.data.toList.drop (k + 1)))) := Prs.allD_at s k hlt
      cases hv : Prs.digB (s[k].toNat : Int)
      all_goals
        go_wp2_with (go_at_fn 30; refine (isDig_any _ _).mono ?_; rintro e w' ⟨rfl, rfl⟩)
        first
          | (go_ret; exact ⟨ret_bool (by rw [← hr'.out, ha.out, hv]; rfl), rfl⟩)
          | (go_round
             case rel => exact ⟨k + 1, by omega, by go_num, by rw [← hr'.out, ha.out, hv]; rfl⟩
             case measure => simp [intOf]; omega)
    · go_wp2
      go_ret
      exact ⟨ret_bool (by rw [← hr'.out]; exact (Prs.allD_end s k (by omega)).symm), rfl⟩
structure DecTPost (w : World) (R : Option Nat) (en : Ending) (w' : World) : Prop where
  ex : (∃ n : Nat, R = some n ∧ en = .returned (.tuple #[.int .i64 n, .int .i64 0])) ∨ (R = none ∧ ∃ x : Int, x ≠ 0 ∧ en = .returned (.tuple #[.int .i64 0, .int .i64 x]))
  wd : w' = w
set_option maxHeartbeats 1600000 in
theorem decimal_any (s : ByteArray) (w : World) (hs : s.size ≤ 200000) :
    Calls Tryd.prog 21 #[.string s, .int .i64 8000] w (DecTPost w (Prs.num s.data.toList)) := by
  have he := isDig_in
  unfold Enters at he
  have hl := Prs.size_l s
  by_cases h1 : 1 ≤ s.size ∧ s.size ≤ 6
  · have hi : decide ((1 : Int) ≤ s.size ∧ (s.size : Int) ≤ 6) = true := by simp; omega
    cases hd : Prs.allD s.data.toList with
    | false =>
      have E : Hid _ := Prs.num_dig hd
      go_enter Tryd.func21, Tryd.ntmps21
      go_wp2_with (first | (go_at_call 14; refine (inOfT_any _ _ _ _).mono ?_; rintro e w1 ⟨rfl, hw1⟩; subst w1; rw [hi]) | (go_at_call 29; refine (allDig_any _ _ hs).mono ?_; rintro e w1 ⟨rfl, hw1⟩; subst w1; rw [hd]))
      go_ret2
      exact ⟨Or.inr ⟨E.out, 4, by decide, rfl⟩, rfl⟩
    | true =>
      by_cases h0 : 1 < s.size ∧ ∃ h : 0 < s.size, s[0].toNat = 48
      · obtain ⟨h2, h3, h4⟩ := h0
        have E : Hid _ := Prs.num_head h2 h4
        have g1 : decide (1 < ((s.size : Nat) : Int)) = true := by rw [decide_eq_true_iff]; omega
        have g2 : ((s[0].toNat : Int) == 48) = true := by simp; omega
        go_enter Tryd.func21, Tryd.ntmps21
        go_wp2_with (first | (go_at_call 14; refine (inOfT_any _ _ _ _).mono ?_; rintro e w1 ⟨rfl, hw1⟩; subst w1; rw [hi]) | (go_at_call 29; refine (allDig_any _ _ hs).mono ?_; rintro e w1 ⟨rfl, hw1⟩; subst w1; rw [hd]))
        go_ret2
        exact ⟨Or.inr ⟨E.out, 4, by decide, rfl⟩, rfl⟩
      · have hnz : ∀ (h : 1 < s.size), s[0].toNat ≠ 48 := fun h e => h0 ⟨h, by omega, e⟩
        have E : Hid _ := Prs.num_val h1.1 hd hnz
        have HA : Hid _ := Prs.allD_dig hd
        obtain ⟨R, hR⟩ : ∃ R, Prs.num s.data.toList = R := ⟨_, rfl⟩
        rw [hR] at E ⊢
        clear hR
        go_enter Tryd.func21, Tryd.ntmps21
        have h00 : 0 < s.size := by omega
        go_upto_region 1 with fail
        go_cut [26] (fun t wx => t = .bool false ∧ wx = w)
        case first =>
          by_cases h2 : 1 < s.size
          · have g1 : decide (1 < ((s.size : Nat) : Int)) = true := by rw [decide_eq_true_iff]; omega
            have g2 : ((s[0].toNat : Int) == 48) = false := by have := hnz h2; simp; omega
            go_wp2_with (first | (go_at_call 14; refine (inOfT_any _ _ _ _).mono ?_; rintro e w1 ⟨rfl, hw1⟩; subst w1; rw [hi]) | (go_at_call 29; refine (allDig_any _ _ hs).mono ?_; rintro e w1 ⟨rfl, hw1⟩; subst w1; rw [hd]))
            go_meet
            case rel => exact ⟨rfl, rfl⟩
          · have g1 : decide (1 < ((s.size : Nat) : Int)) = false := by rw [decide_eq_false_iff_not]; omega
            go_wp2_with (first | (go_at_call 14; refine (inOfT_any _ _ _ _).mono ?_; rintro e w1 ⟨rfl, hw1⟩; subst w1; rw [hi]) | (go_at_call 29; refine (allDig_any _ _ hs).mono ?_; rintro e w1 ⟨rfl, hw1⟩; subst w1; rw [hd]))
            go_meet
            case rel => exact ⟨rfl, rfl⟩
        case rest =>
          obtain ⟨rfl, hwx⟩ := hcut
          obtain rfl := hwx.symm
          go_wp2_with fail
          go_loopw [7, 6] (fun i nv wr => ∃ k : Nat, k ≤ s.size ∧ i = .int .i64 k ∧ nv = .int .i64 (Prs.val 0 (s.data.toList.take k) : Nat) ∧ Prs.val 0 (s.data.toList.take k) + 1 ≤ 10 ^ k ∧ wr = w) (fun i _ _ => s.size - (intOf i).toNat)
          case atStart => exact ⟨0, Nat.zero_le _, rfl, by rfl, Nat.le_refl 1, rfl⟩
          case round =>
            obtain ⟨k, hk, rfl, rfl, hv, rfl⟩ := hrel
            have hp : 10 ^ k ≤ 10 ^ 6 := Nat.pow_le_pow_right (by decide) (by omega)
            have hp6 : 10 ^ 6 = 1000000 := by decide
            by_cases hlt : k < s.size
            · have HV : Hid _ := Prs.val_take hlt
              have hdk := HA.out s[k] (by have := Prs.take_at s k hlt; exact List.mem_of_mem_take (i := k + 1) (by rw [this]; simp))
              have d1 := hdk.1
              have d2 := hdk.2
              have hps : 10 ^ (k + 1) = 10 * 10 ^ k := by rw [Nat.pow_succ]; omega
              have g1 : decide ((k : Int) < ((s.size : Nat) : Int)) = true := by rw [decide_eq_true_iff]; omega
              have hw8 : IntKind.u8.wrap ((s[k].toNat : Int) - 48) = (s[k].toNat : Int) - 48 := by rw [IntKind.wrap_u8]; omega
              obtain ⟨N, hN⟩ : ∃ N, N = Prs.val 0 (s.data.toList.take k) := ⟨_, rfl⟩
              rw [← hN] at hv HV ⊢
              clear hN hdk
              go_wp2
              go_roundw
              case rel =>
                refine ⟨k + 1, by omega, by go_num, ?_, by rw [HV.out]; omega, trivial⟩
                rw [HV.out]
                congr 1
                omega
              case measure => simp [intOf]; omega
            · have g1 : decide ((k : Int) < ((s.size : Nat) : Int)) = false := by rw [decide_eq_false_iff_not]; omega
              have ht : s.data.toList.take k = s.data.toList := List.take_of_length_le (by rw [hl]; omega)
              rw [ht] at hv ⊢
              clear ht
              by_cases h8 : Prs.val 0 s.data.toList ≤ 8000
              · have E1 : Hid (R = some (Prs.val 0 s.data.toList)) := E.out.trans (if_pos h8)
                have g2 : decide (8000 < ((Prs.val 0 s.data.toList : Nat) : Int)) = false := by rw [decide_eq_false_iff_not]; omega
                clear E
                go_wp2
                go_ret2
                exact ⟨Or.inl ⟨_, E1.out, rfl⟩, rfl⟩
              · have E1 : Hid (R = none) := E.out.trans (if_neg h8)
                have g2 : decide (8000 < ((Prs.val 0 s.data.toList : Nat) : Int)) = true := by rw [decide_eq_true_iff]; omega
                clear E
                go_wp2
                go_ret2
                exact ⟨Or.inr ⟨E1.out, 2, by decide, rfl⟩, rfl⟩
  · have hi : decide ((1 : Int) ≤ s.size ∧ (s.size : Int) ≤ 6) = false := by simp; omega
    have E : Hid _ := Prs.num_len (d := s.data.toList) (by rw [hl]; exact h1)
    go_enter Tryd.func21, Tryd.ntmps21
    go_wp2_with (go_at_call 14; refine (inOfT_any _ _ _ _).mono ?_; rintro e w1 ⟨rfl, hw1⟩; subst w1; rw [hi])
    go_ret2
    exact ⟨Or.inr ⟨E.out, 4, by decide, rfl⟩, rfl⟩
end Go.Proofs.YtoolimfdadpmpaaDoor
