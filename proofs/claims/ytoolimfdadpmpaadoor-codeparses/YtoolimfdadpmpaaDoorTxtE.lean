/- Contracts: TextOf (P5.7), by the document. -/
import Derived.Test.YtoolimfdadpmpaaDoorTxtD
namespace Go.Proofs.YtoolimfdadpmpaaDoor
open Go.ChangeShapes Go.WideShapes Go.ChangeAt Go.RowKit
set_option linter.unusedVariables false
theorem dig_len (n : Nat) (h : n ≤ 8000) : (Lib.decDigits n).length ≤ 30 := by
  have := Lib.itoa_length_le (n : Int) (by omega) (by omega)
  rw [Lib.itoa_nonneg] at this
  omega
theorem dig_more {n : Nat} (h : ¬ n < 10) : Lib.decDigits n = Lib.decDigits (n / 10) ++ Lib.decDigits (n % 10) := by
  rw [Lib.decDigits, dif_neg h, Lib.decDigits_one (Nat.mod_lt _ (by decide))]
set_option maxHeartbeats 1600000 in
theorem dec_low (n : Nat) (h10 : n < 10) (w : World) :
    Calls Tryd.prog 17 #[.int .i64 n] w fun e w' => e = .returned (.string ⟨(Lib.decDigits n).toArray⟩) ∧ Gr w w' := by
  have g : decide ((n : Int) < 10) = true := by rw [decide_eq_true_iff]; omega
  have hw8 : IntKind.u8.wrap (48 + (n : Int)) = 48 + (n : Int) := by rw [IntKind.wrap_u8]; omega
  obtain ⟨U, hU⟩ : ∃ U, U = UInt8.ofNat (48 + n) := ⟨_, rfl⟩
  have E : Hid (Lib.decDigits n = [U]) := by show Lib.decDigits n = _; rw [hU]; exact Lib.decDigits_one h10
  have hcv : (convert 32 9 (.slice (some ⟨w.heap.size, 0, none⟩) 1 1)).run Tryd.prog (w.alloc (Obj.cells #[.int .u8 (48 + (n : Int))] 5)) = .ok (.string ⟨#[U]⟩) (w.alloc (Obj.cells #[.int .u8 (48 + (n : Int))] 5)) := by
    refine run_convert_bytes_back (P := Tryd.prog) _ 32 9 5 ⟨w.heap.size, 0, none⟩ 1 [U] Tryd.underlying32 Tryd.underlying5 Tryd.underlying9 (fun j hj => ?_)
    have hj0 : j = 0 := by simp at hj; omega
    subst hj0
    have := (row_all (heapA w (Obj.cells #[.int .u8 (48 + (n : Int))] 5))).1 0
    rw [show (⟨w.heap.size, 0, none⟩ : Addr).add 0 = ⟨w.heap.size, 0, none⟩ from Go.WideShapes.add_plain .., this, hU]
    simp
    omega
  clear hU
  go_enter Tryd.func17, Tryd.ntmps17
  go_wp2
  go_ret
  exact ⟨by rw [E.out]; rfl, (Gr.refl _).alloc _⟩
set_option maxHeartbeats 1600000 in
theorem dec_any : ∀ (f n : Nat), n ≤ f → n ≤ 8000 → ∀ w : World,
    Calls Tryd.prog 17 #[.int .i64 n] w fun e w' => e = .returned (.string ⟨(Lib.decDigits n).toArray⟩) ∧ Gr w w' := by
  intro f
  induction f with
  | zero =>
    intro n hn h8 w
    exact dec_low n (by omega) w
  | succ f ih =>
    intro n hn h8 w
    by_cases h10 : n < 10
    · exact dec_low n h10 w
    · have g : decide ((n : Int) < 10) = false := by rw [decide_eq_false_iff_not]; omega
      have E : Hid _ := dig_more h10
      have q1 : Int.tdiv (n : Int) 10 = ((n / 10 : Nat) : Int) := by rw [Int.tdiv_eq_ediv_of_nonneg (by omega)]; omega
      have q2 : Int.tmod (n : Int) 10 = ((n % 10 : Nat) : Int) := by rw [Int.tmod_eq_emod_of_nonneg (by omega)]; omega
      have l1 := dig_len (n / 10) (by omega)
      have l2 := dig_len (n % 10) (by omega)
      have b1 : ¬ 9223372036854775807 < (Lib.decDigits (n / 10)).length + (Lib.decDigits (n % 10)).length := by omega
      have HD : Hid _ := fun (z : Int) (m : Nat) (hz : z = m) (h1 : m ≤ f) (h2 : m ≤ 8000) W => hz ▸ ih m h1 h2 W
      have s1 : n / 10 ≤ f := by omega
      have s2 : n % 10 ≤ f := by omega
      obtain ⟨d, hd⟩ : ∃ d, d = n / 10 := ⟨_, rfl⟩
      obtain ⟨r, hr⟩ : ∃ r, r = n % 10 := ⟨_, rfl⟩
      rw [← hd] at q1 l1 b1 s1 E
      rw [← hr] at q2 l2 b1 s2 E
      have s3 : d ≤ 8000 := by omega
      have s4 : r ≤ 8000 := by omega
      clear ih hd hr
      have HI : Hid _ := fun (m : Nat) (h1 : m ≤ f) (h2 : m ≤ 8000) W => HD.out (m : Int) m rfl h1 h2 W
      clear HD
      go_enter Tryd.func17, Tryd.ntmps17
      go_wp2_with (go_at_call 17; refine (HI.out _ (by assumption) (by assumption) _).mono ?_; rintro e w1 ⟨rfl, hg1⟩)
      go_ret
      exact ⟨by rw [E.out, ← app_arrT]; rfl, Gr.trans (by assumption) hg1⟩
set_option maxHeartbeats 1600000 in
theorem opNameOf_any (op : Int) (w : World) (h1 : 1 ≤ op) (h2 : op ≤ 6) :
    Calls Tryd.prog 16 #[.int .i64 op] w fun e w' => e = .returned (.string ⟨(Txl.nm op).toArray⟩) ∧ Gr w w' := by
  rcases ops6 h1 h2 with rfl | rfl | rfl | rfl | rfl | rfl
  all_goals
    go_enter Tryd.func16, Tryd.ntmps16
    go_wp2
    go_ret
    exact ⟨rfl, (Gr.refl _).alloc _⟩
theorem hasNo_any (op : Int) (w : World) : Calls Tryd.prog 15 #[.int .i64 op] w fun e w' => e = .returned (.bool (numbered op)) ∧ w' = w := by
  by_cases h1 : op = 1
  · subst h1
    go_enter Tryd.func15, Tryd.ntmps15
    go_wp2
    go_ret
    exact ⟨rfl, rfl⟩
  · have g1 : (op != 1) = true := by simpa using h1
    by_cases h3 : op = 3
    · subst h3
      go_enter Tryd.func15, Tryd.ntmps15
      go_wp2
      go_ret
      exact ⟨rfl, rfl⟩
    · have g3 : (op != 3) = true := by simpa using h3
      go_enter Tryd.func15, Tryd.ntmps15
      go_wp2
      go_ret
      exact ⟨ret_bool (by simp [numbered, h1, h3]), rfl⟩
theorem inOfT_any (n lo hi : Int) (w : World) : Calls Tryd.prog 14 #[.int .i64 n, .int .i64 lo, .int .i64 hi] w fun e w' => e = .returned (.bool (decide (lo ≤ n ∧ n ≤ hi))) ∧ w' = w := by
  by_cases h1 : lo ≤ n
  · have g1 : decide (lo ≤ n) = true := by simpa using h1
    go_enter Tryd.func14, Tryd.ntmps14
    go_wp2
    go_ret
    exact ⟨ret_bool (by simp; exact fun _ => h1), rfl⟩
  · have g1 : decide (lo ≤ n) = false := by simpa using h1
    go_enter Tryd.func14, Tryd.ntmps14
    go_wp2
    go_ret
    exact ⟨ret_bool (by simp), rfl⟩
set_option maxRecDepth 8000 in
set_option maxHeartbeats 3200000 in
theorem textOf_any (l : List Ins) (a : Option Addr) (cap : Nat) (w : World) (hA : InssAt w a l) :
    Calls Tryd.prog 6 #[.slice a l.length cap] w fun e w' => e = .returned (.tuple #[.string ⟨(Txl.textV l).toArray⟩, .int .i64 (Txl.textE l)]) ∧ Gr w w' := by
  by_cases hl : 8000 < l.length
  · have E1 : Hid (Txl.textE l = 1) := if_pos hl
    have E2 : Hid (Txl.textV l = []) := if_neg (by rw [E1.out]; decide)
    have g : decide (8000 < ((l.length : Nat) : Int)) = true := by rw [decide_eq_true_iff]; omega
    go_enter Tryd.func6, Tryd.ntmps6
    go_wp2
    go_ret2
    exact ⟨by rw [E1.out, E2.out]; rfl, Gr.refl _⟩
  · have E0 : Hid (Txl.textE l = Txl.bad l) := if_neg hl
    have EV : Hid (Txl.textE l = 0 → Txl.textV l = l.flatMap Txl.line) := fun h => if_pos h
    have EN : Hid (Txl.textE l ≠ 0 → Txl.textV l = []) := fun h => if_neg h
    have g : decide (8000 < ((l.length : Nat) : Int)) = false := by rw [decide_eq_false_iff_not]; omega
    go_enter Tryd.func6, Tryd.ntmps6
    go_wp2_with fail
    go_loopw [5, 4] (fun t s wr => ∃ k : Nat, k ≤ l.length ∧ t = .int .i64 k ∧ s = .string ⟨((l.take k).flatMap Txl.line).toArray⟩ ∧ (∀ y ∈ l.take k, Txl.lineE y = 0) ∧ Gr w wr) (fun t _ _ => l.length - (intOf t).toNat)
    case atStart => exact ⟨0, Nat.zero_le _, rfl, rfl, (fun y hy => by simp at hy), Gr.refl _⟩
    case round =>
      obtain ⟨k, hk, rfl, rfl, hOK, hG⟩ := hrel
      have HOK : Hid _ := hOK
      clear hOK
      by_cases hlt : k < l.length
      · obtain ⟨x, hx⟩ : ∃ x, l[k]? = some x := ⟨_, List.getElem?_eq_getElem hlt⟩
        obtain ⟨b, o, rfl, hb, h1, h2⟩ := hA.cell k x hx
        obtain ⟨op, n⟩ := x
        have g3 : decide ((k : Int) < ((l.length : Nat) : Int)) = true := by rw [decide_eq_true_iff]; omega
        have c1 := (hG.cell b _ hb).trans h1
        have c2 := (hG.cell b _ hb).trans h2
        simp only at c1 c2
        have hbw : b < wr.heap.size := Nat.lt_of_lt_of_le hb hG.size
        have HBA : Hid _ := fun h => Txl.bad_at hx HOK.out h
        have HTK : Hid ((l.take (k + 1)).flatMap Txl.line = (l.take k).flatMap Txl.line ++ Txl.line ⟨op, n⟩) := by show (l.take (k + 1)).flatMap Txl.line = _; rw [List.take_add_one, hx]; simp
        have HTM : Hid (∀ h : Txl.lineE ⟨op, n⟩ = 0, ∀ y ∈ l.take (k + 1), Txl.lineE y = 0) := fun h y hy => by
          rw [List.take_add_one, hx] at hy
          rcases List.mem_append.1 hy with hy | hy
          · exact HOK.out y hy
          · simp at hy; rw [hy]; exact h
        have hlen := Txl.lines_len HOK.out
        rw [List.length_take, Nat.min_eq_left (by omega)] at hlen
        obtain ⟨T, hTT⟩ : ∃ T, T = (l.take k).flatMap Txl.line := ⟨_, rfl⟩
        rw [← hTT] at hlen HTK ⊢
        clear hx h1 h2 hTT
        cases ho : Ver.isOp op with
        | false =>
          have hdo : decide (1 ≤ op ∧ op ≤ 6) = false := ho
          have HEE : Hid (Txl.textE l = 3) := by show Txl.textE l = 3; rw [E0.out, HBA.out (by rw [Txl.lineE_kind ho]; decide), Txl.lineE_kind ho]
          clear HBA HTM HTK
          go_wp2_with (go_at_call 14; refine (inOfT_any op 1 6 _).mono ?_; rintro e w1 ⟨rfl, hw1⟩; subst w1; rw [hdo])
          go_ret2
          exact ⟨by rw [HEE.out, EN.out (by rw [HEE.out]; decide)]; rfl, hG⟩
        | true =>
          have hdo : decide (1 ≤ op ∧ op ≤ 6) = true := ho
          have h16 := of_decide_eq_true hdo
          have EL : Hid (Txl.lineE ⟨op, n⟩ = if 0 ≤ n ∧ n ≤ (if numbered op = true then 8000 else 0) then 0 else 2) := Txl.lineE_op ho
          have HON : Hid _ := fun W => opNameOf_any op W h16.1 h16.2
          have hnl := Txl.nm_len op
          cases hdn : decide (0 ≤ n ∧ n ≤ 8000) with
          | false =>
            have hn8 := of_decide_eq_false hdn
            have HL2 : Hid (Txl.lineE ⟨op, n⟩ = 2) := by show Txl.lineE ⟨op, n⟩ = 2; rw [EL.out, if_neg (by split <;> omega)]
            have HEE : Hid (Txl.textE l = 2) := by show Txl.textE l = 2; rw [E0.out, HBA.out (by rw [HL2.out]; decide), HL2.out]
            clear HBA HTM HTK EL
            go_wp2_with (go_at_call 14; refine (inOfT_any _ _ _ _).mono ?_; rintro e w1 ⟨rfl, hw1⟩; subst w1; first | rw [hdo] | rw [hdn])
            go_ret2
            exact ⟨by rw [HEE.out, EN.out (by rw [HEE.out]; decide)]; rfl, hG⟩
          | true =>
            have hn8 := of_decide_eq_true hdn
            cases hn : numbered op with
            | false =>
              by_cases hn0 : 0 < n
              · have g5 : decide (0 < n) = true := by simpa using hn0
                have HL2 : Hid (Txl.lineE ⟨op, n⟩ = 2) := by show Txl.lineE ⟨op, n⟩ = 2; rw [EL.out, hn, if_neg (by simp; omega)]
                have HEE : Hid (Txl.textE l = 2) := by show Txl.textE l = 2; rw [E0.out, HBA.out (by rw [HL2.out]; decide), HL2.out]
                clear HBA HTM HTK EL
                go_wp2_with (first | (go_at_call 14; refine (inOfT_any _ _ _ _).mono ?_; rintro e w1 ⟨rfl, hw1⟩; subst w1; first | rw [hdo] | rw [hdn]) | (go_at_call 15; refine (hasNo_any op _).mono ?_; rintro e w1 ⟨rfl, hw1⟩; subst w1; rw [hn]))
                go_ret2
                exact ⟨by rw [HEE.out, EN.out (by rw [HEE.out]; decide)]; rfl, hG⟩
              · have g5 : decide (0 < n) = false := by simpa using hn0
                have HL0 : Hid (Txl.lineE ⟨op, n⟩ = 0) := by show Txl.lineE ⟨op, n⟩ = 0; rw [EL.out, hn, if_pos (by simp; omega)]
                have HLI : Hid (Txl.line ⟨op, n⟩ = Txl.nm op ++ [10]) := if_neg (by show ¬ numbered op = true; rw [hn]; decide)
                clear HBA EL
                have b1 : ¬ 9223372036854775807 < T.length + (Txl.nm op).length := by omega
                have b2 : ¬ 9223372036854775807 < T.length + (Txl.nm op).length + 1 := by omega
                go_upto_region 12 with (first | (go_at_call 14; refine (inOfT_any _ _ _ _).mono ?_; rintro e w1 ⟨rfl, hw1⟩; subst w1; first | rw [hdo] | rw [hdn]) | (go_at_call 15; refine (hasNo_any op _).mono ?_; rintro e w1 ⟨rfl, hw1⟩; subst w1; rw [hn]) | (go_at_call 16; refine (HON.out _).mono ?_; rintro e w2 ⟨rfl, hg2⟩))
                have d1 := (hg2.cell b (o + k * 2) hbw).trans c1
                have d2 := (hg2.cell b (o + k * 2 + 1) hbw).trans c2
                have gE := hG.trans hg2
                clear c1 c2 hg2
                go_wp2_with (go_at_call 15; refine (hasNo_any op _).mono ?_; rintro e w1 ⟨rfl, hw1⟩; subst w1; rw [hn])
                refine ⟨⟨k + 1, by omega, by go_num, ?_, HTM.out HL0.out, gE⟩, by simp [intOf]; omega⟩
                rw [HTK.out, HLI.out, ← app_arrT, ← app_arrT, ByteArray.append_assoc]
            | true =>
              have HL0 : Hid (Txl.lineE ⟨op, n⟩ = 0) := by show Txl.lineE ⟨op, n⟩ = 0; rw [EL.out, hn, if_pos (by simp; omega)]
              have HLI : Hid (Txl.line ⟨op, n⟩ = Txl.nm op ++ [32] ++ Lib.itoa n ++ [10]) := if_pos hn
              obtain ⟨m, rfl⟩ : ∃ m : Nat, n = m := ⟨n.toNat, by omega⟩
              have hdl := dig_len m (by omega)
              have HDE : Hid _ := fun W => dec_any m m (Nat.le_refl _) (by omega) W
              clear HBA EL
              have b1 : ¬ 9223372036854775807 < T.length + (Txl.nm op).length := by omega
              have b2 : ¬ 9223372036854775807 < T.length + (Txl.nm op).length + 1 := by omega
              have b3 : ¬ 9223372036854775807 < T.length + (Txl.nm op).length + 1 + (Lib.decDigits m).length := by omega
              have b4 : ¬ 9223372036854775807 < T.length + (Txl.nm op).length + 1 + (Lib.decDigits m).length + 1 := by omega
              go_upto_region 12 with (first | (go_at_call 14; refine (inOfT_any _ _ _ _).mono ?_; rintro e w1 ⟨rfl, hw1⟩; subst w1; first | rw [hdo] | rw [hdn]) | (go_at_call 15; refine (hasNo_any op _).mono ?_; rintro e w1 ⟨rfl, hw1⟩; subst w1; rw [hn]) | (go_at_call 16; refine (HON.out _).mono ?_; rintro e w2 ⟨rfl, hg2⟩))
              have d1 := (hg2.cell b (o + k * 2) hbw).trans c1
              have d2 := (hg2.cell b (o + k * 2 + 1) hbw).trans c2
              have gE := hG.trans hg2
              clear c1 c2 hg2
              go_wp2_with (first | (go_at_call 15; refine (hasNo_any op _).mono ?_; rintro e w1 ⟨rfl, hw1⟩; subst w1; rw [hn]) | (go_at_call 17; refine (HDE.out _).mono ?_; rintro e w3 ⟨rfl, hg3⟩))
              refine ⟨⟨k + 1, by omega, by go_num, ?_, HTM.out HL0.out, gE.trans hg3⟩, by simp [intOf]; omega⟩
              rw [HTK.out, HLI.out, Lib.itoa_nonneg]
              simp only [← app_arrT, ByteArray.append_assoc]
      · have g3 : decide ((k : Int) < ((l.length : Nat) : Int)) = false := by rw [decide_eq_false_iff_not]; omega
        have hke : l.take k = l := List.take_of_length_le (by omega)
        rw [hke] at HOK ⊢
        have HEE : Hid (Txl.textE l = 0) := E0.out.trans (Txl.bad_none HOK.out)
        clear hke
        go_wp2
        go_ret2
        exact ⟨by rw [HEE.out, EV.out HEE.out]; rfl, hG⟩
end Go.Proofs.YtoolimfdadpmpaaDoor
