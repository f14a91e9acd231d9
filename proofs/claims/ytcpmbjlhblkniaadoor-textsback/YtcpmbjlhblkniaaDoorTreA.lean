/- Contracts: what is wrong with an answer (P4.4), by the program and by the document's answer. -/
import Derived.Test.YtcpmbjlhblkniaaDoorTreM
import Derived.Test.YtcpmbjlhblkniaaDoorPlain
import Derived.Test.YtcpmbjlhblkniaaDoorRows
import Derived.WalkKit
import Derived.ProofKit
import Derived.OpenShut
namespace Go.Proofs.YtcpmbjlhblkniaaDoor
open Go.ChangeShapes Go.WideShapes Go.ChangeAt Go.RowKit
set_option linter.unusedVariables false
theorem offMay_any (n : Int) (w : World) :
    Calls Tryd.prog 66 #[.int .i64 n] w fun e w' => e = .returned (.bool (Tre.okOff n)) ∧ w' = w := by
  go_enter Tryd.func66, Tryd.ntmps66
  go_wp2
  all_goals
    go_ret
    exact ⟨ret_bool (by simp [Tre.okOff, Tre.inB] <;> omega), rfl⟩
theorem ansF_no {off jump : Int} (zs : List Int) (nm : Nat) (h : ¬ (Tre.okOff off = true ∧ -1099511627776 ≤ jump ∧ jump ≤ 1099511627776)) : Tre.ansF off jump zs nm = 2 := by
  unfold Tre.ansF; rw [if_neg h]
theorem ansF_yes {off jump : Int} (zs : List Int) (nm : Nat) (h : Tre.okOff off = true ∧ -1099511627776 ≤ jump ∧ jump ≤ 1099511627776) : Tre.ansF off jump zs nm = if zs.all Tre.okOff = true then (if 6 < zs.length ∨ 24 < nm then 1 else 0) else 2 := by
  unfold Tre.ansF; rw [if_pos h]
set_option maxHeartbeats 1600000 in
theorem checkAnswer_any (off jump : Int) (sv : Bool) (nm : ByteArray) (a : Option Addr) (cap : Nat) (zs : List Int) (w : World) (hz : IntsAt w a zs) (hn : nm.size ≤ maxLen) :
    Calls Tryd.prog 41 #[.agg #[.int .i64 off, .bool sv, .string nm, .slice a zs.length cap, .int .i64 jump]] w fun e w' => e = .returned (.int .i64 (Tre.ansF off jump zs nm.size)) ∧ Grown w w' := by
  obtain ⟨hl, hz⟩ := hz
  unfold maxLen at hl hn
  by_cases h0 : Tre.okOff off = true ∧ -1099511627776 ≤ jump ∧ jump ≤ 1099511627776
  · have E0 : Hid _ := ansF_yes zs nm.size h0
    obtain ⟨ho, hj1, hj2⟩ := h0
    go_enter Tryd.func41, Tryd.ntmps41
    go_wp2_with (go_at_call 66; refine (offMay_any _ _).mono ?_; rintro e w1 ⟨rfl, rfl⟩)
    go_loop [23] (fun t => ∃ k : Nat, k ≤ zs.length ∧ t = .int .i64 k ∧ ∀ (i : Nat) z, i < k → zs[i]? = some z → Tre.okOff z = true) (fun t => zs.length - (intOf t).toNat)
    case atStart => exact ⟨0, Nat.zero_le _, rfl, fun i z h => absurd h (Nat.not_lt_zero _)⟩
    case round =>
      obtain ⟨k, hk, rfl, hall⟩ := hrel
      have Hall : Hid _ := hall
      clear hall
      by_cases hlt : k < zs.length
      · have hg : zs[k]? = some zs[k] := List.getElem?_eq_getElem hlt
        obtain ⟨b, o, rfl, hb, hc⟩ := hz k _ hg
        have Hg : Hid _ := hg
        have Hz : Hid _ := hz
        clear hg hz
        have hb' : b ≠ w.heap.size := by omega
        cases hq : Tre.okOff zs[k] with
        | false =>
          go_wp2_with (go_at_call 66; refine (offMay_any _ _).mono ?_; rintro e w1 ⟨rfl, rfl⟩)
          go_ret
          exact ⟨ret_int (by rw [E0.out, Tre.all_false Hg.out hq]; rfl), (Grown.refl _).alloc _ _⟩
        | true =>
          go_wp2_with (go_at_call 66; refine (offMay_any _ _).mono ?_; rintro e w1 ⟨rfl, rfl⟩)
          go_round
          case rel =>
            refine ⟨k + 1, by omega, by go_num, fun i z hi hg => ?_⟩
            rcases Nat.lt_succ_iff_lt_or_eq.1 hi with h | rfl
            · exact Hall.out i z h hg
            · rw [Hg.out] at hg; cases hg; exact hq
          case measure => simp [intOf]; omega
      · have he : zs.all Tre.okOff = true := Tre.all_true fun i z hg => Hall.out i z (by have := (List.getElem?_eq_some_iff.1 hg).1; omega) hg
        have E1 : Hid _ := E0.out.trans (if_pos he)
        clear he
        by_cases h6 : 6 < zs.length
        · go_wp2
          all_goals
            go_ret
            exact ⟨ret_int (by rw [E1.out]; simp [h6]), (Grown.refl _).alloc _ _⟩
        · go_wp2
          all_goals
            go_ret
            exact ⟨ret_int (by rw [E1.out]; simp <;> omega), (Grown.refl _).alloc _ _⟩
  · rw [ansF_no zs nm.size h0]
    by_cases ho : Tre.okOff off = true
    · by_cases hj : jump < -1099511627776
      · clear h0
        go_enter Tryd.func41, Tryd.ntmps41
        go_wp2_with (go_at_call 66; refine (offMay_any _ _).mono ?_; rintro e w1 ⟨rfl, rfl⟩)
        go_ret
        exact ⟨rfl, (Grown.refl _).alloc _ _⟩
      · have hj2 : 1099511627776 < jump := by
          by_cases h : jump ≤ 1099511627776
          · exact absurd ⟨ho, by omega, h⟩ h0
          · omega
        clear h0
        go_enter Tryd.func41, Tryd.ntmps41
        go_wp2_with (go_at_call 66; refine (offMay_any _ _).mono ?_; rintro e w1 ⟨rfl, rfl⟩)
        go_ret
        exact ⟨rfl, (Grown.refl _).alloc _ _⟩
    · clear h0
      go_enter Tryd.func41, Tryd.ntmps41
      go_wp2_with (go_at_call 66; refine (offMay_any _ _).mono ?_; rintro e w1 ⟨rfl, rfl⟩)
      go_ret
      exact ⟨rfl, (Grown.refl _).alloc _ _⟩
end Go.Proofs.YtcpmbjlhblkniaaDoor
