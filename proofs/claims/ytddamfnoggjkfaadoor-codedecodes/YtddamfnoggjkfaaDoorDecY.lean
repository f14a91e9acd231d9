/- Contracts: how many, yes or no, numbers, an instruction (P5.6), by the program. -/
import Derived.Test.YtddamfnoggjkfaaDoorDecX
namespace Go.Proofs.YtddamfnoggjkfaaDoor
open Go.ChangeShapes Go.WideShapes Go.ChangeAt Go.RowKit
set_option linter.unusedVariables false
theorem count_bad {most : Int} {l : List Int} {e : Int} {N : Int × List Int × Int} (hN : Dec.number l e = N) (h : N.1 < 0 ∨ most < N.1) : Dec.count most l e = (0, N.2.1, Dec.fail N.2.2 1) := by rw [Dec.count, hN, if_pos h]
theorem count_ok {most : Int} {l : List Int} {e : Int} {N : Int × List Int × Int} (hN : Dec.number l e = N) (h : ¬ (N.1 < 0 ∨ most < N.1)) : Dec.count most l e = N := by rw [Dec.count, hN, if_neg h]
set_option maxHeartbeats 1600000 in
theorem count_any (most : Int) (W w : World) (rb : Nat) (l : List Int) (e : Int) (hR : Rd True W w rb l e) :
    Calls Tryd.prog 34 #[.pointer (some ⟨rb, 0, none⟩), .int .i64 most] w (IntPost W w rb .i64 (Dec.count most l e)) := by
  have HN : Hid _ := fun (_ : Unit) => number_any W w rb l e hR
  have HB : Hid _ := fun N hN h => count_bad (most := most) (l := l) (e := e) (N := N) hN h
  have HC : Hid _ := fun N hN h => count_ok (most := most) (l := l) (e := e) (N := N) hN h
  obtain ⟨⟨n, l1, e1⟩, hNN⟩ : ∃ N, Dec.number l e = N := ⟨_, rfl⟩
  rw [hNN] at HN
  clear hR
  by_cases h1 : n < 0
  · rw [HB.out _ hNN (Or.inl h1)]
    have g1 : decide (n < 0) = true := by simpa using h1
    clear hNN
    go_enter Tryd.func34, Tryd.ntmps34
    go_wp2_with (first | (go_at_call 45; refine (HN.out ()).mono ?_; rintro en w1 ⟨rfl, hR2, hB2⟩) | (go_at_call 33; refine (fail_any True W _ rb _ _ 1 hR2 (by decide)).mono ?_; rintro en w2 ⟨rfl, hR3, hB3⟩))
    go_ret
    exact ⟨ret_int rfl, hR3, hB2.trans hB3⟩
  · have g1 : decide (n < 0) = false := by simpa using h1
    by_cases h2 : most < n
    · rw [HB.out _ hNN (Or.inr h2)]
      have g2 : decide (most < n) = true := by simpa using h2
      clear hNN
      go_enter Tryd.func34, Tryd.ntmps34
      go_wp2_with (first | (go_at_call 45; refine (HN.out ()).mono ?_; rintro en w1 ⟨rfl, hR2, hB2⟩) | (go_at_call 33; refine (fail_any True W _ rb _ _ 1 hR2 (by decide)).mono ?_; rintro en w2 ⟨rfl, hR3, hB3⟩))
      go_ret
      exact ⟨ret_int rfl, hR3, hB2.trans hB3⟩
    · rw [HC.out _ hNN (by simp only; omega)]
      have g2 : decide (most < n) = false := by simpa using h2
      clear hNN
      go_enter Tryd.func34, Tryd.ntmps34
      go_wp2_with (first | (go_at_call 45; refine (HN.out ()).mono ?_; rintro en w1 ⟨rfl, hR2, hB2⟩))
      go_ret
      exact ⟨ret_int rfl, hR2, hB2⟩
structure BoolPost (W w : World) (rb : Nat) (R : Bool × List Int × Int) (en : Ending) (w' : World) : Prop where
  en : en = .returned (.bool R.1)
  rd : Rd True W w' rb R.2.1 R.2.2
  bg : Bg rb w w'
theorem yes_eq {l : List Int} {e : Int} {N : Int × List Int × Int} (hN : Dec.number l e = N) : Dec.yes l e = (N.1 == 1, N.2.1, if N.1 ≠ 0 ∧ N.1 ≠ 1 then Dec.fail N.2.2 4 else N.2.2) := by rw [Dec.yes, hN]
set_option maxHeartbeats 1600000 in
theorem yes_any (W w : World) (rb : Nat) (l : List Int) (e : Int) (hR : Rd True W w rb l e) :
    Calls Tryd.prog 47 #[.pointer (some ⟨rb, 0, none⟩)] w (BoolPost W w rb (Dec.yes l e)) := by
  have HN : Hid _ := fun (_ : Unit) => number_any W w rb l e hR
  obtain ⟨⟨n, l1, e1⟩, hNN⟩ : ∃ N, Dec.number l e = N := ⟨_, rfl⟩
  rw [yes_eq hNN]
  rw [hNN] at HN
  clear hR hNN
  simp only
  by_cases h0 : n = 0
  · subst h0
    go_enter Tryd.func47, Tryd.ntmps47
    go_wp2_with (first | (go_at_call 45; refine (HN.out ()).mono ?_; rintro en w1 ⟨rfl, hR2, hB2⟩))
    go_ret
    exact ⟨rfl, by simpa using hR2, hB2⟩
  · have g0 : (n != 0) = true := by simpa using h0
    by_cases h1 : n = 1
    · subst h1
      go_enter Tryd.func47, Tryd.ntmps47
      go_wp2_with (first | (go_at_call 45; refine (HN.out ()).mono ?_; rintro en w1 ⟨rfl, hR2, hB2⟩))
      go_ret
      exact ⟨rfl, by simpa using hR2, hB2⟩
    · have g1 : (n != 1) = true := by simpa using h1
      have g2 : (n == 1) = false := by simpa using h1
      rw [if_pos ⟨h0, h1⟩, g2]
      go_enter Tryd.func47, Tryd.ntmps47
      go_wp2_with (first | (go_at_call 45; refine (HN.out ()).mono ?_; rintro en w1 ⟨rfl, hR2, hB2⟩) | (go_at_call 33; refine (fail_any True W _ rb _ _ 4 hR2 (by decide)).mono ?_; rintro en w2 ⟨rfl, hR3, hB3⟩))
      go_ret
      exact ⟨rfl, hR3, hB2.trans hB3⟩
end Go.Proofs.YtddamfnoggjkfaaDoor
