/- Contracts: what is wrong with spans (P4.1), by the program and by the document's answer. -/
import Derived.Test.YthnbmeihaojfnaaSpnM
import Derived.Test.YthnbmeihaojfnaaTreV
import Derived.Test.YthnbmeihaojfnaaTreA
import Derived.Test.YthnbmeihaojfnaaYear
import Derived.Deep.QuietTactic
import Derived.BigQuiet
import Derived.Deep.Cut
namespace Go.Proofs.Ythnbmeihaojfnaa
open Go.ChangeShapes Go.WideShapes Go.ChangeAt Go.RowKit
set_option linter.unusedVariables false
set_option maxHeartbeats 1600000 in
theorem checkSpans_any (a : Option Addr) (cap : Nat) (l : List Spn) (w : World) (hl : SpansAt w a l) :
    Calls Try.prog 18 #[.slice a l.length cap] w fun e w' => e = .returned (.int .i64 (spnsF l)) ∧ Gr w w' := by
  have l1 := hl.len
  unfold maxLen at l1
  by_cases h6 : l.length = 0
  · have E : Hid _ := spnsF_6 h6
    have g : ((l.length : Int) == 0) = true := by simpa using h6
    clear h6
    go_enter Try.func18, Try.ntmps18
    go_wp2_with (go_at_call 14; refine (window_any _).mono ?_; rintro e v1 ⟨rfl, hw1⟩; subst v1)
    go_ret
    exact ⟨ret_int E.out.symm, Gr.refl _⟩
  have g : ((l.length : Int) == 0) = false := by simpa using h6
  by_cases h1 : 1000 < l.length
  · have E : Hid _ := spnsF_1 h6 h1
    clear h6
    go_enter Try.func18, Try.ntmps18
    go_wp2_with (go_at_call 14; refine (window_any _).mono ?_; rintro e v1 ⟨rfl, hw1⟩; subst v1)
    go_ret
    exact ⟨ret_int E.out.symm, Gr.refl _⟩
  have b1 : l.length ≤ 1000 := by omega
  have H6 : Hid _ := h6
  have H1 : Hid _ := h1
  clear h6 h1
  have d1 : decide (1000 < (l.length : Int)) = false := by simp; omega
  go_enter Try.func18, Try.ntmps18
  go_wp2_with (go_at_call 14; refine (window_any _).mono ?_; rintro e v1 ⟨rfl, hw1⟩; subst v1)
  go_loopw [19] (fun t wr => ∃ k : Nat, k ≤ l.length ∧ t = .int .i64 k ∧ (∀ i, i < k → spnE l i = 0) ∧ Gr w wr) (fun t _ => l.length - (intOf t).toNat)
  case atStart => exact ⟨0, Nat.zero_le _, rfl, fun i h => absurd h (Nat.not_lt_zero _), Gr.refl _⟩
  case round =>
    obtain ⟨k, hk, rfl, hall, hgr⟩ := hrel
    have Hall : Hid _ := hall
    clear hall
    by_cases hlt : k < l.length
    · obtain ⟨x, hx⟩ : ∃ x, l[k]? = some x := ⟨_, List.getElem?_eq_getElem hlt⟩
      obtain ⟨⟨s1, s2, s3⟩, b, o, rfl, hb, q0, q1, q2, q3⟩ := (hl.gr hgr).cell k x hx
      have Hx : Hid _ := hx
      clear hx
      obtain ⟨f, o2, sv, nm⟩ := x
      simp only at s1 s2 s3 q0 q1 q2 q3
      unfold maxLen at s1
      have bf := bounds_i64 s2
      clear s2 s3
      by_cases c1 : 24 < nm.size
      · have E : Hid _ := (spnsF_k H6.out H1.out Hx.out Hall.out (by rw [spnF_1 c1]; decide)).trans (spnF_1 c1)
        go_wp2_with (first | (go_at_call 35; refine (offMay_any _ _).mono ?_; rintro e v2 ⟨rfl, hw2⟩; subst v2))
        all_goals
          go_ret
          exact ⟨ret_int E.out.symm, (hgr.alloc _)⟩
      by_cases c2 : Tre.inB f (-2208988800) 4102444799 = true ∧ Tre.okOff o2 = true
      · have f1 := (inB_iff.1 c2.1).1
        have f2 := (inB_iff.1 c2.1).2
        have ho := c2.2
        have C2 : Hid _ := c2
        clear c2
        have e1 : decide (f < -2208988800) = false := by simp; omega
        have e2 : decide (4102444800 ≤ f) = false := by simp; omega
        by_cases hk0 : k = 0
        · have gk : ((k : Int) == 0) = true := by simp; omega
          have gk' : decide (0 < (k : Int)) = false := by simp; omega
          have gz1 : ¬ 0 < k := by omega
          have gz2 : ¬ (0 : Int) < (k : Int) := by omega
          by_cases h0 : f = -2208988800
          · have E0 : Hid _ := spnF_0 (p := prevF l k) (s := sv) c1 C2.out (show ¬ ((k = 0 ∧ f ≠ -2208988800) ∨ (0 < k ∧ f ≤ prevF l k)) from by omega)
            have gf : (f != -2208988800) = false := by simpa using h0
            clear h0 hk0
            go_upto_region 13 with (first | (go_at_call 35; refine (offMay_any _ _).mono ?_; rintro e v2 ⟨rfl, hw2⟩; subst v2))
            go_quiet (fail)
            go_wp2
            go_roundw
            case rel =>
              refine ⟨k + 1, by omega, by go_num, fun i hi => ?_, (hgr.alloc _).drewN _⟩
              rcases Nat.lt_succ_iff_lt_or_eq.1 hi with h | h
              · exact Hall.out i h
              · rw [h, spnE_at Hx.out]; exact E0.out
            case measure => simp [intOf]; omega
          · have E : Hid _ := (spnsF_k H6.out H1.out Hx.out Hall.out (by rw [spnF_8 c1 C2.out (Or.inl ⟨hk0, h0⟩)]; decide)).trans (spnF_8 c1 C2.out (Or.inl ⟨hk0, h0⟩))
            have gf : (f != -2208988800) = true := by simpa using h0
            clear h0 hk0
            go_upto_region 13 with (first | (go_at_call 35; refine (offMay_any _ _).mono ?_; rintro e v2 ⟨rfl, hw2⟩; subst v2))
            go_quiet (fail)
            go_wp2
            go_ret
            exact ⟨ret_int E.out.symm, (hgr.alloc _).drewN _⟩
        · have gk : ((k : Int) == 0) = false := by simp; omega
          have gk' : decide (0 < (k : Int)) = true := by simp; omega
          obtain ⟨y, hy⟩ : ∃ y, l[k - 1]? = some y := ⟨_, List.getElem?_eq_getElem (by omega)⟩
          have hpv : prevF l k = y.frm := by simp [prevF, hy]
          obtain ⟨_, b', o', e', hb', r0, _⟩ := (hl.gr hgr).cell (k - 1) y hy
          cases e'
          have hix : ((k : Int) - 1).toNat = k - 1 := by omega
          have hpos : 0 < k := by omega
          obtain ⟨yf, yo, ys, yn⟩ := y
          simp only at hpv r0
          have HPV : Hid _ := hpv
          clear hpv hy
          by_cases h0 : f ≤ yf
          · have E : Hid _ := (spnsF_k H6.out H1.out Hx.out Hall.out (by rw [spnF_8 c1 C2.out (Or.inr ⟨hpos, by rw [HPV.out]; exact h0⟩)]; decide)).trans (spnF_8 c1 C2.out (Or.inr ⟨hpos, by rw [HPV.out]; exact h0⟩))
            have gf : decide (f ≤ yf) = true := by simpa using h0
            clear h0 hk0
            go_upto_region 13 with (first | (go_at_call 35; refine (offMay_any _ _).mono ?_; rintro e v2 ⟨rfl, hw2⟩; subst v2))
            go_quiet (fail)
            go_wp2
            go_ret
            exact ⟨ret_int E.out.symm, (hgr.alloc _).drewN _⟩
          · have E0 : Hid _ := spnF_0 (p := prevF l k) (s := sv) c1 C2.out (show ¬ ((k = 0 ∧ f ≠ -2208988800) ∨ (0 < k ∧ f ≤ prevF l k)) from by rw [HPV.out]; omega)
            have gf : decide (f ≤ yf) = false := by simpa using h0
            clear h0 hk0
            go_upto_region 13 with (first | (go_at_call 35; refine (offMay_any _ _).mono ?_; rintro e v2 ⟨rfl, hw2⟩; subst v2))
            go_quiet (fail)
            go_wp2
            go_roundw
            case rel =>
              refine ⟨k + 1, by omega, by go_num, fun i hi => ?_, (hgr.alloc _).drewN _⟩
              rcases Nat.lt_succ_iff_lt_or_eq.1 hi with h | h
              · exact Hall.out i h
              · rw [h, spnE_at Hx.out]; exact E0.out
            case measure => simp [intOf]; omega
      · have E : Hid _ := (spnsF_k H6.out H1.out Hx.out Hall.out (by rw [spnF_2 c1 c2]; decide)).trans (spnF_2 c1 c2)
        by_cases f1 : f < -2208988800
        · clear c2
          go_wp2_with (first | (go_at_call 35; refine (offMay_any _ _).mono ?_; rintro e v2 ⟨rfl, hw2⟩; subst v2))
          go_ret
          exact ⟨ret_int E.out.symm, hgr.alloc _⟩
        by_cases f2 : 4102444800 ≤ f
        · clear c2
          go_wp2_with (first | (go_at_call 35; refine (offMay_any _ _).mono ?_; rintro e v2 ⟨rfl, hw2⟩; subst v2))
          go_ret
          exact ⟨ret_int E.out.symm, hgr.alloc _⟩
        have ho : Tre.okOff o2 = false := by
          cases h : Tre.okOff o2 with
          | false => rfl
          | true => exact absurd ⟨Tre.inB_t (by omega) (by omega), h⟩ c2
        clear c2
        go_wp2_with (first | (go_at_call 35; refine (offMay_any _ _).mono ?_; rintro e v2 ⟨rfl, hw2⟩; subst v2))
        go_ret
        exact ⟨ret_int E.out.symm, hgr.alloc _⟩
    · have E : Hid _ := spnsF_0 H6.out H1.out fun i (hi : i < l.length) => Hall.out i (by omega)
      go_wp2
      go_ret
      exact ⟨ret_int E.out.symm, hgr⟩
end Go.Proofs.Ythnbmeihaojfnaa
