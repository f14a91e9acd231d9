/- Contracts of Name and Letters, and of the document's answers. -/
import Derived.Test.YtpemgnnnehcnjacTxtP
namespace Go.Proofs.Ytpemgnnnehcnjac
open Go.ChangeShapes Go.WideShapes Go.ChangeAt Go.RowKit
theorem in_any (n l h : Int) (w : World) :
    Calls Try.prog 13 #[.int .i64 n, .int .i64 l, .int .i64 h] w fun e w' => e = .returned (.bool (decide (l ≤ n ∧ n ≤ h))) ∧ w' = w := by
  go_enter Try.func13, Try.ntmps13
  go_wp2
  all_goals
    go_ret
    exact ⟨ret_bool (by simp <;> omega), rfl⟩
theorem pName1 : Pred 11 Txt.namI := ⟨enters_of Try.func11 (by kernel_rfl) rfl, fun c w _ _ => sName1_any c w⟩
theorem sName_any (s : ByteArray) (w : World) (hs : s.size ≤ maxLen) :
    Calls Try.prog 5 #[.string s] w fun e w' => e = .returned (.bool (Txt.nameB s.data.toList)) ∧ w' = w := by
  have hl := Txt.size_list s
  by_cases h0 : s.size = 0
  · obtain rfl := Txt.eq_empty h0
    go_enter Try.func5, Try.ntmps5
    go_wp2
    go_ret
    exact ⟨ret_bool (by decide), rfl⟩
  obtain ⟨hne, hne'⟩ := Txt.ne_empty (s := s) (by omega)
  by_cases h1 : 20 < s.size
  · go_enter Try.func5, Try.ntmps5
    go_wp2
    go_ret
    exact ⟨ret_bool (by unfold Txt.nameB; rw [hl, decide_eq_false (by omega)]; rfl), rfl⟩
  have h2 : 0 < s.size := by omega
  have hh := Txt.headB_at Txt.ltrI s h2
  have HH : Hid (Txt.nameB s.data.toList = (Txt.ltrI (s[0].toNat : Int) && Txt.allB Txt.namI s.data.toList)) := by
    unfold Txt.nameB; rw [hl, decide_eq_true (by omega), hh]; rfl
  clear hh
  cases hv : Txt.ltrI (s[0].toNat : Int)
  all_goals
    go_enter Try.func5, Try.ntmps5
    go_wp2_with (first | (go_at_call 9; refine (sisLetter_any _ _).mono ?_; rintro e w' ⟨rfl, rfl⟩) | (go_at_call 10; refine (sall_any _ _ pName1 _ _ hs).mono ?_; rintro e w' ⟨rfl, rfl⟩))
    go_ret
    exact ⟨ret_bool (by rw [HH.out, hv]; rfl), rfl⟩
theorem pNameMay1 : Pred 16 Txt.namI := ⟨enters_of Try.func16 (by kernel_rfl) rfl, fun c w _ _ => rNameMay1_any c w⟩
theorem rName_any (s : ByteArray) (w : World) (hs : s.size ≤ maxLen) :
    Calls Try.prog 6 #[.string s] w fun e w' => e = .returned (.bool (Txt.nameB s.data.toList)) ∧ w' = w := by
  have hl := Txt.size_list s
  by_cases h1 : 1 ≤ s.size ∧ s.size ≤ 20
  · have h2 : 0 < s.size := by omega
    have hi : decide ((1 : Int) ≤ s.size ∧ (s.size : Int) ≤ 20) = true := by simp; omega
    have hh := Txt.headB_at Txt.ltrI s h2
    have HH : Hid (Txt.nameB s.data.toList = (Txt.ltrI (s[0].toNat : Int) && Txt.allB Txt.namI s.data.toList)) := by
      unfold Txt.nameB; rw [hl, decide_eq_true (by omega), hh]; rfl
    clear hh
    cases hv : Txt.ltrI (s[0].toNat : Int)
    all_goals
      go_enter Try.func6, Try.ntmps6
      go_wp2_with (first | (go_at_call 13; refine (in_any _ _ _ _).mono ?_; rintro e w' ⟨rfl, rfl⟩) | (go_at_call 14; refine (risLetter_any _ _).mono ?_; rintro e w' ⟨rfl, rfl⟩) | (go_at_call 15; refine (rall_any _ _ pNameMay1 _ _ hs).mono ?_; rintro e w' ⟨rfl, rfl⟩))
      go_ret
      exact ⟨ret_bool (by rw [HH.out, hv]; rfl), rfl⟩
  · have hi : decide ((1 : Int) ≤ s.size ∧ (s.size : Int) ≤ 20) = false := by simp; omega
    have HH : Hid (Txt.nameB s.data.toList = false) := by
      by_cases h0 : s.size = 0
      · obtain rfl := Txt.eq_empty h0; exact (by decide : Txt.nameB [] = false)
      · unfold Txt.nameB; rw [hl, decide_eq_false (by omega)]; rfl
    go_enter Try.func6, Try.ntmps6
    go_wp2_with (go_at_call 13; refine (in_any _ _ _ _).mono ?_; rintro e w' ⟨rfl, rfl⟩)
    go_ret
    exact ⟨ret_bool HH.out.symm, rfl⟩
theorem pIsLetter : Pred 9 Txt.ltrI := ⟨enters_of Try.func9 (by kernel_rfl) rfl, fun c w _ _ => sisLetter_any c w⟩
theorem sLetters_any (s : ByteArray) (w : World) (hs : s.size ≤ maxLen) :
    Calls Try.prog 7 #[.string s] w fun e w' => e = .returned (.bool (Txt.lettersB s.data.toList)) ∧ w' = w := by
  have hl := Txt.size_list s
  by_cases h1 : s.size ≤ 6
  · have HH : Hid (Txt.lettersB s.data.toList = Txt.allB Txt.ltrI s.data.toList) := by unfold Txt.lettersB; rw [hl, decide_eq_true h1]; rfl
    go_enter Try.func7, Try.ntmps7
    go_wp2_with (go_at_call 10; refine (sall_any _ _ pIsLetter _ _ hs).mono ?_; rintro e w' ⟨rfl, rfl⟩)
    go_ret
    exact ⟨ret_bool HH.out.symm, rfl⟩
  · have HH : Hid (Txt.lettersB s.data.toList = false) := by unfold Txt.lettersB; rw [hl, decide_eq_false h1]; rfl
    go_enter Try.func7, Try.ntmps7
    go_wp2
    go_ret
    exact ⟨ret_bool HH.out.symm, rfl⟩
theorem pRIsLetter : Pred 14 Txt.ltrI := ⟨enters_of Try.func14 (by kernel_rfl) rfl, fun c w _ _ => risLetter_any c w⟩
theorem rLetters_any (s : ByteArray) (w : World) (hs : s.size ≤ maxLen) :
    Calls Try.prog 8 #[.string s] w fun e w' => e = .returned (.bool (Txt.lettersB s.data.toList)) ∧ w' = w := by
  have hl := Txt.size_list s
  by_cases h1 : s.size ≤ 6
  · have HH : Hid (Txt.lettersB s.data.toList = Txt.allB Txt.ltrI s.data.toList) := by unfold Txt.lettersB; rw [hl, decide_eq_true h1]; rfl
    go_enter Try.func8, Try.ntmps8
    go_wp2_with (go_at_call 15; refine (rall_any _ _ pRIsLetter _ _ hs).mono ?_; rintro e w' ⟨rfl, rfl⟩)
    go_ret
    exact ⟨ret_bool HH.out.symm, rfl⟩
  · have HH : Hid (Txt.lettersB s.data.toList = false) := by unfold Txt.lettersB; rw [hl, decide_eq_false h1]; rfl
    go_enter Try.func8, Try.ntmps8
    go_wp2
    go_ret
    exact ⟨ret_bool HH.out.symm, rfl⟩
end Go.Proofs.Ytpemgnnnehcnjac
