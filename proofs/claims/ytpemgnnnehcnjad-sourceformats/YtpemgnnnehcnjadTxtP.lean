/- Contracts of what the program, and the document's answer, ask of bytes and of all bytes of a text. -/
import Derived.Test.YtpemgnnnehcnjadTxt
import Derived.Test.YtpemgnnnehcnjadRows
import Derived.WalkKit
import Derived.ProofKit
import Derived.OpenShut
import Derived.Shelf.Abstract
namespace Go.Proofs.Ytpemgnnnehcnjad
open Go.ChangeShapes Go.WideShapes Go.ChangeAt Go.RowKit
/-- A function of the program that asks something of a byte. -/
def Pred (F : Nat) (p : Int → Bool) : Prop := Enters Try.prog F ∧ ∀ (c : Int) (w : World), 0 ≤ c → c < 256 →
  Calls Try.prog F #[.int .u8 c] w fun e w' => e = .returned (.bool (p c)) ∧ w' = w
theorem sisLetter_any (c : Int) (w : World) :
    Calls Try.prog 12 #[.int .u8 c] w fun e w' => e = .returned (.bool (Txt.ltrI c)) ∧ w' = w := by
  unfold Txt.ltrI
  go_enter Try.func12, Try.ntmps12
  go_wp2
  all_goals
    go_ret
    exact ⟨ret_bool (by apply Bool.eq_iff_iff.mpr; simp [*] <;> omega), rfl⟩
theorem risLetter_any (c : Int) (w : World) :
    Calls Try.prog 16 #[.int .u8 c] w fun e w' => e = .returned (.bool (Txt.ltrI c)) ∧ w' = w := by
  unfold Txt.ltrI
  go_enter Try.func16, Try.ntmps16
  go_wp2
  all_goals
    go_ret
    exact ⟨ret_bool (by apply Bool.eq_iff_iff.mpr; simp [*] <;> omega), rfl⟩
theorem sisDigit_any (c : Int) (w : World) :
    Calls Try.prog 13 #[.int .u8 c] w fun e w' => e = .returned (.bool (Txt.digI c)) ∧ w' = w := by
  unfold Txt.digI
  go_enter Try.func13, Try.ntmps13
  go_wp2
  all_goals
    go_ret
    exact ⟨ret_bool (by apply Bool.eq_iff_iff.mpr; simp [*] <;> omega), rfl⟩
theorem risDigit_any (c : Int) (w : World) :
    Calls Try.prog 17 #[.int .u8 c] w fun e w' => e = .returned (.bool (Txt.digI c)) ∧ w' = w := by
  unfold Txt.digI
  go_enter Try.func17, Try.ntmps17
  go_wp2
  all_goals
    go_ret
    exact ⟨ret_bool (by apply Bool.eq_iff_iff.mpr; simp [*] <;> omega), rfl⟩
theorem sisSign_any (c : Int) (w : World) :
    Calls Try.prog 8 #[.int .u8 c] w fun e w' => e = .returned (.bool (Txt.sgnI c)) ∧ w' = w := by
  cases h1 : Txt.ltrI c <;> cases h2 : Txt.digI c
  all_goals
    go_enter Try.func8, Try.ntmps8
    go_wp2_with (first | (go_at_call 12; refine (sisLetter_any _ _).mono ?_; rintro e w' ⟨rfl, rfl⟩) | (go_at_call 13; refine (sisDigit_any _ _).mono ?_; rintro e w' ⟨rfl, rfl⟩))
    all_goals
      go_ret
      exact ⟨ret_bool (by apply Bool.eq_iff_iff.mpr; simp [Txt.sgnI, *] <;> omega), rfl⟩
theorem rsigns1_any (c : Int) (w : World) :
    Calls Try.prog 15 #[.int .u8 c] w fun e w' => e = .returned (.bool (Txt.sgnI c)) ∧ w' = w := by
  cases h1 : Txt.ltrI c <;> cases h2 : Txt.digI c
  all_goals
    go_enter Try.func15, Try.ntmps15
    go_wp2_with (first | (go_at_call 16; refine (risLetter_any _ _).mono ?_; rintro e w' ⟨rfl, rfl⟩) | (go_at_call 17; refine (risDigit_any _ _).mono ?_; rintro e w' ⟨rfl, rfl⟩))
    all_goals
      go_ret
      exact ⟨ret_bool (by apply Bool.eq_iff_iff.mpr; simp [Txt.sgnI, *] <;> omega), rfl⟩
set_option maxHeartbeats 400000 in
theorem sall_any (F : Nat) (p : Int → Bool) (hp : Pred F p) (s : ByteArray) (w : World) (hs : s.size ≤ maxLen) :
    Calls Try.prog 7 #[.string s, .func (.func F) #[] #[]] w fun e w' => e = .returned (.bool (Txt.allB p s.data.toList)) ∧ w' = w := by
  obtain ⟨he, hc⟩ := hp
  unfold Enters at he
  unfold maxLen at hs
  go_enter Try.func7, Try.ntmps7
  go_wp2
  go_loop [8] (fun i => ∃ k : Nat, k ≤ s.size ∧ i = .int .i64 k ∧ Txt.allB p (s.data.toList.drop k) = Txt.allB p s.data.toList) (fun i => s.size - (intOf i).toNat)
  case atStart => exact ⟨0, Nat.zero_le _, rfl, rfl⟩
  case round =>
    obtain ⟨k, hk, rfl, hr⟩ := hrel
    have hr' : Hid (Txt.allB p (s.data.toList.drop k) = Txt.allB p s.data.toList) := hr
    clear hr
    by_cases hlt : k < s.size
    · have ha : Hid (Txt.allB p (s.data.toList.drop k) = (p (s[k].toNat : Int) && Txt.allB p (s.data.toList.drop (k + 1)))) := Txt.allB_at p s k hlt
      have hb1 : (0 : Int) ≤ (s[k].toNat : Int) := by omega
      have hb2 : (s[k].toNat : Int) < 256 := by have := s[k].toNat_lt; omega
      cases hv : p (s[k].toNat : Int)
      all_goals
        go_wp2_with (go_at_fn F; refine (hc _ _ hb1 hb2).mono ?_; rintro e w' ⟨rfl, rfl⟩)
        first
          | (go_ret; exact ⟨ret_bool (by rw [← hr'.out, ha.out, hv]; rfl), rfl⟩)
          | (go_round
             case rel => exact ⟨k + 1, by omega, by go_num, by rw [← hr'.out, ha.out, hv]; rfl⟩
             case measure => simp [intOf]; omega)
    · go_wp2
      go_ret
      exact ⟨ret_bool (by rw [← hr'.out]; exact (Txt.allB_end p s k (by omega)).symm), rfl⟩
set_option maxHeartbeats 400000 in
theorem rall_any (F : Nat) (p : Int → Bool) (hp : Pred F p) (s : ByteArray) (w : World) (hs : s.size ≤ maxLen) :
    Calls Try.prog 14 #[.string s, .func (.func F) #[] #[]] w fun e w' => e = .returned (.bool (Txt.allB p s.data.toList)) ∧ w' = w := by
  obtain ⟨he, hc⟩ := hp
  unfold Enters at he
  unfold maxLen at hs
  go_enter Try.func14, Try.ntmps14
  go_wp2
  go_loop [5] (fun i => ∃ k : Nat, k ≤ s.size ∧ i = .int .i64 k ∧ Txt.allB p (s.data.toList.drop k) = Txt.allB p s.data.toList) (fun i => s.size - (intOf i).toNat)
  case atStart => exact ⟨0, Nat.zero_le _, rfl, rfl⟩
  case round =>
    obtain ⟨k, hk, rfl, hr⟩ := hrel
    have hr' : Hid (Txt.allB p (s.data.toList.drop k) = Txt.allB p s.data.toList) := hr
    clear hr
    by_cases hlt : k < s.size
    · have ha : Hid (Txt.allB p (s.data.toList.drop k) = (p (s[k].toNat : Int) && Txt.allB p (s.data.toList.drop (k + 1)))) := Txt.allB_at p s k hlt
      have hb1 : (0 : Int) ≤ (s[k].toNat : Int) := by omega
      have hb2 : (s[k].toNat : Int) < 256 := by have := s[k].toNat_lt; omega
      cases hv : p (s[k].toNat : Int)
      all_goals
        go_wp2_with (go_at_fn F; refine (hc _ _ hb1 hb2).mono ?_; rintro e w' ⟨rfl, rfl⟩)
        first
          | (go_ret; exact ⟨ret_bool (by rw [← hr'.out, ha.out, hv]; rfl), rfl⟩)
          | (go_round
             case rel => exact ⟨k + 1, by omega, by go_num, by rw [← hr'.out, ha.out, hv]; rfl⟩
             case measure => simp [intOf]; omega)
    · go_wp2
      go_ret
      exact ⟨ret_bool (by rw [← hr'.out]; exact (Txt.allB_end p s k (by omega)).symm), rfl⟩
end Go.Proofs.Ytpemgnnnehcnjad
