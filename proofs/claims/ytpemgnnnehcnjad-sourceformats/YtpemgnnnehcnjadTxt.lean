/- Plain mathematics of texts: kinds of bytes. No Go in sight. It proves nothing of the program by itself. -/
import Derived.Below
import Derived.RowKit3
import Derived.ProofKit
import Derived.Laws.Closers25b
namespace Go.Proofs.Ytpemgnnnehcnjad
theorem ret_bool {a b : Bool} (h : a = b) : Ending.returned (.bool a) = .returned (.bool b) := by rw [h]
namespace Txt
def ltrI (c : Int) : Bool := (decide (97 ≤ c) && decide (c ≤ 122)) || (decide (65 ≤ c) && decide (c ≤ 90))
def digI (c : Int) : Bool := decide (48 ≤ c) && decide (c ≤ 57)
def sgnI (c : Int) : Bool := ltrI c || digI c || decide (c = 43) || decide (c = 45)
def namI (c : Int) : Bool := sgnI c || decide (c = 95) || decide (c = 47)
/-- All bytes of a text, from a place on, are of a kind. -/
def allB (p : Int → Bool) (l : List UInt8) : Bool := l.all fun c => p (c.toNat : Int)
theorem allB_nil (p : Int → Bool) : allB p [] = true := rfl
theorem drop_at (s : ByteArray) (k : Nat) (h : k < s.size) : s.data.toList.drop k = s[k] :: s.data.toList.drop (k + 1) := by
  rw [List.drop_eq_getElem_cons (by simpa using h)]; rfl
theorem allB_at (p : Int → Bool) (s : ByteArray) (k : Nat) (h : k < s.size) : allB p (s.data.toList.drop k) = (p (s[k].toNat : Int) && allB p (s.data.toList.drop (k + 1))) := by
  rw [drop_at s k h]; simp [allB]
theorem allB_end (p : Int → Bool) (s : ByteArray) (k : Nat) (h : s.size ≤ k) : allB p (s.data.toList.drop k) = true := by
  rw [List.drop_of_length_le (by simpa using h)]; rfl
theorem allB_whole (p : Int → Bool) (s : ByteArray) : allB p (s.data.toList.drop 0) = allB p s.data.toList := rfl
def headB (p : Int → Bool) : List UInt8 → Bool
  | [] => false
  | c :: _ => p (c.toNat : Int)
def nameB (l : List UInt8) : Bool := decide (l.length ≤ 20) && (headB ltrI l && allB namI l)
def lettersB (l : List UInt8) : Bool := decide (l.length ≤ 6) && allB ltrI l
theorem size_list (s : ByteArray) : s.data.toList.length = s.size := by simp
theorem headB_at (p : Int → Bool) (s : ByteArray) (h : 0 < s.size) : headB p s.data.toList = p (s[0].toNat : Int) := by
  have e := drop_at s 0 h
  rw [List.drop_zero] at e
  rw [e]; rfl
theorem eq_empty {s : ByteArray} (h : s.size = 0) : s = ⟨#[]⟩ := by
  obtain ⟨a⟩ := s
  have : a.size = 0 := h
  rw [Array.eq_empty_of_size_eq_zero this]
theorem ne_empty {s : ByteArray} (h : 0 < s.size) : ¬ s.toList = [] ∧ s.toList.isEmpty = false := by
  have a : ¬ s.toList = [] := by
    rw [toList_nil_iff_emptyBytes]; intro e; rw [e] at h; exact absurd h (by decide)
  exact ⟨a, by cases e : s.toList <;> simp_all⟩
end Txt
end Go.Proofs.Ytpemgnnnehcnjad
