/- Programs read from bytes (P5.6): plain mathematics. -/
import Derived.Test.YtddamfnoggjkfaaDoorEncM
import Derived.Test.YtddamfnoggjkfaaDoorAnsV
namespace Go.Proofs.YtddamfnoggjkfaaDoor
open Go.ChangeShapes Go.WideShapes Go.ChangeAt Go.RowKit
set_option linter.unusedVariables false
namespace Dec
/-- What is wrong first stays. -/
def fail (e x : Int) : Int := if e = 0 then x else e
theorem fail_0 (x : Int) : fail 0 x = x := rfl
theorem fail_e {e : Int} (h : e ≠ 0) (x : Int) : fail e x = e := if_neg h
/-- The next bytes. -/
def bytes (n : Nat) (l : List Int) (e : Int) : List Int × List Int × Int :=
  if e = 0 then (if l.length < n then ([], l, 5) else (l.take n, l.drop n, 0)) else ([], l, e)
theorem bytes_e {n : Nat} {l : List Int} {e : Int} (h : e ≠ 0) : bytes n l e = ([], l, e) := if_neg h
theorem bytes_short {n : Nat} {l : List Int} (h : l.length < n) : bytes n l 0 = ([], l, 5) := by rw [bytes, if_pos rfl, if_pos h]
theorem bytes_ok {n : Nat} {l : List Int} (h : ¬ l.length < n) : bytes n l 0 = (l.take n, l.drop n, 0) := by rw [bytes, if_pos rfl, if_neg h]
def byte (l : List Int) (e : Int) : Int × List Int × Int :=
  if e = 0 then (match l with | [] => (0, [], 5) | b :: r => (b, r, 0)) else (0, l, e)
theorem byte_e {l : List Int} {e : Int} (h : e ≠ 0) : byte l e = (0, l, e) := if_neg h
theorem byte_nil : byte [] 0 = (0, [], 5) := rfl
theorem byte_cons (b : Int) (r : List Int) : byte (b :: r) 0 = (b, r, 0) := rfl
def unzig (u : Nat) : Int := if u % 2 = 0 then ((u / 2 : Nat) : Int) else -((u / 2 : Nat) : Int) - 1
/-- A number from its i-th byte on. -/
def num : Nat → Nat → Nat → List Int → Int × List Int × Int
  | 0, _, u, l => (unzig u, l, 0)
  | _ + 1, _, _, [] => (0, [], 5)
  | f + 1, i, u, b :: r => if (0 < i ∧ b = 0) ∨ (i = 9 ∧ 1 < b) then (0, r, 4) else if b < 128 then (unzig (u + (b % 128).toNat * 128 ^ i), r, 0) else num f (i + 1) (u + (b % 128).toNat * 128 ^ i) r
theorem num_nil {f i u : Nat} : num (f + 1) i u [] = (0, [], 5) := rfl
theorem num_bad {f i u : Nat} {b : Int} {r : List Int} (h : (0 < i ∧ b = 0) ∨ (i = 9 ∧ 1 < b)) : num (f + 1) i u (b :: r) = (0, r, 4) := by rw [num, if_pos h]
theorem num_last {f i u : Nat} {b : Int} {r : List Int} (h : ¬ ((0 < i ∧ b = 0) ∨ (i = 9 ∧ 1 < b))) (hb : b < 128) : num (f + 1) i u (b :: r) = (unzig (u + (b % 128).toNat * 128 ^ i), r, 0) := by rw [num, if_neg h, if_pos hb]
theorem num_more {f i u : Nat} {b : Int} {r : List Int} (h : ¬ ((0 < i ∧ b = 0) ∨ (i = 9 ∧ 1 < b))) (hb : ¬ b < 128) : num (f + 1) i u (b :: r) = num f (i + 1) (u + (b % 128).toNat * 128 ^ i) r := by rw [num, if_neg h, if_neg hb]
def number (l : List Int) (e : Int) : Int × List Int × Int := if e = 0 then num 10 0 0 l else (0, l, e)
theorem number_e {l : List Int} {e : Int} (h : e ≠ 0) : number l e = (0, l, e) := if_neg h
def count (most : Int) (l : List Int) (e : Int) : Int × List Int × Int :=
  if (number l e).1 < 0 ∨ most < (number l e).1 then (0, (number l e).2.1, fail (number l e).2.2 1) else number l e
def yes (l : List Int) (e : Int) : Bool × List Int × Int :=
  ((number l e).1 == 1, (number l e).2.1, if (number l e).1 ≠ 0 ∧ (number l e).1 ≠ 1 then fail (number l e).2.2 4 else (number l e).2.2)
/-- So many of something, one behind the other. -/
def times {α : Type} (f : List Int → Int → α × List Int × Int) : Nat → List Int → Int → List α × List Int × Int
  | 0, l, e => ([], l, e)
  | n + 1, l, e => ((f l e).1 :: (times f n (f l e).2.1 (f l e).2.2).1, (times f n (f l e).2.1 (f l e).2.2).2)
def numbers (most : Int) (l : List Int) (e : Int) : List Int × List Int × Int := times number (count most l e).1.toNat (count most l e).2.1 (count most l e).2.2
def instruction (l : List Int) (e : Int) : Ins × List Int × Int :=
  if Ver.isOp (byte l e).1 = true then (if numbered (byte l e).1 = true then (⟨(byte l e).1, (number (byte l e).2.1 (byte l e).2.2).1⟩, (number (byte l e).2.1 (byte l e).2.2).2) else (⟨(byte l e).1, 0⟩, (byte l e).2))
  else (⟨0, 0⟩, (byte l e).2.1, fail (byte l e).2.2 3)
/-- What an answer tells. -/
abbrev AV := Int × Bool × ByteArray × List Int × Int
def byt (z : Int) : UInt8 := UInt8.ofNat z.toNat
def bst (l : List Int) : ByteArray := ⟨(l.map byt).toArray⟩
def answer (l0 : List Int) (e0 : Int) : AV × List Int × Int :=
  let a := number l0 e0
  let b := yes a.2.1 a.2.2
  let c := count 24 b.2.1 b.2.2
  let d := bytes c.1.toNat c.2.1 c.2.2
  let f := numbers 6 d.2.1 d.2.2
  let g := number f.2.1 f.2.2
  ((a.1, b.1, bst d.1, f.1, g.1), g.2)
abbrev PV := List Ins × List Int × List AV
def prog (l0 : List Int) : PV × List Int × Int :=
  let h := bytes 3 l0 0
  let c := count 8000 h.2.1 (if h.1 = [115, 100, 49] then h.2.2 else fail h.2.2 4)
  let d := times instruction c.1.toNat c.2.1 c.2.2
  let f := numbers 2000 d.2.1 d.2.2
  let g := count 2000 f.2.1 f.2.2
  let k := times answer g.1.toNat g.2.1 g.2.2
  ((d.1, f.1, k.1), k.2.1, if 0 < k.2.1.length then fail k.2.2 4 else k.2.2)
theorem times_snoc {α : Type} (f : List Int → Int → α × List Int × Int) : ∀ (n : Nat) (l : List Int) (e : Int), times f (n + 1) l e = ((times f n l e).1 ++ [(f (times f n l e).2.1 (times f n l e).2.2).1], (f (times f n l e).2.1 (times f n l e).2.2).2)
  | 0, l, e => rfl
  | n + 1, l, e => by
    rw [times, times_snoc f n, times]
    rfl
theorem times_len {α : Type} (f : List Int → Int → α × List Int × Int) : ∀ (n : Nat) (l : List Int) (e : Int), (times f n l e).1.length = n
  | 0, _, _ => rfl
  | n + 1, l, e => by rw [times, List.length_cons, times_len f n]
theorem unzig_wf {u : Nat} (h : u < 18446744073709551616) : (Lit.int .i64 (unzig u)).wf = true := by
  refine WalkArith.wf_i64 ?_
  unfold unzig
  split <;> omega
theorem pow_128 {i : Nat} (h : i ≤ 9) : (128 : Nat) ^ i ≤ 9223372036854775808 := Nat.le_trans (Nat.pow_le_pow_right (by decide) h) (by decide)
theorem num_step {i u : Nat} {b : Int} (hi : i ≤ 9) (hu : u < 128 ^ i) (h0 : 0 ≤ b) (h : ¬ (i = 9 ∧ 1 < b)) : u + (b % 128).toNat * 128 ^ i < 18446744073709551616 ∧ (i < 9 → u + (b % 128).toNat * 128 ^ i < 128 ^ (i + 1)) := by
  have hb : (b % 128).toNat ≤ 127 := by omega
  have h1 : (b % 128).toNat * 128 ^ i ≤ 127 * 128 ^ i := Nat.mul_le_mul_right _ hb
  have h2 : (128 : Nat) ^ (i + 1) = 128 * 128 ^ i := by rw [Nat.pow_succ, Nat.mul_comm]
  by_cases h9 : i = 9
  · subst h9
    have : (b % 128).toNat ≤ 1 := by omega
    have h3 : (b % 128).toNat * 128 ^ 9 ≤ 1 * 128 ^ 9 := Nat.mul_le_mul_right _ this
    have h4 : (128 : Nat) ^ 9 = 9223372036854775808 := by decide
    rw [h4] at h3 hu ⊢
    exact ⟨by omega, fun h => absurd h (by omega)⟩
  · have h3 : (128 : Nat) ^ (i + 1) ≤ 9223372036854775808 := pow_128 (by omega)
    exact ⟨by omega, fun _ => by omega⟩
theorem num_wf : ∀ (f i u : Nat) (l : List Int), f + i = 10 → i ≤ 9 → u < 128 ^ i → (∀ z ∈ l, 0 ≤ z ∧ z ≤ 255) → (Lit.int .i64 (num f i u l).1).wf = true
  | 0, i, u, l, hi, h9, _, _ => by omega
  | f + 1, i, u, [], _, _, _, _ => by rw [num_nil]; decide
  | f + 1, i, u, b :: r, hi, h9, hu, hb => by
    by_cases h : (0 < i ∧ b = 0) ∨ (i = 9 ∧ 1 < b)
    · rw [num_bad h]; show (Lit.int .i64 0).wf = true; decide
    · obtain ⟨h1, h2⟩ := num_step (b := b) h9 hu (hb b List.mem_cons_self).1 (fun hh => h (Or.inr hh))
      by_cases h128 : b < 128
      · rw [num_last h h128]; exact unzig_wf h1
      · rw [num_more h h128]
        exact num_wf f (i + 1) _ r (by omega) (by omega) (h2 (by omega)) (fun z hz => hb z (List.mem_cons_of_mem _ hz))
theorem number_wf {l : List Int} {e : Int} (h : ∀ z ∈ l, 0 ≤ z ∧ z ≤ 255) : (Lit.int .i64 (number l e).1).wf = true := by
  unfold number
  split
  · exact num_wf 10 0 0 l rfl (by omega) (by decide) h
  · show (Lit.int .i64 0).wf = true; decide
theorem num_rest : ∀ (f i u : Nat) (l : List Int), ∃ k, (num f i u l).2.1 = l.drop k
  | 0, i, u, l => ⟨0, rfl⟩
  | f + 1, i, u, [] => ⟨0, rfl⟩
  | f + 1, i, u, b :: r => by
    by_cases h : (0 < i ∧ b = 0) ∨ (i = 9 ∧ 1 < b)
    · rw [num_bad h]; exact ⟨1, rfl⟩
    · by_cases h128 : b < 128
      · rw [num_last h h128]; exact ⟨1, rfl⟩
      · rw [num_more h h128]
        obtain ⟨k, hk⟩ := num_rest f (i + 1) (u + (b % 128).toNat * 128 ^ i) r
        exact ⟨k + 1, by rw [hk]; rfl⟩
end Dec
end Go.Proofs.YtddamfnoggjkfaaDoor
