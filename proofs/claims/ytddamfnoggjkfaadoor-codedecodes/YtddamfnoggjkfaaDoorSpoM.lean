/- Errors stay what they are (P5.6): plain mathematics. -/
import Derived.Test.YtddamfnoggjkfaaDoorRndM
namespace Go.Proofs.YtddamfnoggjkfaaDoor
namespace Dec
structure Stay {α : Type} (f : List Int → Int → α × List Int × Int) : Prop where
  st : ∀ l e, e ≠ 0 → (f l e).2.2 = e
theorem number_sy : Stay number := ⟨fun l e h => by rw [number_e h]⟩
theorem count_sy (most : Int) : Stay (count most) := ⟨fun l e h => by
  unfold count
  split
  · rw [number_e h]; exact fail_e h _
  · rw [number_e h]⟩
theorem yes_sy : Stay yes := ⟨fun l e h => by
  unfold yes
  simp only
  split
  · rw [number_e h]; exact fail_e h _
  · rw [number_e h]⟩
theorem bytes_sy (n : Nat) : Stay (bytes n) := ⟨fun l e h => by rw [bytes_e h]⟩
theorem byte_sy : Stay byte := ⟨fun l e h => by rw [byte_e h]⟩
theorem instruction_sy : Stay instruction := ⟨fun l e h => by
  unfold instruction
  have h1 := byte_sy.st l e h
  split
  · split
    · show (number _ _).2.2 = e
      rw [h1]; exact number_sy.st _ _ h
    · exact h1
  · show fail _ 3 = e
    rw [h1]; exact fail_e h _⟩
theorem times_sy {α : Type} {f : List Int → Int → α × List Int × Int} (hf : Stay f) (n : Nat) : Stay (times f n) := ⟨by
  induction n with
  | zero => intro l e h; rfl
  | succ n ih => intro l e h; rw [times]; show (times f n _ _).2.2 = e; rw [hf.st l e h]; exact ih _ _ h⟩
theorem numbers_sy (most : Int) : Stay (numbers most) := ⟨fun l e h => by unfold numbers; rw [(count_sy most).st l e h]; exact (times_sy number_sy _).st _ _ h⟩
theorem answer_sy : Stay answer := ⟨fun l e h => by
  unfold answer
  simp only
  rw [number_sy.st l e h, yes_sy.st _ _ h, (count_sy 24).st _ _ h, (bytes_sy _).st _ _ h, (numbers_sy 6).st _ _ h]
  exact number_sy.st _ _ h⟩
/-- More of them, behind an error. -/
theorem times_more {α : Type} {f : List Int → Int → α × List Int × Int} (hf : Stay f) {k n : Nat} (hk : k ≤ n) {l : List Int} {e : Int} (h : (times f k l e).2.2 ≠ 0) : (times f n l e).2.2 = (times f k l e).2.2 := by
  obtain ⟨d, rfl⟩ : ∃ d, n = k + d := ⟨n - k, by omega⟩
  clear hk
  induction d with
  | zero => rfl
  | succ d ih =>
    rw [← Nat.add_assoc, times_snoc]
    show (f _ _).2.2 = _
    rw [ih]
    exact hf.st _ _ h
theorem prog_err1 {l : List Int} {N1 : List Int × List Int × Int} (h1 : bytes 3 l 0 = N1) {e : Int} (h2 : (if N1.1 = [115, 100, 49] then N1.2.2 else fail N1.2.2 4) = e) (he : e ≠ 0) : (prog l).2.2 = e := by
  unfold prog
  simp only
  rw [h1, h2, (count_sy 8000).st _ _ he, (times_sy instruction_sy _).st _ _ he, (numbers_sy 2000).st _ _ he, (count_sy 2000).st _ _ he, (times_sy answer_sy _).st _ _ he]
  split
  · exact fail_e he _
  · rfl
theorem prog_short {l : List Int} (h : l.length < 3) : (prog l).2.2 = 5 := prog_err1 (bytes_short h) (by simp [fail]) (by decide)
theorem prog_head {l : List Int} (h : ¬ l.length < 3) (h' : l.take 3 ≠ [115, 100, 49]) : (prog l).2.2 = 4 := prog_err1 (bytes_ok h) (by simp [fail, h']) (by decide)
end Dec
end Go.Proofs.YtddamfnoggjkfaaDoor
