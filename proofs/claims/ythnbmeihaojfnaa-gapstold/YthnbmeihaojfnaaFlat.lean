/- Rows of five cells that a call owns, as slices. -/
import Derived.Test.YthnbmeihaojfnaaGr
namespace Go.Proofs.Ythnbmeihaojfnaa
open Go.ChangeShapes Go.WideShapes Go.ChangeAt Go.RowKit
set_option linter.unusedVariables false
theorem flat5V {α : Type} {cells : α → List Value} (h5 : ∀ x, (cells x).length = 5) : ∀ (l : List α) (i j : Nat) (x : α), l[i]? = some x → j < 5 → (l.flatMap cells)[i * 5 + j]? = (cells x)[j]?
  | [], i, j, x, h, _ => by simp at h
  | y :: l, 0, j, x, h, hj => by
    simp at h
    subst h
    rw [List.flatMap_cons, List.getElem?_append_left (by rw [h5]; omega)]
    simp
  | y :: l, i + 1, j, x, h, hj => by
    rw [List.flatMap_cons, List.getElem?_append_right (by rw [h5]; omega), h5]
    have := flat5V h5 l i j x (by simpa using h) hj
    rwa [show (i + 1) * 5 + j - 5 = i * 5 + j by omega]
theorem owns_fivesV {α : Type} {w : World} {base : Nat} {t : TypeId} {v : Value} {l : List α} {cells : α → List Value} (h5 : ∀ x, (cells x).length = 5) (h : w.ownsRow base t 5 v l.length (l.flatMap cells)) : ∃ a cap, v = .slice a l.length cap ∧ l.length ≤ cap ∧ cap ≤ maxLen ∧ FivesAt w a l cells := by
  rcases h.2 with ⟨hv, hn⟩ | ⟨g, cap, cur, hv, hb, hg, h1, h2, h3⟩
  · refine ⟨none, 0, by rw [hv, hn], by omega, Nat.zero_le _, by rw [hn]; exact Nat.zero_le _, fun i x hx => ?_⟩
    have := (List.getElem?_eq_some_iff.1 hx).1
    omega
  · have cl : ∀ i (x : α) j, l[i]? = some x → j < 5 → w.cell? ⟨g, 0 + (i * 5 + j), none⟩ = (cells x)[j]? := fun i x j hx hj => by
      have hf := flat5V h5 l i j x hx hj
      have hj' : j < (cells x).length := by rw [h5]; exact hj
      rw [List.getElem?_eq_getElem hj'] at hf ⊢
      have hc := h.cells (g := g) (by rw [hv]; rfl) (i * 5 + j) _ hf
      rwa [show (⟨g, 0, none⟩ : Addr).add (i * 5 + j) = ⟨g, 0 + (i * 5 + j), none⟩ from Go.WideShapes.add_plain ..] at hc
    exact ⟨some ⟨g, 0, none⟩, cap, hv, h1, h2, Nat.le_trans h1 h2, fun i x hx => ⟨g, 0, rfl, (Array.getElem?_eq_some_iff.1 hg).1, by simpa using cl i x 0 hx (by decide), by simpa [Nat.add_assoc] using cl i x 1 hx (by decide), by simpa [Nat.add_assoc] using cl i x 2 hx (by decide), by simpa [Nat.add_assoc] using cl i x 3 hx (by decide), by simpa [Nat.add_assoc] using cl i x 4 hx (by decide)⟩⟩
end Go.Proofs.Ythnbmeihaojfnaa
