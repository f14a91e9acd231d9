/- What a forest tells for a number (P4.5): plain mathematics. -/
import Derived.Test.YtcpmbjlhblkniaaDoorTreM
namespace Go.Proofs.YtcpmbjlhblkniaaDoor
set_option linter.unusedVariables false
/-- The answer's place that a node tells for a number, within so many steps. -/
def valN (nodes : List Tre.Nod) (t : Int) : Nat → Nat → Int
  | 0, _ => 0
  | n + 1, i => match nodes[i]? with
    | some nd => if nd.leaf = true then nd.ans else if t < nd.bound then valN nodes t n nd.less.toNat else valN nodes t n nd.more.toNat
    | none => 0
theorem valN_leaf {nodes : List Tre.Nod} {t : Int} {n i : Nat} {a b l m : Int} (h : nodes[i]? = some ⟨true, a, b, l, m⟩) : valN nodes t (n + 1) i = a := by simp [valN, h]
theorem valN_less {nodes : List Tre.Nod} {t : Int} {n i : Nat} {a b l m : Int} (h : nodes[i]? = some ⟨false, a, b, l, m⟩) (ht : t < b) : valN nodes t (n + 1) i = valN nodes t n l.toNat := by simp [valN, h, ht]
theorem valN_more {nodes : List Tre.Nod} {t : Int} {n i : Nat} {a b l m : Int} (h : nodes[i]? = some ⟨false, a, b, l, m⟩) (ht : ¬ t < b) : valN nodes t (n + 1) i = valN nodes t n m.toNat := by simp [valN, h, ht]
structure Good (f : Fst) : Prop where
  ne : 0 < f.nodes.length
  n8 : f.nodes.length ≤ 8000
  a2 : f.answers.length ≤ 2000
  node : ∀ (i : Nat) nd, f.nodes[i]? = some nd → Tre.nodF nd i f.answers.length = 0
  ans : ∀ x ∈ f.answers, x.fault = 0
theorem good_of {f : Fst} (h : forF f = 0) : Good f := by
  by_cases h6 : f.nodes.length = 0
  · rw [forF_6 h6] at h; omega
  by_cases h1 : 8000 < f.nodes.length ∨ 2000 < f.answers.length
  · rw [forF_1 h6 h1] at h; omega
  have e := h
  rw [forF, if_neg h6, if_neg h1] at e
  by_cases ha : Tre.fstE (ansE f.answers) f.answers.length = 0
  · rw [if_pos ha] at e
    refine ⟨by omega, by omega, by omega, fun i nd hi => ?_, fun x hx => ?_⟩
    · have := Tre.fstE_none e i (List.getElem?_eq_some_iff.1 hi).1
      rw [nodE_at hi] at this
      exact this
    · obtain ⟨i, hi⟩ := List.getElem?_of_mem hx
      have := Tre.fstE_none ha i (List.getElem?_eq_some_iff.1 hi).1
      rw [ansE_at hi] at this
      exact this
  · rw [if_neg ha] at e; exact absurd e ha
theorem inB_iff {n l h : Int} : Tre.inB n l h = true ↔ l ≤ n ∧ n ≤ h := by simp [Tre.inB]
theorem Good.leaf {f : Fst} (h : Good f) {i : Nat} {a b l m : Int} (hi : f.nodes[i]? = some ⟨true, a, b, l, m⟩) : 0 ≤ a ∧ a < f.answers.length := by
  have := h.node i _ hi
  cases hb : Tre.inB a 0 ((f.answers.length : Int) - 1) with
  | false => rw [Tre.nodF_l2 hb] at this; omega
  | true => have := inB_iff.1 hb; omega
theorem Good.inner {f : Fst} (h : Good f) {i : Nat} {a b l m : Int} (hi : f.nodes[i]? = some ⟨false, a, b, l, m⟩) : 0 ≤ l ∧ l < i ∧ 0 ≤ m ∧ m < i := by
  have := h.node i _ hi
  by_cases ha : a = 0
  · subst ha
    cases hl : Tre.inB l 0 ((i : Int) - 1) with
    | false => rw [Tre.nodF_n8 hl] at this; omega
    | true =>
      cases hm : Tre.inB m 0 ((i : Int) - 1) with
      | false => rw [Tre.nodF_n8' hm] at this; omega
      | true =>
        have h1 := inB_iff.1 hl
        have h2 := inB_iff.1 hm
        omega
  · rw [Tre.nodF_n4 ha] at this; omega
theorem Good.val {f : Fst} (h : Good f) (t : Int) : ∀ (n i : Nat), i < n → i < f.nodes.length → 0 ≤ valN f.nodes t n i ∧ valN f.nodes t n i < f.answers.length := by
  intro n
  induction n with
  | zero => intro i hi; omega
  | succ n ih =>
    intro i hi hl
    obtain ⟨x, hx⟩ : ∃ x, f.nodes[i]? = some x := ⟨_, List.getElem?_eq_getElem hl⟩
    obtain ⟨leaf, a, b, l, m⟩ := x
    cases leaf with
    | true => rw [valN_leaf hx]; exact h.leaf hx
    | false =>
      have := h.inner hx
      by_cases ht : t < b
      · rw [valN_less hx ht]; exact ih _ (by omega) (by omega)
      · rw [valN_more hx ht]; exact ih _ (by omega) (by omega)
theorem Good.fuel {f : Fst} (h : Good f) (t : Int) : ∀ (n m i : Nat), i < n → i < m → i < f.nodes.length → valN f.nodes t n i = valN f.nodes t m i := by
  intro n
  induction n with
  | zero => intro m i hi; omega
  | succ n ih =>
    intro m i hi hm hl
    obtain ⟨m, rfl⟩ : ∃ q, m = q + 1 := ⟨m - 1, by omega⟩
    obtain ⟨x, hx⟩ : ∃ x, f.nodes[i]? = some x := ⟨_, List.getElem?_eq_getElem hl⟩
    obtain ⟨leaf, a, b, l, k⟩ := x
    cases leaf with
    | true => rw [valN_leaf hx, valN_leaf hx]
    | false =>
      have := h.inner hx
      by_cases ht : t < b
      · rw [valN_less hx ht, valN_less hx ht]; exact ih _ _ (by omega) (by omega) (by omega)
      · rw [valN_more hx ht, valN_more hx ht]; exact ih _ _ (by omega) (by omega) (by omega)
/-- The answer that a forest tells. -/
def evalI (f : Fst) (t : Int) : Nat := (valN f.nodes t f.nodes.length (f.nodes.length - 1)).toNat
theorem Good.evalI_lt {f : Fst} (h : Good f) (t : Int) : evalI f t < f.answers.length ∧ ((evalI f t : Nat) : Int) = valN f.nodes t f.nodes.length (f.nodes.length - 1) := by
  have := h.val t f.nodes.length (f.nodes.length - 1) (by have := h.ne; omega) (by have := h.ne; omega)
  unfold evalI; omega
theorem fault_small {x : Ans} (h : x.fault = 0) : x.zs.length ≤ 6 ∧ x.nm.size ≤ 24 := by
  unfold Ans.fault Tre.ansF at h
  by_cases h1 : Tre.okOff x.off = true ∧ -1099511627776 ≤ x.jump ∧ x.jump ≤ 1099511627776
  · rw [if_pos h1] at h
    by_cases h2 : x.zs.all Tre.okOff = true
    · rw [if_pos h2] at h
      by_cases h3 : 6 < x.zs.length ∨ 24 < x.nm.size
      · rw [if_pos h3] at h; omega
      · omega
    · rw [if_neg h2] at h; omega
  · rw [if_neg h1] at h; omega
end Go.Proofs.YtcpmbjlhblkniaaDoor
