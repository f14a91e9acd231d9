/- Compacting in place: plain mathematics. -/
import Derived.Test.YthnbmeihaojfnaaHalM
namespace Go.Proofs.Ythnbmeihaojfnaa
set_option linter.unusedVariables false
set_option maxRecDepth 100000
/-- What the last part says, else the one at hand. -/
def lastS : Int → List (Int × Int) → Int
  | d, [] => d
  | _, p :: l => lastS p.2 l
theorem lastS_snoc : ∀ (d : Int) (l : List (Int × Int)) (p : Int × Int), lastS d (l ++ [p]) = p.2
  | d, [], p => rfl
  | d, q :: l, p => lastS_snoc q.2 l p
theorem comp_snoc : ∀ (d : Int) (l : List (Int × Int)) (q : Int × Int), comp d (l ++ [q]) = comp d l ++ (if q.2 = lastS d l then [] else [q])
  | d, [], q => by
    show (if q.2 = d then comp d [] else q :: comp q.2 []) = [] ++ (if q.2 = d then [] else [q])
    by_cases h : q.2 = d
    · rw [if_pos h, if_pos h]; rfl
    · rw [if_neg h, if_neg h]; rfl
  | d, p :: l, q => by
    show (if p.2 = d then comp d (l ++ [q]) else p :: comp p.2 (l ++ [q])) = (if p.2 = d then comp d l else p :: comp p.2 l) ++ (if q.2 = lastS p.2 l then [] else [q])
    by_cases h : p.2 = d
    · rw [if_pos h, if_pos h, comp_snoc d l q, h]
    · rw [if_neg h, if_neg h, comp_snoc p.2 l q]; rfl
/-- One part more: it is kept unless it says what the one ahead says. -/
theorem compact_step {ps : List (Int × Int)} {m : Nat} {p q : Int × Int} (hp : ps[m]? = some p) (hq : ps[m + 1]? = some q) :
    compact (ps.take (m + 2)) = compact (ps.take (m + 1)) ++ (if q.2 = p.2 then [] else [q]) := by
  rw [List.take_add_one (i := m + 1), hq]
  have hs : ps.take (m + 1) = ps.take m ++ [p] := by rw [List.take_add_one, hp]; rfl
  have hl : ∃ a r, ps.take (m + 1) = a :: r ∧ lastS a.2 r = p.2 := by
    rw [hs]
    cases h : ps.take m with
    | nil => exact ⟨p, [], rfl, rfl⟩
    | cons a r => exact ⟨a, r ++ [p], rfl, lastS_snoc _ _ _⟩
  obtain ⟨a, r, h1, h2⟩ := hl
  rw [h1]
  show a :: comp a.2 (r ++ [q]) = (a :: comp a.2 r) ++ _
  rw [comp_snoc, h2]
  rfl
theorem compact_same {ps : List (Int × Int)} {m : Nat} {p q : Int × Int} (hp : ps[m]? = some p) (hq : ps[m + 1]? = some q) (h : q.2 = p.2) : compact (ps.take (m + 2)) = compact (ps.take (m + 1)) := by
  rw [compact_step hp hq, if_pos h, List.append_nil]
theorem compact_new {ps : List (Int × Int)} {m : Nat} {p q : Int × Int} (hp : ps[m]? = some p) (hq : ps[m + 1]? = some q) (h : q.2 ≠ p.2) : compact (ps.take (m + 2)) = compact (ps.take (m + 1)) ++ [q] := by
  rw [compact_step hp hq, if_neg h]
theorem compact_one {ps : List (Int × Int)} : compact (ps.take 1) = ps.take 1 := by
  cases ps with
  | nil => rfl
  | cons a r => rfl
/-- As long as no part says what the one ahead says, all are kept. -/
theorem compact_all {ps : List (Int × Int)} : ∀ (m : Nat), (∀ (i : Nat) p q, i < m → ps[i]? = some p → ps[i + 1]? = some q → q.2 ≠ p.2) → m < ps.length → compact (ps.take (m + 1)) = ps.take (m + 1)
  | 0, _, _ => compact_one
  | m + 1, h, hm => by
    obtain ⟨p, hp⟩ : ∃ p, ps[m]? = some p := ⟨_, List.getElem?_eq_getElem (by omega)⟩
    obtain ⟨q, hq⟩ : ∃ q, ps[m + 1]? = some q := ⟨_, List.getElem?_eq_getElem hm⟩
    rw [compact_new hp hq (h m p q (by omega) hp hq), compact_all m (fun i p q hi => h i p q (by omega)) (by omega), List.take_add_one (i := m + 1), hq]
    rfl
/-- Parts in the cells of a block, while they are compacted in place: those kept of the first m, and all from place m - 1 on as they came. -/
structure CmpR (cs : Array Value) (ps : List (Int × Int)) (m : Nat) : Prop where
  front : ∀ (j : Nat) x, (compact (ps.take (m + 1)))[j]? = some x → cs[j * 2]? = some (.int .i64 x.1) ∧ cs[j * 2 + 1]? = some (.int .i64 x.2)
  back : ∀ (j : Nat) x, m ≤ j → ps[j]? = some x → cs[j * 2]? = some (.int .i64 x.1) ∧ cs[j * 2 + 1]? = some (.int .i64 x.2)
  size : ps.length * 2 ≤ cs.size
theorem CmpR.same {cs : Array Value} {ps : List (Int × Int)} {m : Nat} (h : CmpR cs ps m) {p q : Int × Int} (hp : ps[m]? = some p) (hq : ps[m + 1]? = some q) (e : q.2 = p.2) : CmpR cs ps (m + 1) :=
  ⟨by rw [compact_same hp hq e]; exact h.front, fun j x hj => h.back j x (by omega), h.size⟩
theorem CmpR.new {cs : Array Value} {ps : List (Int × Int)} {m : Nat} (h : CmpR cs ps m) {p q : Int × Int} (hp : ps[m]? = some p) (hq : ps[m + 1]? = some q) (e : q.2 ≠ p.2) (hl : (compact (ps.take (m + 1))).length ≤ m) :
    CmpR ((cs.setIfInBounds ((compact (ps.take (m + 1))).length * 2) (.int .i64 q.1)).setIfInBounds ((compact (ps.take (m + 1))).length * 2 + 1) (.int .i64 q.2)) ps (m + 1) := by
  have hm := (List.getElem?_eq_some_iff.1 hq).1
  have hz := h.size
  refine ⟨fun j x hj => ?_, fun j x hj hx => ?_, by simpa using h.size⟩
  · rw [compact_new hp hq e] at hj
    rcases Nat.lt_trichotomy j (compact (ps.take (m + 1))).length with g | g | g
    · rw [List.getElem?_append_left g] at hj
      have := h.front j x hj
      simp only [Array.getElem?_setIfInBounds, Array.size_setIfInBounds]
      rw [if_neg (by omega), if_neg (by omega), if_neg (by omega), if_neg (by omega)]
      exact this
    · rw [g, List.getElem?_append_right (Nat.le_refl _)] at hj
      simp at hj
      subst hj
      rw [g]
      simp only [Array.getElem?_setIfInBounds, Array.size_setIfInBounds]
      rw [if_neg (by omega), if_pos trivial, if_pos (by omega), if_pos trivial, if_pos (by omega)]
      exact ⟨rfl, rfl⟩
    · rw [List.getElem?_eq_none (by simp; omega)] at hj
      cases hj
  · have := h.back j x (by omega) hx
    simp only [Array.getElem?_setIfInBounds, Array.size_setIfInBounds]
    rw [if_neg (by omega), if_neg (by omega), if_neg (by omega), if_neg (by omega)]
    exact this
end Go.Proofs.Ythnbmeihaojfnaa
