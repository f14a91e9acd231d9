/- The answer of parts for a number: that of the last one not behind it; parts that say what the one ahead says are left out. Plain mathematics. -/
import Derived.Test.YtcpmbjlhblkniaaDoorGroM
namespace Go.Proofs.YtcpmbjlhblkniaaDoor
set_option linter.unusedVariables false
/-- The answer of the last part not behind a number, else the one at hand. -/
def lastG (d : Int) (ps : List (Int × Int)) (t : Int) : Int := ps.foldl (fun d q => if q.1 ≤ t then q.2 else d) d
def lastA : List (Int × Int) → Int → Int
  | [], _ => 0
  | p :: ps, t => lastG p.2 ps t
theorem lastG_nil (d t : Int) : lastG d [] t = d := rfl
theorem lastG_cons (d t : Int) (q : Int × Int) (ps : List (Int × Int)) : lastG d (q :: ps) t = lastG (if q.1 ≤ t then q.2 else d) ps t := rfl
theorem lastG_append (d t : Int) (a b : List (Int × Int)) : lastG d (a ++ b) t = lastG (lastG d a t) b t := by simp [lastG, List.foldl_append]
theorem lastG_behind {t : Int} : ∀ {ps : List (Int × Int)} (d : Int), (∀ q ∈ ps, t < q.1) → lastG d ps t = d
  | [], d, _ => rfl
  | q :: ps, d, h => by
    rw [lastG_cons, if_neg (by have := h q (by simp); omega)]
    exact lastG_behind d (fun x hx => h x (by simp [hx]))
/-- The parts rise; the first one begins ahead of all. -/
structure Rise (ps : List (Int × Int)) : Prop where
  tail : ps.tail.Pairwise (fun a b => a.1 < b.1)
theorem half_last (t : Int) : ∀ (n : Nat) (ps : List (Int × Int)), ps ≠ [] → ps.length ≤ n → Rise ps → halfA n ps t = lastA ps t := by
  intro n
  induction n with
  | zero => intro ps h0 h; cases ps with
    | nil => exact absurd rfl h0
    | cons a l => simp at h
  | succ n ih =>
    intro ps h0 hn hr
    obtain ⟨p, r, rfl⟩ : ∃ p r, ps = p :: r := by
      cases ps with
      | nil => exact absurd rfl h0
      | cons a l => exact ⟨a, l, rfl⟩
    unfold halfA
    by_cases h1 : (p :: r).length ≤ 1
    · rw [if_pos h1]
      have : r = [] := by cases r with
        | nil => rfl
        | cons a l => simp at h1
      subst this
      rfl
    · rw [if_neg h1]
      obtain ⟨h, hh⟩ : ∃ h, (p :: r).length / 2 = h + 1 := ⟨(p :: r).length / 2 - 1, by omega⟩
      rw [hh]
      have hlt : h < r.length := by rw [List.length_cons] at h1 hh; omega
      have hd : r.drop h = r[h] :: r.drop (h + 1) := List.drop_eq_getElem_cons hlt
      have hs : r = r.take h ++ (r[h] :: r.drop (h + 1)) := by rw [← hd, List.take_append_drop]
      have hP : r.Pairwise (fun a b => a.1 < b.1) := hr.tail
      have hP' := hP
      rw [hs, List.pairwise_append] at hP'
      obtain ⟨hA, hB, -⟩ := hP'
      have hg : (p :: r).getD (h + 1) (0, 0) = r[h] := by simp [List.getD, hlt]
      rw [hg, List.take_succ_cons, List.drop_succ_cons, hd]
      have e : lastA (p :: r) t = lastG (lastG p.2 (r.take h) t) (r[h] :: r.drop (h + 1)) t := by
        rw [← lastG_append, ← hs]; rfl
      rw [e]
      by_cases ht : t < r[h].1
      · rw [if_pos ht, ih (p :: r.take h) (by simp) (by simp at hn ⊢; omega) ⟨hA⟩]
        rw [lastG_behind (ps := r[h] :: r.drop (h + 1))]
        · rfl
        · intro q hq
          rcases List.mem_cons.1 hq with rfl | hq
          · exact ht
          · have := (List.pairwise_cons.1 hB).1 q hq
            omega
      · rw [if_neg ht, ih (r[h] :: r.drop (h + 1)) (by exact List.cons_ne_nil _ _) (by simp at hn ⊢; omega) ⟨(List.pairwise_cons.1 hB).2⟩]
        rw [lastG_cons, if_pos (by omega)]
        rfl
/-- Without the parts that say what the one ahead says. -/
def comp : Int → List (Int × Int) → List (Int × Int)
  | _, [] => []
  | d, q :: ps => if q.2 = d then comp d ps else q :: comp q.2 ps
def compact : List (Int × Int) → List (Int × Int)
  | [] => []
  | p :: ps => p :: comp p.2 ps
theorem comp_sub : ∀ (d : Int) (ps : List (Int × Int)), (comp d ps).Sublist ps
  | d, [] => List.Sublist.slnil
  | d, q :: ps => by
    unfold comp
    by_cases h : q.2 = d
    · rw [if_pos h]; exact (comp_sub d ps).cons q
    · rw [if_neg h]; exact (comp_sub q.2 ps).cons_cons q
theorem comp_last (t : Int) : ∀ (ps : List (Int × Int)) (d s : Int), ps.Pairwise (fun a b => a.1 < b.1) → (s = d ∨ ∀ q ∈ ps, t < q.1) → lastG s (comp d ps) t = lastG s ps t
  | [], d, s, _, _ => rfl
  | q :: ps, d, s, hP, hs => by
    obtain ⟨h1, h2⟩ := List.pairwise_cons.1 hP
    by_cases hq : q.1 ≤ t
    · have hsd : s = d := by
        rcases hs with h | h
        · exact h
        · have := h q (by simp); omega
      subst hsd
      rw [lastG_cons, if_pos hq]
      unfold comp
      by_cases h : q.2 = s
      · rw [if_pos h, h]; exact comp_last t ps s s h2 (Or.inl rfl)
      · rw [if_neg h, lastG_cons, if_pos hq]; exact comp_last t ps q.2 q.2 h2 (Or.inl rfl)
    · have hb : ∀ x ∈ ps, t < x.1 := fun x hx => by have := h1 x hx; omega
      have hb' : ∀ x ∈ q :: ps, t < x.1 := fun x hx => by
        rcases List.mem_cons.1 hx with rfl | hx
        · omega
        · exact hb x hx
      rw [lastG_behind s hb', lastG_behind s (fun x hx => hb' x ((comp_sub d (q :: ps)).subset hx))]
theorem compact_last {ps : List (Int × Int)} (h : Rise ps) (t : Int) : lastA (compact ps) t = lastA ps t := by
  cases ps with
  | nil => rfl
  | cons p r => exact comp_last t r p.2 p.2 h.tail (Or.inl rfl)
theorem compact_rise {ps : List (Int × Int)} (h : Rise ps) : Rise (compact ps) := by
  cases ps with
  | nil => exact h
  | cons p r => exact ⟨List.Pairwise.sublist (comp_sub p.2 r) h.tail⟩
theorem compact_ne {ps : List (Int × Int)} (h : ps ≠ []) : compact ps ≠ [] := by
  cases ps with
  | nil => exact h
  | cons p r => simp [compact]
theorem compact_len (ps : List (Int × Int)) : (compact ps).length ≤ ps.length := by
  cases ps with
  | nil => exact Nat.le_refl _
  | cons p r => simpa [compact] using (comp_sub p.2 r).length_le
/-- A tree that is grown of compacted parts tells what the parts tell. -/
theorem half_compact {ps : List (Int × Int)} (h0 : ps ≠ []) (h : Rise ps) (t : Int) {n : Nat} (hn : (compact ps).length ≤ n) : halfA n (compact ps) t = lastA ps t :=
  (half_last t n _ (compact_ne h0) hn (compact_rise h)).trans (compact_last h t)
end Go.Proofs.YtcpmbjlhblkniaaDoor
