/- Edges sorted, and each once: plain mathematics. -/
import Derived.Test.YthnbmeihaojfnaaLocM
import Derived.Lib.SlicesCompact
namespace Go.Proofs.Ythnbmeihaojfnaa
set_option linter.unusedVariables false
structure CU (d : Array Int) (m : Nat) (c : List Int) : Prop where
  rise : c.Pairwise (· < ·)
  le : ∀ x ∈ c, 0 < m → x ≤ d[m - 1]!
  mem : ∀ x, x ∈ c ↔ ∃ j, j < m ∧ d[j]! = x
  head : 0 < m → ∃ r, c = d[0]! :: r
theorem cu_all {d : Array Int} (hd : ∀ i j, i ≤ j → j < d.size → d[i]! ≤ d[j]!) : ∀ m, m ≤ d.size → CU d m (Go.Lib.compactUpTo d m)
  | 0, _ => ⟨by simp [Go.Lib.compactUpTo], fun x hx => by simp [Go.Lib.compactUpTo] at hx, fun x => by simp [Go.Lib.compactUpTo], fun h => by omega⟩
  | m + 1, hm => by
    have ih := cu_all hd m (by omega)
    rw [Go.Lib.compactUpTo_succ]
    by_cases h0 : m = 0
    · subst h0
      have e : Go.Lib.compactUpTo d 0 = [] := by simp [Go.Lib.compactUpTo]
      rw [e, if_pos (Go.Lib.keeps_lt_one d 0 (by omega))]
      refine ⟨by simp, fun x hx _ => by
        have e : x = d[0]! := List.mem_singleton.1 (by simpa using hx)
        rw [e]; exact Int.le_refl _, fun x => ?_, fun _ => ⟨[], by simp⟩⟩
      constructor
      · intro hx; exact ⟨0, by omega, (List.mem_singleton.1 (show x ∈ [d[0]!] by simpa using hx)).symm⟩
      · rintro ⟨j, hj, rfl⟩
        have : j = 0 := by omega
        subst this
        simp
    · have hle := hd (m - 1) m (by omega) (by omega)
      obtain ⟨r, hr⟩ := ih.head (by omega)
      by_cases hk : d[m]! = d[m - 1]!
      · rw [Go.Lib.keeps_neg (by omega) hk]
        simp only [Bool.false_eq_true, if_false, List.append_nil]
        refine ⟨ih.rise, fun x hx _ => ?_, fun x => ?_, fun _ => ⟨r, hr⟩⟩
        · have := ih.le x hx (by omega)
          rw [Nat.add_sub_cancel]; omega
        · rw [ih.mem]
          constructor
          · rintro ⟨j, hj, e⟩; exact ⟨j, by omega, e⟩
          · rintro ⟨j, hj, e⟩
            rcases Nat.lt_or_ge j m with g | g
            · exact ⟨j, g, e⟩
            · have : j = m := by omega
              subst this
              exact ⟨j - 1, by omega, by rw [← hk]; exact e⟩
      · rw [Go.Lib.keeps_pos hk, if_pos rfl]
        refine ⟨?_, fun x hx _ => ?_, fun x => ?_, fun _ => ⟨r ++ [d[m]!], by rw [hr]; rfl⟩⟩
        · rw [List.pairwise_append]
          refine ⟨ih.rise, by simp, fun x hx y hy => ?_⟩
          rw [List.mem_singleton.1 hy]
          have := ih.le x hx (by omega)
          omega
        · rw [Nat.add_sub_cancel]
          rcases List.mem_append.1 hx with g | g
          · have := ih.le x g (by omega); omega
          · rw [List.mem_singleton.1 g]; exact Int.le_refl _
        · rw [List.mem_append, ih.mem]
          constructor
          · rintro (⟨j, hj, e⟩ | g)
            · exact ⟨j, by omega, e⟩
            · exact ⟨m, by omega, (List.mem_singleton.1 g).symm⟩
          · rintro ⟨j, hj, e⟩
            rcases Nat.lt_or_ge j m with g | g
            · exact Or.inl ⟨j, g, e⟩
            · have : j = m := by omega
              subst this
              exact Or.inr (by rw [e]; simp)
def sortE (zs : List Int) : List Int := zs.mergeSort fun x y => decide (x ≤ y)
theorem sortE_sorted (zs : List Int) : (sortE zs).Pairwise (· ≤ ·) := by
  have := List.pairwise_mergeSort (le := fun (x y : Int) => decide (x ≤ y)) (fun a b c h1 h2 => by simp at *; omega) (fun a b => by simp; omega) zs
  exact this.imp fun h => by simpa using h
theorem sortE_perm (zs : List Int) : (sortE zs).Perm zs := List.mergeSort_perm zs _
/-- The edges of spans. -/
def edges (l : List Spn) : List Int := Go.Lib.compact (sortE (-2209161601 :: edgR l))
theorem edges_law {l : List Spn} (hg : ∀ x ∈ l, SpnGood x) : Edg l (edges l) ∧ (edges l).length ≤ 2 * l.length + 1 := by
  obtain ⟨zs, hz⟩ : ∃ zs, sortE (-2209161601 :: edgR l) = zs := ⟨_, rfl⟩
  have hp := sortE_perm (-2209161601 :: edgR l)
  have hs := sortE_sorted (-2209161601 :: edgR l)
  unfold edges
  rw [hz] at hp hs ⊢
  have hlen : zs.length = 2 * l.length + 1 := by rw [hp.length_eq, List.length_cons, edgR_len]
  have hget : ∀ i, i < zs.length → ∃ h : i < zs.length, zs.toArray[i]! = zs[i] := fun i hi => ⟨hi, by simp [hi]⟩
  have hd : ∀ i j, i ≤ j → j < zs.toArray.size → zs.toArray[i]! ≤ zs.toArray[j]! := fun i j hij hj => by
    have hj' : j < zs.length := by simpa using hj
    obtain ⟨h1, e1⟩ := hget i (by omega)
    obtain ⟨h2, e2⟩ := hget j hj'
    rw [e1, e2]
    rcases Nat.lt_or_ge i j with g | g
    · exact List.pairwise_iff_getElem.1 hs i j h1 h2 g
    · have : i = j := by omega
      subst this
      exact Int.le_refl _
  have hc := cu_all hd zs.length (by simp)
  have hcc : Go.Lib.compact zs = Go.Lib.compactUpTo zs.toArray zs.length := rfl
  rw [← hcc] at hc
  have hmz : ∀ x, (∃ j, j < zs.length ∧ zs.toArray[j]! = x) ↔ x ∈ zs := fun x => by
    constructor
    · rintro ⟨j, hj, rfl⟩
      obtain ⟨h1, e1⟩ := hget j hj
      rw [e1]; exact List.getElem_mem h1
    · intro hx
      obtain ⟨j, hj, e⟩ := List.getElem_of_mem hx
      obtain ⟨h1, e1⟩ := hget j hj
      exact ⟨j, hj, e1.trans e⟩
  have hmem : ∀ e, e ∈ Go.Lib.compact zs ↔ e = -2209161601 ∨ e ∈ edgR l := fun e => by
    rw [hc.mem, hmz, hp.mem_iff, List.mem_cons]
  obtain ⟨r, hr⟩ := hc.head (by omega)
  have h0 : zs.toArray[0]! = -2209161601 := by
    have m0 : zs.toArray[0]! ∈ Go.Lib.compact zs := by rw [hr]; simp
    have m1 : (-2209161601 : Int) ∈ Go.Lib.compact zs := (hmem _).2 (Or.inl rfl)
    have r1 := hc.rise
    rw [hr] at r1 m1
    have r2 := (List.pairwise_cons.1 r1).1
    rcases (hmem _).1 m0 with g | g
    · exact g
    · have g2 := (edg_lo hg _ g).1
      rcases List.mem_cons.1 m1 with g3 | g3
      · exact g3.symm
      · have := r2 _ g3; omega
  refine ⟨⟨hc.rise, ⟨r, by rw [hr, h0]⟩, hmem⟩, ?_⟩
  have : (Go.Lib.compact zs).length ≤ zs.length := by
    unfold Go.Lib.compact Go.Lib.compactUpTo
    rw [List.length_map]
    have := List.length_filter_le (Go.Lib.keeps zs.toArray) (List.range zs.length)
    simpa using this
  omega
end Go.Proofs.Ythnbmeihaojfnaa
