/- Plain mathematics of formats: what is cut at a mark, and that the order in which marks are looked for changes nothing. -/
import Derived.Test.YtpemgnnnehcnjadTxt
import Derived.Lib.IndexMore
import Derived.Lib.PathFns
namespace Go.Proofs.Ytpemgnnnehcnjad
namespace Txt
open Go.Lib
theorem occ_one (s : ByteArray) (c : UInt8) (k : Nat) (h : k < s.size) : occAt s.data.toList [c] k = decide ((s[k].toNat : Int) = (c.toNat : Int)) := by
  unfold occAt
  rw [drop_at s k h, Bool.eq_iff_iff]
  simp [List.isPrefixOf]
  constructor
  · intro e; rw [e]
  · intro e; exact (UInt8.toNat_inj.mp (by omega)).symm
theorem occ_two (s : ByteArray) (c d : UInt8) (k : Nat) (h : k + 1 < s.size) : occAt s.data.toList [c, d] k = (decide ((s[k].toNat : Int) = (c.toNat : Int)) && decide ((s[k + 1].toNat : Int) = (d.toNat : Int))) := by
  unfold occAt
  rw [drop_at s k (by omega), drop_at s (k + 1) h, Bool.eq_iff_iff]
  simp [List.isPrefixOf]
  constructor
  · rintro ⟨e, f⟩; rw [e, f]; exact ⟨rfl, rfl⟩
  · rintro ⟨e, f⟩; exact ⟨(UInt8.toNat_inj.mp (by omega)).symm, (UInt8.toNat_inj.mp (by omega)).symm⟩
/-- The marks of a format. -/
def pct : List UInt8 := [37, 115]
def sla : List UInt8 := [47]
def sgns (l : List UInt8) : Bool := allB sgnI l
def fmtP (l : List UInt8) : Bool := sgns (cut l pct).1 && sgns (cut l pct).2.1
def fmtS (l : List UInt8) : Bool := (!(cut l sla).1.isEmpty && !(cut l sla).2.1.isEmpty) && (sgns (cut l sla).1 && sgns (cut l sla).2.1)
/-- What a format may be: the program's order. -/
def fmtB (l : List UInt8) : Bool := decide (1 ≤ l.length ∧ l.length ≤ 12) && (bif (cut l pct).2.2 then fmtP l else bif (cut l sla).2.2 then fmtS l else sgns l)
theorem sgns_mem {l : List UInt8} {c : UInt8} (h : c ∈ l) (hc : sgnI (c.toNat : Int) = false) : sgns l = false := by
  unfold sgns allB
  rw [List.all_eq_false]
  exact ⟨c, h, by simp [hc]⟩
theorem cut_parts {l sub : List UInt8} (h : (cut l sub).2.2 = true) : l = (cut l sub).1 ++ (sub ++ (cut l sub).2.1) := by
  unfold cut at h ⊢
  by_cases h0 : 0 ≤ index l sub
  · simp only [h0, if_true] at h ⊢
    rcases index_spec l sub with ⟨e, _⟩ | ⟨i, e, hi, ho, _⟩
    · omega
    · simp only [e, Int.toNat_natCast]
      unfold occAt at ho
      obtain ⟨t, ht⟩ := List.isPrefixOf_iff_prefix.mp ho
      have h2 : l.drop (i + sub.length) = t := by
        rw [← List.drop_drop, ← ht, List.drop_left]
      rw [h2, ht, List.take_append_drop]
  · simp only [h0, if_false] at h
    exact absurd h (by decide)
theorem cut_none {l sub : List UInt8} (h : index l sub = -1) : cut l sub = (l, [], false) := by unfold cut; rw [h]; rfl
theorem cut_at {l sub : List UInt8} {i : Nat} (h : index l sub = i) : cut l sub = (l.take i, l.drop (i + sub.length), true) := by
  unfold cut; rw [h, if_pos (by omega), Int.toNat_natCast]
theorem cut_len {l sub : List UInt8} : (cut l sub).1.length ≤ l.length ∧ (cut l sub).2.1.length ≤ l.length := by
  unfold cut
  split
  · simp; omega
  · simp
/-- The other order: a slash first. -/
theorem fmtB_other (l : List UInt8) : fmtB l = (decide (1 ≤ l.length ∧ l.length ≤ 12) && (bif (cut l sla).2.2 then fmtS l else bif (cut l pct).2.2 then fmtP l else sgns l)) := by
  unfold fmtB
  cases hp : (cut l pct).2.2 <;> cases hs : (cut l sla).2.2
  · rfl
  · rfl
  · rfl
  · have e1 := cut_parts hp
    have e2 := cut_parts hs
    have a1 : fmtP l = false := by
      have m : (47 : UInt8) ∈ l := by rw [e2]; simp [sla]
      rw [e1] at m
      simp only [List.mem_append] at m
      rcases m with m | m | m
      · unfold fmtP; rw [sgns_mem m (by decide)]; rfl
      · exact absurd m (by decide)
      · unfold fmtP; rw [sgns_mem m (by decide), Bool.and_false]
    have a2 : fmtS l = false := by
      have m : (37 : UInt8) ∈ l := by rw [e1]; simp [pct]
      rw [e2] at m
      simp only [List.mem_append] at m
      rcases m with m | m | m
      · unfold fmtS; rw [sgns_mem m (by decide)]; simp
      · exact absurd m (by decide)
      · unfold fmtS; rw [sgns_mem m (by decide)]; simp
    rw [a1, a2]
end Txt
end Go.Proofs.Ytpemgnnnehcnjad
