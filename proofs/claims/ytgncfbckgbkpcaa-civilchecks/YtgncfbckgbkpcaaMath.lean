/- Plain mathematics of the calendar: no Go in sight. It proves nothing of the program by itself. -/
import Derived.Below
import Derived.RowKit3
import Derived.ProofKit
namespace Go.Proofs.Ytgncfbckgbkpcaa
namespace Cal

theorem tmod_pos {a b : Int} (h : 0 ≤ a) : a.tmod b = a % b := Int.tmod_eq_emod_of_nonneg h
theorem tmod_neg {a b : Int} (h : a < 0) : a.tmod b = -((-a) % b) := by
  have e : a.tmod b = -((-a).tmod b) := by rw [Int.neg_tmod, Int.neg_neg]
  rw [e, Int.tmod_eq_emod_of_nonneg (by omega)]

def leapB (y : Int) : Bool := (y % 4 == 0 && !(y % 100 == 0)) || y % 400 == 0
theorem tm4 (y : Int) : (y.tmod 4 = 0) ↔ (y % 4 = 0) := by
  by_cases h : 0 ≤ y
  · rw [tmod_pos h]
  · rw [tmod_neg (by omega)]; omega
theorem tm100 (y : Int) : (y.tmod 100 = 0) ↔ (y % 100 = 0) := by
  by_cases h : 0 ≤ y
  · rw [tmod_pos h]
  · rw [tmod_neg (by omega)]; omega
theorem tm400 (y : Int) : (y.tmod 400 = 0) ↔ (y % 400 = 0) := by
  by_cases h : 0 ≤ y
  · rw [tmod_pos h]
  · rw [tmod_neg (by omega)]; omega
theorem leap_t (y : Int) : leapB y = ((y.tmod 4 == 0 && !(y.tmod 100 == 0)) || y.tmod 400 == 0) := by
  have a := tm4 y; have b := tm100 y; have c := tm400 y
  have a' : (y.tmod 4 == 0) = (y % 4 == 0) := by rw [Bool.eq_iff_iff]; simpa using a
  have b' : (y.tmod 100 == 0) = (y % 100 == 0) := by rw [Bool.eq_iff_iff]; simpa using b
  have c' : (y.tmod 400 == 0) = (y % 400 == 0) := by rw [Bool.eq_iff_iff]; simpa using c
  rw [a', b', c', leapB]

/-- The weekday of a day's number. -/
def wdy (n : Int) : Int := (n + 4) % 7
theorem wdy_lo (n : Int) : 0 ≤ wdy n := by unfold wdy; omega
theorem wdy_hi (n : Int) : wdy n ≤ 6 := by unfold wdy; omega
theorem wdy_a (n : Int) : (n.tmod 7 + 4 + 7).tmod 7 = wdy n := by
  unfold wdy
  by_cases h : 0 ≤ n
  · rw [tmod_pos h, tmod_pos (by omega)]; omega
  · rw [tmod_neg (a := n) (by omega), tmod_pos (by omega)]; omega
theorem tm7_lo (n : Int) : -6 ≤ n.tmod 7 := by
  by_cases h : 0 ≤ n
  · rw [tmod_pos h]; omega
  · rw [tmod_neg (by omega)]; omega
theorem tm7_hi (n : Int) : n.tmod 7 ≤ 6 := by
  by_cases h : 0 ≤ n
  · rw [tmod_pos h]; omega
  · rw [tmod_neg (by omega)]; omega
theorem wdy_b (n : Int) (h : n.tmod 7 < 0) : (n.tmod 7 + 7 + 4) % 7 = wdy n := by
  unfold wdy
  by_cases g : 0 ≤ n
  · rw [tmod_pos g] at h ⊢; omega
  · rw [tmod_neg (by omega)] at h ⊢; omega
theorem wdy_c (n : Int) (h : 0 ≤ n.tmod 7) : (n.tmod 7 + 4) % 7 = wdy n := by
  unfold wdy
  by_cases g : 0 ≤ n
  · rw [tmod_pos g] at h ⊢; omega
  · rw [tmod_neg (by omega)] at h ⊢; omega

/-- P1.4: what is wrong with a day of a month: 0, 2 (ErrRange) or 3 (ErrKind). -/
def dayF (k w n : Int) : Int :=
  if k = 1 then (if w = 0 ∧ 1 ≤ n ∧ n ≤ 31 then 0 else 2)
  else if k = 2 then (if 0 ≤ w ∧ w ≤ 6 ∧ n = 0 then 0 else 2)
  else if k = 3 ∨ k = 4 then (if 0 ≤ w ∧ w ≤ 6 ∧ 1 ≤ n ∧ n ≤ 31 then 0 else 2)
  else 3
end Cal

open Go.RowKit
theorem Grown_trans {a b c : World} (h : Grown a b) (k : Grown b c) : Grown a c :=
  ⟨World.keptBut_trans h.1 k.1, fun x => (k.2.1 x).trans (h.2.1 x), Nat.le_trans h.2.2 k.2.2⟩
theorem Grown_block {W w1 : World} (h : Grown W w1) (b : Nat) (hb : b < W.heap.size) : w1.heap[b]? = W.heap[b]? := by
  have k := h.1.2.2 b hb
  split at k
  · rename_i c t fr c' t' fr' e1 e2
    obtain ⟨rfl, rfl, hs, hj⟩ := k
    rw [e1, e2]
    have e : c' = c := by apply Array.ext_getElem?; intro j; exact hj j (fun f => f)
    rw [e]
  · rename_i es cl es' cl' e1 e2
    rcases k with k | ⟨rfl, rfl⟩
    · exact k.elim
    · rw [e1, e2]
  · exact k
theorem Grown_cell {W w1 : World} (h : Grown W w1) (b : Nat) (o : Nat) (hb : b < W.heap.size) : w1.cell? ⟨b, o, none⟩ = W.cell? ⟨b, o, none⟩ :=
  World.cell?_of_block (w := W) (Grown_block h b hb)
theorem gcell {W w1 : World} (h : Grown W w1) : (∀ b o, b < W.heap.size → w1.cell? ⟨b, o, none⟩ = W.cell? ⟨b, o, none⟩) ∧ W.heap.size ≤ w1.heap.size :=
  ⟨fun b o hb => Grown_cell h b o hb, h.2.2⟩
theorem ret_int {k : IntKind} {a b : Int} (h : a = b) : Ending.returned (.int k a) = .returned (.int k b) := by rw [h]
theorem ret_bool {a b : Bool} (h : a = b) : Ending.returned (.bool a) = .returned (.bool b) := by rw [h]
end Go.Proofs.Ytgncfbckgbkpcaa
