/- Contract: Eval of a forest (P4.5), by the program. -/
import Derived.Test.YtcpmbjlhblkniaaTreV
import Derived.Test.YtcpmbjlhblkniaaTreN
import Derived.Test.YtcpmbjlhblkniaaTreC
import Derived.Test.YtcpmbjlhblkniaaAnsV
namespace Go.Proofs.Ytcpmbjlhblkniaa
open Go.ChangeShapes Go.WideShapes Go.ChangeAt Go.RowKit
set_option linter.unusedVariables false
/-- What a forest tells for a number; with an error nothing. -/
def evalA (f : Fst) (t : Int) : Ans := if forF f = 0 then f.answers.getD (evalI f t) zeroA else zeroA
theorem evalA_no {f : Fst} {t : Int} (h : forF f ≠ 0) : evalA f t = zeroA := by rw [evalA, if_neg h]
theorem evalA_yes {f : Fst} {t : Int} (h : forF f = 0) {x : Ans} (hx : f.answers[evalI f t]? = some x) : evalA f t = x := by rw [evalA, if_pos h, List.getD_eq_getElem?_getD, hx]; rfl
/-- How far a node is from its leaves, at most: read off its cells. -/
def muC : Option Value → Option Value → Option Value → Nat
  | some (.bool false), some (.int .i64 l), some (.int .i64 m) => (max l m).toNat + 1
  | _, _, _ => 0
def muN (n : Tre.Nod) : Nat := muC (some (.bool n.leaf)) (some (.int .i64 n.less)) (some (.int .i64 n.more))
theorem mu_lt {f : Fst} (h : Good f) {i j : Nat} {a b l m : Int} {nd : Tre.Nod} (hi : f.nodes[i]? = some ⟨false, a, b, l, m⟩) (hj : f.nodes[j]? = some nd) (hl : (j : Int) = l ∨ (j : Int) = m) : muN nd < muN ⟨false, a, b, l, m⟩ := by
  obtain ⟨leaf, a', b', l', m'⟩ := nd
  have h1 := h.inner hi
  have e : muN ⟨false, a, b, l, m⟩ = (max l m).toNat + 1 := rfl
  rw [e]
  cases leaf with
  | true => have : muN ⟨true, a', b', l', m'⟩ = 0 := rfl; omega
  | false =>
    have h2 := h.inner hj
    have : muN ⟨false, a', b', l', m'⟩ = (max l' m').toNat + 1 := rfl
    omega
theorem node_set {w : World} {b : Nat} {t : TypeId} (n m : Tre.Nod) (h : w.heap[b]? = some (.cells (Nod.cells n).toArray t)) :
    (((((w.setCell ⟨b, 0, none⟩ (.bool m.leaf)).setCell ⟨b, 1, none⟩ (.int .i64 m.ans)).setCell ⟨b, 2, none⟩ (.int .i64 m.bound)).setCell ⟨b, 3, none⟩ (.int .i64 m.less)).setCell ⟨b, 4, none⟩ (.int .i64 m.more)).heap[b]? = some (.cells (Nod.cells m).toArray t) := by
  have h0 := heap_setCell_same w b 0 _ t (.bool m.leaf) h
  have h1 := heap_setCell_same _ b 1 _ t (.int .i64 m.ans) h0
  have h2 := heap_setCell_same _ b 2 _ t (.int .i64 m.bound) h1
  have h3 := heap_setCell_same _ b 3 _ t (.int .i64 m.less) h2
  have h4 := heap_setCell_same _ b 4 _ t (.int .i64 m.more) h3
  rw [h4]
  simp [Nod.cells]
theorem mu_at {w : World} {b : Nat} {t : TypeId} {n : Tre.Nod} (h : w.heap[b]? = some (.cells (Nod.cells n).toArray t)) : muC (w.cell? ⟨b, 0, none⟩) (w.cell? ⟨b, 3, none⟩) (w.cell? ⟨b, 4, none⟩) = muN n := by
  obtain ⟨c, _⟩ := row_all h
  rw [c, c, c]; rfl
theorem node_step {F : Fst} (hG : Good F) {wr w1 : World} {T : TypeId} {k j : Nat} {a bo l m t V : Int} {x' : Tre.Nod} (hk : F.nodes[k]? = some ⟨false, a, bo, l, m⟩) (hj : F.nodes[j]? = some x') (hjl : (j : Int) = l ∨ (j : Int) = m)
    (hm : wr.heap[w1.heap.size]? = some (.cells (Nod.cells ⟨false, a, bo, l, m⟩).toArray T)) (hg : Gr w1 wr) (hz : w1.heap.size < wr.heap.size) (hv : valN F.nodes t (k + 1) k = valN F.nodes t k j) (hV : valN F.nodes t (k + 1) k = V) :
    (∃ (k : Nat) (nd : Tre.Nod), F.nodes[k]? = some nd ∧ Gr w1 (((((wr.setCell ⟨w1.heap.size, 0, none⟩ (.bool x'.leaf)).setCell ⟨w1.heap.size, 1, none⟩ (.int .i64 x'.ans)).setCell ⟨w1.heap.size, 2, none⟩ (.int .i64 x'.bound)).setCell ⟨w1.heap.size, 3, none⟩ (.int .i64 x'.less)).setCell ⟨w1.heap.size, 4, none⟩ (.int .i64 x'.more)) ∧
      w1.heap.size < (((((wr.setCell ⟨w1.heap.size, 0, none⟩ (.bool x'.leaf)).setCell ⟨w1.heap.size, 1, none⟩ (.int .i64 x'.ans)).setCell ⟨w1.heap.size, 2, none⟩ (.int .i64 x'.bound)).setCell ⟨w1.heap.size, 3, none⟩ (.int .i64 x'.less)).setCell ⟨w1.heap.size, 4, none⟩ (.int .i64 x'.more)).heap.size ∧
      (((((wr.setCell ⟨w1.heap.size, 0, none⟩ (.bool x'.leaf)).setCell ⟨w1.heap.size, 1, none⟩ (.int .i64 x'.ans)).setCell ⟨w1.heap.size, 2, none⟩ (.int .i64 x'.bound)).setCell ⟨w1.heap.size, 3, none⟩ (.int .i64 x'.less)).setCell ⟨w1.heap.size, 4, none⟩ (.int .i64 x'.more)).heap[w1.heap.size]? = some (.cells (Nod.cells nd).toArray T) ∧ valN F.nodes t (k + 1) k = V) ∧
    ∀ W, W = (((((wr.setCell ⟨w1.heap.size, 0, none⟩ (.bool x'.leaf)).setCell ⟨w1.heap.size, 1, none⟩ (.int .i64 x'.ans)).setCell ⟨w1.heap.size, 2, none⟩ (.int .i64 x'.bound)).setCell ⟨w1.heap.size, 3, none⟩ (.int .i64 x'.less)).setCell ⟨w1.heap.size, 4, none⟩ (.int .i64 x'.more)) →
      muC (W.cell? ⟨w1.heap.size, 0, none⟩) (W.cell? ⟨w1.heap.size, 3, none⟩) (W.cell? ⟨w1.heap.size, 4, none⟩) < muC (wr.cell? ⟨w1.heap.size, 0, none⟩) (wr.cell? ⟨w1.heap.size, 3, none⟩) (wr.cell? ⟨w1.heap.size, 4, none⟩) := by
  have hn := node_set _ x' hm
  have hi := hG.inner hk
  refine ⟨⟨j, x', hj, ?_, ?_, hn, ?_⟩, ?_⟩
  · exact ((((hg.setCell (Nat.le_refl _) _).setCell (Nat.le_refl _) _).setCell (Nat.le_refl _) _).setCell (Nat.le_refl _) _).setCell (Nat.le_refl _) _
  · simpa [World.setCell] using hz
  · rw [← hV, hv]
    exact hG.fuel t _ _ _ (by omega) (by omega) (List.getElem?_eq_some_iff.1 hj).1
  · rintro W rfl
    rw [mu_at hn, mu_at hm]
    exact mu_lt hG hk hj hjl
end Go.Proofs.Ytcpmbjlhblkniaa
