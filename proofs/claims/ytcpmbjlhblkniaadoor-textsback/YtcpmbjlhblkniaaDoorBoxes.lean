/- Structs in memory: what lies in a new block, and that it lies on. -/
import Derived.Test.YtcpmbjlhblkniaaDoorMath
import Derived.ProofKit
import Derived.RowKit3
namespace Go.Proofs.YtcpmbjlhblkniaaDoor
open Go.RowKit
theorem cell_new (w : World) (c : Array Value) (t : TypeId) (j : Nat) : (w.alloc (.cells c t)).cell? ⟨w.heap.size, j, none⟩ = c[j]? := by
  have e : (w.alloc (.cells c t)).heap[w.heap.size]? = some (.cells c t) := (MapKept.heap_alloc w _).1
  unfold World.cell?
  rw [e]
  rfl
theorem cell_lt {W : World} {b o : Nat} {x : Value} (h : W.cell? ⟨b, o, none⟩ = some x) : b < W.heap.size := by
  rcases Nat.lt_or_ge b W.heap.size with g | g
  · exact g
  · have n : W.heap[b]? = none := Array.getElem?_eq_none g
    simp [World.cell?, n] at h
theorem cells3 {W w1 : World} {b : Nat} {x y z : Value} (hg : Grown W w1) (h : W.cell? ⟨b, 0, none⟩ = some x ∧ W.cell? ⟨b, 1, none⟩ = some y ∧ W.cell? ⟨b, 2, none⟩ = some z) :
    w1.cell? ⟨b, 0, none⟩ = some x ∧ w1.cell? ⟨b, 1, none⟩ = some y ∧ w1.cell? ⟨b, 2, none⟩ = some z :=
  ⟨(Grown_cell hg b 0 (cell_lt h.1)).trans h.1, (Grown_cell hg b 1 (cell_lt h.1)).trans h.2.1, (Grown_cell hg b 2 (cell_lt h.1)).trans h.2.2⟩
theorem box3 (w : World) (x y z : Value) (t : TypeId) : (w.alloc (.cells #[x, y, z] t)).cell? ⟨w.heap.size, 0, none⟩ = some x ∧ (w.alloc (.cells #[x, y, z] t)).cell? ⟨w.heap.size, 1, none⟩ = some y ∧ (w.alloc (.cells #[x, y, z] t)).cell? ⟨w.heap.size, 2, none⟩ = some z :=
  ⟨cell_new w _ t 0, cell_new w _ t 1, cell_new w _ t 2⟩
theorem cells6 {W w1 : World} {b : Nat} {x y z p q r : Value} (hg : Grown W w1) (h : (W.cell? ⟨b, 0, none⟩ = some x ∧ W.cell? ⟨b, 1, none⟩ = some y ∧ W.cell? ⟨b, 2, none⟩ = some z) ∧ W.cell? ⟨b, 3, none⟩ = some p ∧ W.cell? ⟨b, 4, none⟩ = some q ∧ W.cell? ⟨b, 5, none⟩ = some r) :
    (w1.cell? ⟨b, 0, none⟩ = some x ∧ w1.cell? ⟨b, 1, none⟩ = some y ∧ w1.cell? ⟨b, 2, none⟩ = some z) ∧ w1.cell? ⟨b, 3, none⟩ = some p ∧ w1.cell? ⟨b, 4, none⟩ = some q ∧ w1.cell? ⟨b, 5, none⟩ = some r :=
  ⟨cells3 hg h.1, (Grown_cell hg b 3 (cell_lt h.1.1)).trans h.2.1, (Grown_cell hg b 4 (cell_lt h.1.1)).trans h.2.2.1, (Grown_cell hg b 5 (cell_lt h.1.1)).trans h.2.2.2⟩
theorem box6 (w : World) (x y z p q r : Value) (t : TypeId) : ((w.alloc (.cells #[x, y, z, p, q, r] t)).cell? ⟨w.heap.size, 0, none⟩ = some x ∧ (w.alloc (.cells #[x, y, z, p, q, r] t)).cell? ⟨w.heap.size, 1, none⟩ = some y ∧ (w.alloc (.cells #[x, y, z, p, q, r] t)).cell? ⟨w.heap.size, 2, none⟩ = some z) ∧
    (w.alloc (.cells #[x, y, z, p, q, r] t)).cell? ⟨w.heap.size, 3, none⟩ = some p ∧ (w.alloc (.cells #[x, y, z, p, q, r] t)).cell? ⟨w.heap.size, 4, none⟩ = some q ∧ (w.alloc (.cells #[x, y, z, p, q, r] t)).cell? ⟨w.heap.size, 5, none⟩ = some r :=
  ⟨⟨cell_new w _ t 0, cell_new w _ t 1, cell_new w _ t 2⟩, cell_new w _ t 3, cell_new w _ t 4, cell_new w _ t 5⟩
end Go.Proofs.YtcpmbjlhblkniaaDoor
