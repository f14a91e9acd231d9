/- Contract: answers in memory of their own. -/
import Derived.Test.YtcpmbjlhblkniaaTreC
import Derived.Test.YtcpmbjlhblkniaaTreV
import Derived.Test.YtcpmbjlhblkniaaTreE
import Derived.Laws.MakeOwn
namespace Go.Proofs.Ytcpmbjlhblkniaa
open Go.ChangeShapes Go.WideShapes Go.ChangeAt Go.RowKit
set_option linter.unusedVariables false
set_option maxRecDepth 100000
theorem Try.infoAns : ∃ i, Try.prog.info? 39 = some i ∧ i.zero = some (.agg #[.int .i64 0, .bool false, .string ⟨#[]⟩, .slice none 0 0, .int .i64 0]) ∧ i.size = 5 ∧ i.bytes = 64 :=
  ⟨_, rfl, by kernel_rfl, by kernel_rfl, by kernel_rfl⟩
/-- Five cells of a block are written. -/
def set5 (cs : Array Value) (p : Nat) (x : Ans) : Array Value := ((((cs.setIfInBounds p (.int .i64 x.off)).setIfInBounds (p + 1) (.bool x.sv)).setIfInBounds (p + 2) (.string x.nm)).setIfInBounds (p + 3) (.slice x.a x.zs.length x.cap)).setIfInBounds (p + 4) (.int .i64 x.jump)
theorem heap_set5 {w : World} {b p : Nat} {t : TypeId} {cs : Array Value} (x : Ans) (h : w.heap[b]? = some (.cells cs t)) :
    (((((w.setCell ⟨b, p, none⟩ (.int .i64 x.off)).setCell ⟨b, p + 1, none⟩ (.bool x.sv)).setCell ⟨b, p + 2, none⟩ (.string x.nm)).setCell ⟨b, p + 3, none⟩ (.slice x.a x.zs.length x.cap)).setCell ⟨b, p + 4, none⟩ (.int .i64 x.jump)).heap[b]? = some (.cells (set5 cs p x) t) :=
  heap_setCell_same _ b (p + 4) _ t _ (heap_setCell_same _ b (p + 3) _ t _ (heap_setCell_same _ b (p + 2) _ t _ (heap_setCell_same _ b (p + 1) _ t _ (heap_setCell_same w b p _ t _ h))))
theorem set5_size (cs : Array Value) (p : Nat) (x : Ans) : (set5 cs p x).size = cs.size := by simp [set5]
theorem set5_at {cs : Array Value} {p : Nat} (x : Ans) (h : p + 5 ≤ cs.size) {j : Nat} (hj : j < 5) : (set5 cs p x)[p + j]? = (Ans.cells x)[j]? := by
  unfold set5 Ans.cells
  simp only [Array.getElem?_setIfInBounds, Array.size_setIfInBounds]
  match j, hj with
  | 0, _ => simp <;> omega
  | 1, _ => simp <;> omega
  | 2, _ => simp <;> omega
  | 3, _ => simp <;> omega
  | 4, _ => simp <;> omega
theorem set5_other {cs : Array Value} {p q : Nat} (x : Ans) (h : q < p ∨ p + 5 ≤ q) : (set5 cs p x)[q]? = cs[q]? := by
  unfold set5
  simp only [Array.getElem?_setIfInBounds, Array.size_setIfInBounds]
  rw [if_neg (by omega), if_neg (by omega), if_neg (by omega), if_neg (by omega), if_neg (by omega)]
/-- Copies that lie in a block so far. -/
structure CopR (w wr : World) (ob : Nat) (cs : Array Value) (n : Nat) (xs ys : List Ans) : Prop where
  gr : Gr w wr
  row : wr.heap[ob]? = some (.cells cs 39)
  size : cs.size = n * 5
  len : ys.length ≤ n
  vals : ys.map Ans.val = (xs.take ys.length).map Ans.val
  cell : ∀ (i : Nat) y, ys[i]? = some y → ∀ j, j < 5 → cs[i * 5 + j]? = (Ans.cells y)[j]?
  ok : ∀ y ∈ ys, AnsOk wr y ∧ NewAt (ob + 1) y.a
theorem AnsOk.sets {w : World} {y : Ans} (h : AnsOk w y) {n : Nat} (hn : NewAt n y.a) {p : Addr} (hp : p.block < n) (u : Value) : AnsOk (w.setCell p u) y :=
  ⟨h.off, h.jump, h.nm, h.cap, h.zs.sets hn hp u, h.wz⟩
theorem AnsOk.set5 {w : World} {y : Ans} {b p : Nat} (h : AnsOk w y) (hn : NewAt (b + 1) y.a) (u0 u1 u2 u3 u4 : Value) :
    AnsOk (((((w.setCell ⟨b, p, none⟩ u0).setCell ⟨b, p + 1, none⟩ u1).setCell ⟨b, p + 2, none⟩ u2).setCell ⟨b, p + 3, none⟩ u3).setCell ⟨b, p + 4, none⟩ u4) y :=
  ((((h.sets hn (Nat.lt_succ_self b) _).sets hn (Nat.lt_succ_self b) _).sets hn (Nat.lt_succ_self b) _).sets hn (Nat.lt_succ_self b) _).sets hn (Nat.lt_succ_self b) _
theorem CopR.step {w wr w5 : World} {ob n : Nat} {cs : Array Value} {xs ys : List Ans} (h : CopR w wr ob cs n xs ys) (hob : w.heap.size ≤ ob) (hz : ob < wr.heap.size) (g : Gr wr w5) {x y : Ans} (hx : xs[ys.length]? = some x) (hv : y.val = x.val) (hy : AnsOk w5 y) (hn : NewAt (ob + 1) y.a) (hl : ys.length < n) :
    CopR w (((((w5.setCell ⟨ob, ys.length * 5, none⟩ (.int .i64 y.off)).setCell ⟨ob, ys.length * 5 + 1, none⟩ (.bool y.sv)).setCell ⟨ob, ys.length * 5 + 2, none⟩ (.string y.nm)).setCell ⟨ob, ys.length * 5 + 3, none⟩ (.slice y.a y.zs.length y.cap)).setCell ⟨ob, ys.length * 5 + 4, none⟩ (.int .i64 y.jump)) ob (set5 cs (ys.length * 5) y) n xs (ys ++ [y]) where
  gr := (((((h.gr.trans g).setCell hob _).setCell hob _).setCell hob _).setCell hob _).setCell hob _
  row := heap_set5 y ((g.block ob hz).trans h.row)
  size := (set5_size _ _ _).trans h.size
  len := by simp; omega
  vals := by
    rw [List.map_append, h.vals, List.length_append, List.length_singleton, List.take_add_one, hx, List.map_append]
    simp [hv]
  cell := fun i z hi j hj => by
    rcases Nat.lt_trichotomy i ys.length with hlt | rfl | hgt
    · rw [List.getElem?_append_left hlt] at hi
      rw [set5_other y (by omega)]
      exact h.cell i z hi j hj
    · simp at hi
      subst hi
      exact set5_at y (by rw [h.size]; omega) hj
    · rw [List.getElem?_eq_none (by simp; omega)] at hi
      cases hi
  ok := fun z hz => by
    rcases List.mem_append.1 hz with hm | hm
    · exact ⟨((h.ok z hm).1.gr g).set5 (h.ok z hm).2 _ _ _ _ _, (h.ok z hm).2⟩
    · rw [List.mem_singleton] at hm
      subst hm
      exact ⟨hy.set5 hn _ _ _ _ _, hn⟩
theorem CopR.done {w wr : World} {ob n : Nat} {cs : Array Value} {xs ys : List Ans} (h : CopR w wr ob cs n xs ys) (hz : ob < wr.heap.size) (hn : ys.length ≤ maxLen) : FivesAt wr (some ⟨ob, 0, none⟩) ys Ans.cells := by
  obtain ⟨c, -⟩ := row_all h.row
  refine ⟨hn, fun i y hi => ⟨ob, 0, rfl, hz, ?_⟩⟩
  have k := h.cell i y hi
  rw [Nat.zero_add]
  exact ⟨(c _).trans (k 0 (by decide)), (c _).trans (k 1 (by decide)), (c _).trans (k 2 (by decide)), (c _).trans (k 3 (by decide)), (c _).trans (k 4 (by decide))⟩
end Go.Proofs.Ytcpmbjlhblkniaa
