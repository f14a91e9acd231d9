/- Contract: what a program that may be run tells (P5.4), by the program: its stack in memory, what is taken from it. -/
import Derived.Test.YtcpmbjlhblkniaaDoorRunM
import Derived.Test.YtcpmbjlhblkniaaDoorVerA
import Derived.Test.YtcpmbjlhblkniaaDoorTreC
namespace Go.Proofs.YtcpmbjlhblkniaaDoor
open Go.ChangeShapes Go.WideShapes Go.ChangeAt Go.RowKit
set_option linter.unusedVariables false
set_option maxRecDepth 100000
/-- A stack: a variable that holds a slice of the call's own. -/
structure Stk (w : World) (sb base : Nat) (v : Value) (l : List Int) : Prop where
  box : w.heap[sb]? = some (.cells #[v] 24)
  lt : sb < base
  size : base ≤ w.heap.size
  row : w.ownsRow base 3 1 v l.length (ints l)
theorem owns_take {w : World} {base : Nat} {e : TypeId} {a : Option Addr} {n cap m : Nat} {xs : List Value} (h : w.ownsRow base e 1 (.slice a n cap) n xs) (hm : m ≤ n) : w.ownsRow base e 1 (.slice a m cap) m (xs.take m) := by
  have hl := h.1
  refine ⟨by simp at hl ⊢; omega, ?_⟩
  rcases h.2 with ⟨hv, hn⟩ | ⟨g, cap', cur, hv, hb, hg, h1, h2, h3, h4⟩
  · cases hv
    exact Or.inl ⟨by congr; omega, by omega⟩
  · cases hv
    refine Or.inr ⟨g, cap, cur, rfl, hb, hg, by omega, h2, h3, ?_⟩
    rw [← h4, List.take_take]
    congr 1
    omega
theorem ints_take (l : List Int) (m : Nat) : ints (l.take m) = (ints l).take m := by simp [ints, List.map_take]
theorem owns_top {w : World} {base : Nat} {v : Value} {l : List Int} {e : TypeId} (h : w.ownsRow base e 1 v l.length (ints l)) {i : Nat} {z : Int} (hz : l[i]? = some z) :
    ∃ g cap, v = .slice (some ⟨g, 0, none⟩) l.length cap ∧ l.length ≤ cap ∧ base ≤ g ∧ g < w.heap.size ∧ w.cell? ⟨g, i, none⟩ = some (.int .i64 z) := by
  rcases h.2 with ⟨hv, hn⟩ | ⟨g, cap, cur, hv, hb, hg, h1, h2, h3⟩
  · have := (List.getElem?_eq_some_iff.1 hz).1
    omega
  · refine ⟨g, cap, hv, h1, hb, (Array.getElem?_eq_some_iff.1 hg).1, ?_⟩
    have hc := h.cells (g := g) (by rw [hv]; rfl) i (.int .i64 z) (by simp [ints, hz])
    rw [show (⟨g, 0, none⟩ : Addr).add i = ⟨g, 0 + i, none⟩ from Go.WideShapes.add_plain .., Nat.zero_add] at hc
    exact hc
theorem Stk.gr {w w' : World} {sb base : Nat} {v : Value} {l : List Int} (h : Stk w sb base v l) (hg : Gr w w') : Stk w' sb base v l :=
  ⟨(hg.block sb (Nat.lt_of_lt_of_le h.lt h.size)).trans h.box, h.lt, Nat.le_trans h.size hg.size, owns_gr h.row hg⟩
theorem own_ge {w : World} {base : Nat} {e : TypeId} {size : Nat} {v : Value} {n : Nat} {xs : List Value} (h : w.ownsRow base e size v n xs) {sb : Nat} (hs : sb < base) : v.ownBlock ≠ some sb := fun hh => by
  have := (owns_lt h hh).1
  omega
theorem Stk.cut {w : World} {sb base : Nat} {a : Option Addr} {n cap m : Nat} {l : List Int} (h : Stk w sb base (.slice a n cap) l) (hn : l.length = n) (hm : m ≤ n) : Stk (w.setCell ⟨sb, 0, none⟩ (.slice a m cap)) sb base (.slice a m cap) (l.take m) := by
  subst hn
  have hr := owns_take h.row hm
  refine ⟨?_, h.lt, by simpa [World.setCell] using h.size, ?_⟩
  · have := heap_setCell_same w sb 0 _ _ (.slice a m cap) h.box
    simpa using this
  · rw [ints_take, List.length_take, Nat.min_eq_left hm]
    exact ownsRow_setCell_other hr (own_ge hr h.lt) _
theorem Stk.push {w w2 w3 : World} {sb base : Nat} {v v' : Value} {l : List Int} {z : Int} (h : Stk w sb base v l) (hg : Gr w w2) (hgrow : w2.grownBy w3 v.ownBlock) (hown : w3.ownsRow base 3 1 v' (l.length + 1) (ints l ++ [.int .i64 z])) :
    Stk (w3.setCell ⟨sb, 0, none⟩ v') sb base v' (l ++ [z]) := by
  have h2 := h.gr hg
  have hb : w3.heap[sb]? = some (.cells #[v] 24) := (hgrow.block sb (Nat.lt_of_lt_of_le h2.lt h2.size) (fun e => own_ge h2.row h2.lt e.symm)).trans h2.box
  refine ⟨?_, h.lt, ?_, ?_⟩
  · have := heap_setCell_same w3 sb 0 _ _ v' hb
    simpa using this
  · have := hgrow.size
    have := h2.size
    simp [World.setCell]
    omega
  · have : ints (l ++ [z]) = ints l ++ [.int .i64 z] := by simp [ints]
    rw [this, List.length_append, List.length_singleton]
    exact ownsRow_setCell_other hown (own_ge hown h.lt) _
/-- What lies in memory while a program is run. -/
structure TolM (p : Prg) (w wr : World) (v : Value) (l : List Int) : Prop where
  gr : Gr w wr
  pbox : wr.heap[w.heap.size]? = some (.cells p.cells.toArray 27)
  stk : Stk wr (w.heap.size + 1) (w.heap.size + 2) v l
theorem TolM.more {p : Prg} {w wr w2 : World} {v : Value} {l : List Int} (h : TolM p w wr v l) (hg : Gr wr w2) : TolM p w w2 v l :=
  ⟨h.gr.trans hg, (hg.block _ (by have := h.stk.size; omega)).trans h.pbox, h.stk.gr hg⟩
theorem TolM.cut {p : Prg} {w wr : World} {a : Option Addr} {n cap m : Nat} {l : List Int} (h : TolM p w wr (.slice a n cap) l) (hn : l.length = n) (hm : m ≤ n) : TolM p w (wr.setCell ⟨w.heap.size + 1, 0, none⟩ (.slice a m cap)) (.slice a m cap) (l.take m) :=
  ⟨h.gr.setCell (by simp) _, (heap_setCell_other wr ⟨w.heap.size + 1, 0, none⟩ w.heap.size _ (by simp)).trans h.pbox, h.stk.cut hn hm⟩
theorem TolM.push {p : Prg} {w wr w2 w3 : World} {v v' : Value} {l : List Int} {z : Int} (h : TolM p w wr v l) (hg : Gr wr w2) (hgrow : w2.grownBy w3 v.ownBlock) (hown : w3.ownsRow (w.heap.size + 2) 3 1 v' (l.length + 1) (ints l ++ [.int .i64 z])) :
    TolM p w (w3.setCell ⟨w.heap.size + 1, 0, none⟩ v') v' (l ++ [z]) := by
  have h2 := h.more hg
  have hs := h2.stk.size
  refine ⟨(h2.gr.by_ hgrow (fun k hk => ?_)).setCell (by simp) _, ?_, h.stk.push hg hgrow hown⟩
  · have := (owns_lt h2.stk.row hk).1
    omega
  · exact (heap_setCell_other w3 ⟨w.heap.size + 1, 0, none⟩ w.heap.size _ (by simp)).trans ((hgrow.block w.heap.size (by omega) (fun e => own_ge h2.stk.row (by omega) e.symm)).trans h2.pbox)
set_option maxHeartbeats 1600000 in
theorem take_any (sb base m : Nat) (a : Option Addr) (cap : Nat) (l : List Int) (z : Int) (w : World) (hS : Stk w sb base (.slice a l.length cap) l) (hl : l.length = m + 1) (hz : l[m]? = some z) (hm : m ≤ 100) :
    Calls Tryd.prog 38 #[.pointer (some ⟨sb, 0, none⟩)] w fun e w' => e = .returned (.int .i64 z) ∧ w' = w.setCell ⟨sb, 0, none⟩ (.slice a m cap) := by
  obtain ⟨g, cap', hva, hcap, hb, hg, hc⟩ := owns_top hS.row hz
  simp only [Value.slice.injEq] at hva
  obtain ⟨rfl, _, rfl⟩ := hva
  rw [hl] at hS hcap
  obtain ⟨c1, f1⟩ := row_all hS.box
  have hml : cap ≤ maxLen := by
    rcases hS.row.2 with ⟨hv, hn⟩ | ⟨g', cap', cur, hv, hb', hg', h1, h2, h3⟩
    · cases hv
    · simp only [Value.slice.injEq] at hv; obtain ⟨_, _, rfl⟩ := hv; exact h2
  unfold maxLen at hml
  have i1 : m ≤ cap := by omega
  go_enter Tryd.func38, Tryd.ntmps38
  go_wp2
  go_ret
  exact ⟨rfl, rfl⟩
theorem oneIf_any (b : Bool) (w : World) : Calls Tryd.prog 39 #[.bool b] w fun e w' => e = .returned (.int .i64 (if b = true then 1 else 0)) ∧ w' = w := by
  cases b
  all_goals
    go_enter Tryd.func39, Tryd.ntmps39
    go_wp2
    go_ret
    exact ⟨rfl, rfl⟩
end Go.Proofs.YtcpmbjlhblkniaaDoor
