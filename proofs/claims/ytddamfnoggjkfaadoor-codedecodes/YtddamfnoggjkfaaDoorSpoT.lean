/- What lies in memory while the document reads a number of the pool, and an answer (P5.6). -/
import Derived.Test.YtddamfnoggjkfaaDoorSpoS
namespace Go.Proofs.YtddamfnoggjkfaaDoor
open Go.ChangeShapes Go.WideShapes Go.ChangeAt Go.RowKit
set_option linter.unusedVariables false
variable {W w wr w2 w3 w4 : World} {sb pv : Nat} {L : List Int} {cv pl v v' : Value} {code : List Ins} {pool : List Int} {ys : List Ans} {l l' : List Int} {e e' : Int}
/-- Behind an append to the pool: offsets of answers are none yet. -/
theorem PrS.stepP (h : PrS W w wr sb pv L cv pl v code pool [] l e) (hB : Bg sb wr w2) (hS : Sp W w2 sb L l' e') (hg : Gr w2 w3) {x : Int} (hx : (Lit.int .i64 x).wf = true) (hgrow : w3.grownBy w4 pl.ownBlock) (hown : w4.ownsRow (pv + 1) 3 1 v' (pool.length + 1) (ints pool ++ [.int .i64 x])) :
    PrS W w (w4.setCell ⟨pv, 1, none⟩ v') sb pv L cv v' v code (pool ++ [x]) [] l' e' := by
  have h2' := h.call hB hS
  obtain ⟨g1, g2, g3, g4, keep⟩ := h2'.base hg h2'.ownP hgrow
  have h1 := h.wsb
  have h2 := h.spv
  refine ⟨g2.set (by simp; omega) _, g1.setCell (by simp; omega) _, h1, h2, (heap_setCell_other _ ⟨pv, 1, none⟩ w.heap.size _ (by simp; omega)).trans g3, ?_, owns_set (keep h2'.ownC (by decide)) (by simp) _, ?_, owns_set (keep h2'.own (by decide)) (by simp) _, h.okC, fun z hz => ?_, fun y hy => by cases hy⟩
  · have := five_set g4 1 v'
    simpa using this
  · rw [ints_appD, List.length_append, List.length_singleton]
    exact owns_set hown (by simp) _
  · rcases List.mem_append.1 hz with hz | hz
    · exact h.okP z hz
    · rw [List.mem_singleton.1 hz]; exact hx
theorem Sp.by_ (h : Sp W wr sb L l e) {row : Option Nat} (hg : wr.grownBy w2 row) (hr : ∀ k, row = some k → sb < k) : Sp W w2 sb L l e := by
  obtain ⟨a, cap, i, k1, k2⟩ := h.ex
  have := h.old
  exact ⟨h.gr.by_ hg (fun k hk => by have := hr k hk; omega), h.old, h.byt, h.len, a, cap, i, (hg.block sb h.lt (fun e => by have := hr _ e.symm; omega)).trans k1, k2⟩
/-- While an answer is read, from the memory wr on: its cells lie in the first new block. -/
structure AnS (W wr wc : World) (sb : Nat) (L : List Int) (cs : Array Value) (l : List Int) (e : Int) : Prop where
  sp : Sp W wc sb L l e
  bg : Bg sb wr wc
  box : wc.heap[wr.heap.size]? = some (.cells cs 44)
  lt : sb < wr.heap.size
variable {wc : World} {cs : Array Value}
theorem AnS.call (h : AnS W wr wc sb L cs l e) (hB : Bg sb wc w2) (hS : Sp W w2 sb L l' e') : AnS W wr w2 sb L cs l' e' := by
  have := h.lt
  exact ⟨hS, h.bg.trans hB, hB.row h.box (by omega), this⟩
theorem AnS.set (h : AnS W wr wc sb L cs l e) (i : Nat) (u : Value) : AnS W wr (wc.setCell ⟨wr.heap.size, i, none⟩ u) sb L (cs.setIfInBounds i u) l e := by
  have := h.lt
  exact ⟨h.sp.set (by exact this) _, h.bg.setNew (by exact Nat.le_refl _) _, five_set h.box i u, this⟩
theorem AnS.wrong (h : AnS W wr wc sb L cs l e) (x : Int) : AnS W wr (wc.setCell ⟨sb, 2, none⟩ (.int .i64 x)) sb L cs l x := h.call ((Bg.ofGr (Gr.refl _)).setCell 2 _) (h.sp.wrong x)
theorem AnS.more (h : AnS W wr wc sb L cs l e) (hg : Gr wc w2) : AnS W wr w2 sb L cs l e := h.call (Bg.ofGr hg) (h.sp.more hg)
theorem AnS.by_ (h : AnS W wr wc sb L cs l e) {row : Option Nat} (hg : wc.grownBy w2 row) (hr : ∀ k, row = some k → wr.heap.size < k) : AnS W wr w2 sb L cs l e := by
  have := h.lt
  exact ⟨h.sp.by_ hg (fun k hk => by have := hr k hk; omega), h.bg.by_ hg (fun k hk => by have := hr k hk; omega), (hg.block _ (lt_of_someE h.box) (fun e => by have := hr _ e.symm; omega)).trans h.box, this⟩
/-- Behind an append to the answers. -/
theorem PrS.stepA (h : PrS W w wr sb pv L cv pl v code pool ys l e) {y : Ans} (hA : AnS W wr w2 sb L cs l' e') (hy : AnsOk w2 y) (hyo : w2.ownsRow (wr.heap.size + 1) 3 1 (.slice y.a y.zs.length y.cap) y.zs.length (ints y.zs)) (hg : Gr w2 w3) (hgrow : w3.grownBy w4 v.ownBlock) (hown : w4.ownsRow (pv + 1) 44 5 v' (ys.length + 1) (ansC ys ++ Ans.cells y)) :
    PrS W w (w4.setCell ⟨pv, 2, none⟩ v') sb pv L cv pl v' code pool (ys ++ [y]) l' e' := by
  have hpw : pv < wr.heap.size := lt_of_someE h.pbox
  have h2' := h.call hA.bg hA.sp
  obtain ⟨g1, g2, g3, g4, keep⟩ := h2'.base hg h2'.own hgrow
  have h1 := h.wsb
  have h2 := h.spv
  refine ⟨g2.set (by simp; omega) _, g1.setCell (by simp; omega) _, h1, h2, (heap_setCell_other _ ⟨pv, 2, none⟩ w.heap.size _ (by simp; omega)).trans g3, ?_, owns_set (keep h2'.ownC (by decide)) (by simp) _, owns_set (keep h2'.ownP (by decide)) (by simp) _, ?_, h.okC, h.okP, fun z hz => ?_⟩
  · have := five_set g4 2 v'
    simpa using this
  · rw [ansC_app, List.length_append, List.length_singleton]
    have : ansC [y] = Ans.cells y := by simp [ansC]
    rw [this]
    exact owns_set hown (by simp) _
  · rcases List.mem_append.1 hz with hz | hz
    · have := owns_set (keep (h2'.okA z hz).2 (by decide)) (p := ⟨pv, 2, none⟩) (by simp) v'
      exact ⟨ansOk_own (h2'.okA z hz).1 this, this⟩
    · rw [List.mem_singleton.1 hz]
      have := owns_set (keep (owns_up hyo (by omega)) (by decide)) (p := ⟨pv, 2, none⟩) (by simp) v'
      exact ⟨ansOk_own hy this, this⟩
end Go.Proofs.YtddamfnoggjkfaaDoor
