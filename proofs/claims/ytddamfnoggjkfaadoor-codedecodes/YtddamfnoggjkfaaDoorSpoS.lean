/- What lies in memory while the document reads a program (P5.6): its instructions, numbers and answers so far, and the spool. -/
import Derived.Test.YtddamfnoggjkfaaDoorSpoP
namespace Go.Proofs.YtddamfnoggjkfaaDoor
open Go.ChangeShapes Go.WideShapes Go.ChangeAt Go.RowKit
set_option linter.unusedVariables false
structure PrS (W w wr : World) (sb pv : Nat) (L : List Int) (cv pl v : Value) (code : List Ins) (pool : List Int) (ys : List Ans) (l : List Int) (e : Int) : Prop where
  sp : Sp W wr sb L l e
  gr : Gr w wr
  wsb : w.heap.size < sb
  spv : sb < pv
  rbox : wr.heap[w.heap.size]? = some (.cells #[.slice none 0 0, .slice none 0 0, .slice none 0 0] 26)
  pbox : wr.heap[pv]? = some (.cells #[cv, pl, v] 26)
  ownC : wr.ownsRow (pv + 1) 48 2 cv code.length (insC code)
  ownP : wr.ownsRow (pv + 1) 3 1 pl pool.length (ints pool)
  own : wr.ownsRow (pv + 1) 44 5 v ys.length (ansC ys)
  okC : ∀ x ∈ code, InsOk x
  okP : ∀ z ∈ pool, (Lit.int .i64 z).wf = true
  okA : ∀ y ∈ ys, AnsOk wr y ∧ wr.ownsRow (pv + 1) 3 1 (.slice y.a y.zs.length y.cap) y.zs.length (ints y.zs)
variable {W w wr w2 w3 w4 : World} {sb pv : Nat} {L : List Int} {cv pl v v' : Value} {code : List Ins} {pool : List Int} {ys : List Ans} {l l' : List Int} {e e' : Int}
/-- Behind a call that moves the spool alone. -/
theorem PrS.call (h : PrS W w wr sb pv L cv pl v code pool ys l e) (hB : Bg sb wr w2) (hS : Sp W w2 sb L l' e') : PrS W w w2 sb pv L cv pl v code pool ys l' e' := by
  have h1 := h.wsb
  have h2 := h.spv
  refine ⟨hS, hB.gr h.gr (by omega), h1, h2, hB.row h.rbox (by omega), hB.row h.pbox (by omega), owns_bg h.ownC (by omega) hB, owns_bg h.ownP (by omega) hB, owns_bg h.own (by omega) hB, h.okC, h.okP, fun y hy => ?_⟩
  have := owns_bg (h.okA y hy).2 (by omega) hB
  exact ⟨ansOk_own (h.okA y hy).1 this, this⟩
theorem PrS.more (h : PrS W w wr sb pv L cv pl v code pool ys l e) (hg : Gr wr w2) : PrS W w w2 sb pv L cv pl v code pool ys l e := h.call (Bg.ofGr hg) (h.sp.more hg)
/-- Behind an append to a row of the call's own, and the store of the row's slice into the program. -/
theorem PrS.base (h : PrS W w wr sb pv L cv pl v code pool ys l e) (hg : Gr wr w3) {u : Value} {E : TypeId} {sz n : Nat} {xs : List Value} (hu : wr.ownsRow (pv + 1) E sz u n xs) (hgrow : w3.grownBy w4 u.ownBlock) :
    Gr w w4 ∧ Sp W w4 sb L l e ∧ w4.heap[w.heap.size]? = some (.cells #[.slice none 0 0, .slice none 0 0, .slice none 0 0] 26) ∧ w4.heap[pv]? = some (.cells #[cv, pl, v] 26) ∧ (∀ {E' s' u' n' xs'}, wr.ownsRow (pv + 1) E' s' u' n' xs' → E' ≠ E → w4.ownsRow (pv + 1) E' s' u' n' xs') := by
  have h3 := h.more hg
  have hu3 := owns_gr hu hg
  have hrow : ∀ x, u.ownBlock = some x → pv + 1 ≤ x := fun x hx => (owns_lt hu3 hx).1
  have h1 := h.wsb
  have h2 := h.spv
  have hws := h3.gr.size
  have z1 := lt_of_someE h3.rbox
  have z2 := lt_of_someE h3.pbox
  refine ⟨h3.gr.by_ hgrow (fun k hk => by have := hrow k hk; omega), ?_, (hgrow.block _ z1 (fun e => by have := hrow _ e.symm; omega)).trans h3.rbox, (hgrow.block _ z2 (fun e => by have := hrow _ e.symm; omega)).trans h3.pbox, fun hu' hne => owns_other (owns_gr hu' hg) hu3 hne hgrow⟩
  obtain ⟨a, cap, i, k1, k2⟩ := h3.sp.ex
  have := h3.sp.old
  exact ⟨h3.sp.gr.by_ hgrow (fun k hk => by have := hrow k hk; omega), h3.sp.old, h3.sp.byt, h3.sp.len, a, cap, i, (hgrow.block sb h3.sp.lt (fun e => by have := hrow _ e.symm; omega)).trans k1, k2⟩
theorem Sp.set (h : Sp W wr sb L l e) {p : Addr} (hp : sb < p.block) (u : Value) : Sp W (wr.setCell p u) sb L l e := by
  obtain ⟨a, cap, i, h1, h2⟩ := h.ex
  have := h.old
  exact ⟨h.gr.setCell (by omega) _, h.old, h.byt, h.len, a, cap, i, (Below.heap_setCell wr p u sb (by omega)).trans h1, h2⟩
theorem PrS.stepC (h : PrS W w wr sb pv L cv pl v code pool ys l e) (hg : Gr wr w3) {x : Ins} (hx : InsOk x) (hgrow : w3.grownBy w4 cv.ownBlock) (hown : w4.ownsRow (pv + 1) 48 2 v' (code.length + 1) (insC code ++ [.int .i64 x.op, .int .i64 x.n])) :
    PrS W w (w4.setCell ⟨pv, 0, none⟩ v') sb pv L v' pl v (code ++ [x]) pool ys l e := by
  obtain ⟨g1, g2, g3, g4, keep⟩ := h.base hg h.ownC hgrow
  have h1 := h.wsb
  have h2 := h.spv
  refine ⟨g2.set (by simp; omega) _, g1.setCell (by simp; omega) _, h1, h2, (heap_setCell_other _ ⟨pv, 0, none⟩ w.heap.size _ (by simp; omega)).trans g3, ?_, ?_, owns_set (keep h.ownP (by decide)) (by simp) _, owns_set (keep h.own (by decide)) (by simp) _, fun z hz => ?_, h.okP, fun y hy => ?_⟩
  · have := five_set g4 0 v'
    simpa using this
  · rw [insC_app, List.length_append, List.length_singleton]
    exact owns_set hown (by simp) _
  · rcases List.mem_append.1 hz with hz | hz
    · exact h.okC z hz
    · rw [List.mem_singleton.1 hz]; exact hx
  · have := owns_set (keep (h.okA y hy).2 (by decide)) (p := ⟨pv, 0, none⟩) (by simp) v'
    exact ⟨ansOk_own (h.okA y hy).1 this, this⟩
end Go.Proofs.YtddamfnoggjkfaaDoor
