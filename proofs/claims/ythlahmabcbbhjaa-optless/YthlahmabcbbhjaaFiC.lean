/- A finder of answers, where a row of parts is written. -/
import Derived.Test.YthlahmabcbbhjaaFiP
import Derived.Test.YthlahmabcbbhjaaCmp
namespace Go.Proofs.Ythlahmabcbbhjaa
open Go.ChangeShapes Go.WideShapes Go.ChangeAt Go.RowKit Go.Maps
set_option linter.unusedVariables false
theorem Gr.fga {base M lb : Nat} {w1 w w' : World} (h : Gr w1 w) (g : Fga base M lb w w') (h1 : w1.heap.size ≤ base) (h2 : w1.heap.size ≤ M) (h3 : w1.heap.size ≤ lb) : Gr w1 w' :=
  ⟨g.os.trans h.os, g.out.trans h.out, Nat.le_trans h.size g.size, fun b hb => (g.block b (by omega) (by omega) (by omega)).trans (h.block b hb)⟩
theorem Gr.cg {pb : Nat} {w1 w w' : World} (h : Gr w1 w) (g : Cg pb w w') (h1 : w1.heap.size ≤ pb) : Gr w1 w' :=
  ⟨g.os.trans h.os, g.out.trans h.out, Nat.le_trans h.size g.size, fun b hb => (g.block b (Nat.lt_of_lt_of_le hb h.size) (by omega)).trans (h.block b hb)⟩
theorem FinA.cg {w w' : World} {kb mb lb M base low pb : Nat} {v : Value} {ns : List Ans} {D : DataW Unit} {cs : Array Value} (h : FinA w kb mb lb M base low v ns D) (hc : Cg pb w w') (ht : w.heap[pb]? = some (.cells cs 89)) (hlow : low ≤ pb) : FinA w' kb mb lb M base low v ns D := by
  have hs := h.size
  have hlt : ∀ {b o}, w.heap[b]? = some o → b < w.heap.size := fun e => (Array.getElem?_eq_some_iff.1 e).1
  have hk : kb ≠ pb := fun e => by have := h.kbox; rw [e, ht] at this; cases this
  have hm : mb ≠ pb := fun e => by have := h.mbox; rw [e, ht] at this; cases this
  have hl : lb ≠ pb := fun e => by have := h.lbox; rw [e, ht] at this; cases this
  have hM : M ≠ pb := fun e => by
    obtain ⟨es, cl, h1, _⟩ := h.map
    rw [e, ht] at h1; cases h1
  have hi : ∀ {b : Nat} {ds : Array Value}, w.heap[b]? = some (.cells ds 3) → w'.heap[b]? = some (.cells ds 3) := fun {b : Nat} {ds : Array Value} e => (hc.block b (hlt e) (fun g => by rw [g, ht] at e; cases e)).trans e
  refine ⟨(hc.block kb (hlt h.kbox) hk).trans h.kbox, (hc.block mb (hlt h.mbox) hm).trans h.mbox, (hc.block lb (hlt h.lbox) hl).trans h.lbox, owns_same h.row fun g hg => hc.block g (owns_lt h.row hg).2 (fun e => ?_), owns_map_sameA h.map (hc.block M (by have := h.M1; omega) hM), h.isMap, fun n hn => ?_, h.ok6, fun n hn => ⟨fun hne b o sp e => ((h.far n hn).far hne b o sp e).imp id fun ⟨ds, hd⟩ => ⟨ds, hi hd⟩⟩, h.has, h.at_, h.nodup, h.k1, h.m1, h.l1, h.M1, h.ne1, h.ne2, h.low1, h.low2, Nat.le_trans hs hc.size⟩
  · obtain ⟨cur, hr⟩ := owns_typed h.row hg
    rw [e, ht] at hr; cases hr
  · have k := h.ok n hn
    refine ⟨k.off, k.jump, k.nm, k.cap, ⟨k.zs.len, fun i z hz => ?_⟩, k.wz⟩
    obtain ⟨b, o, e, hb, hcell⟩ := k.zs.cell i z hz
    refine ⟨b, o, e, Nat.lt_of_lt_of_le hb hc.size, ?_⟩
    rw [← hcell]
    refine World.cell?_of_block (w := w) (a := ⟨b, o + i, none⟩) (hc.block b hb ?_)
    rcases (h.far n hn).far (fun h0 => by rw [h0] at hz; simp at hz) b o _ e with g | ⟨ds, g⟩
    · omega
    · intro e2; rw [e2, ht] at g; cases g
end Go.Proofs.Ythlahmabcbbhjaa
