/- A finder of answers, where a row of parts is written. -/
import Derived.Test.YthnbmeihaojfnaaFiP
import Derived.Test.YthnbmeihaojfnaaCmp
import Derived.Test.YthnbmeihaojfnaaPaA
namespace Go.Proofs.Ythnbmeihaojfnaa
open Go.ChangeShapes Go.WideShapes Go.ChangeAt Go.RowKit Go.Maps
set_option linter.unusedVariables false
set_option maxRecDepth 100000
theorem Gr.fga {base M lb : Nat} {w1 w w' : World} (h : Gr w1 w) (g : Fga base M lb w w') (h1 : w1.heap.size ≤ base) (h2 : w1.heap.size ≤ M) (h3 : w1.heap.size ≤ lb) : Gr w1 w' :=
  ⟨g.os.trans h.os, g.out.trans h.out, Nat.le_trans h.size g.size, fun b hb => (g.block b (by omega) (by omega) (by omega)).trans (h.block b hb)⟩
theorem Gr.cg {pb : Nat} {w1 w w' : World} (h : Gr w1 w) (g : Cg pb w w') (h1 : w1.heap.size ≤ pb) : Gr w1 w' :=
  ⟨g.os.trans h.os, g.out.trans h.out, Nat.le_trans h.size g.size, fun b hb => (g.block b (Nat.lt_of_lt_of_le hb h.size) (by omega)).trans (h.block b hb)⟩
theorem FinA.cg {w w' : World} {kb mb lb M base low pb : Nat} {v : Value} {ns : List Ans} {D : DataW Unit} {cs : Array Value} (h : FinA w kb mb lb M base low v ns D) (hc : Cg pb w w') (ht : w.heap[pb]? = some (.cells cs 66)) (hlow : low ≤ pb) : FinA w' kb mb lb M base low v ns D := by
  have hs := h.size
  have hlt : ∀ {b o}, w.heap[b]? = some o → b < w.heap.size := fun e => (Array.getElem?_eq_some_iff.1 e).1
  have hk : kb ≠ pb := fun e => by have := h.kbox; rw [e, ht] at this; cases this
  have hm : mb ≠ pb := fun e => by have := h.mbox; rw [e, ht] at this; cases this
  have hl : lb ≠ pb := fun e => by have := h.lbox; rw [e, ht] at this; cases this
  have hM : M ≠ pb := fun e => by
    obtain ⟨es, cl, h1, _⟩ := h.map
    rw [e, ht] at h1; cases h1
  have hi : ∀ {b : Nat} {ds : Array Value}, w.heap[b]? = some (.cells ds 3) → w'.heap[b]? = some (.cells ds 3) := fun {b : Nat} {ds : Array Value} e => (hc.block b (hlt e) (fun g => by rw [g, ht] at e; cases e)).trans e
  refine ⟨(hc.block kb (hlt h.kbox) hk).trans h.kbox, (hc.block mb (hlt h.mbox) hm).trans h.mbox, (hc.block lb (hlt h.lbox) hl).trans h.lbox, owns_same h.row fun g hg => hc.block g (owns_lt h.row hg).2 (fun e => ?_), owns_map_sameA h.map (hc.block M (by have := h.M1; omega) hM), h.isMap, fun n hn => ?_, h.ok6, fun n hn => ⟨fun hne b o sp e => ((h.far n hn).far hne b o sp e).imp id fun ⟨ds, hd⟩ => ⟨ds, hi hd⟩⟩, h.has, h.at_, h.nodup, h.k1, h.m1, h.l1, h.M1, h.ne1, h.ne2, h.low1, h.low2, Nat.le_trans hs hc.size⟩
  · obtain ⟨cur, hr⟩ := owns_typed h.row hg
    rw [e, ht] at hr; cases hr
  · have k := h.ok n hn
    refine ⟨k.off, k.jump, k.nm, k.cap, ⟨k.zs.len, fun i z hz => ?_⟩, k.wz⟩
    obtain ⟨b, o, e, hb, hcell⟩ := k.zs.cell i z hz
    refine ⟨b, o, e, Nat.lt_of_lt_of_le hb hc.size, ?_⟩
    rw [← hcell]
    refine World.cell?_of_block (w := w) (a := ⟨b, o + i, none⟩) (hc.block b hb ?_)
    rcases (h.far n hn).far (fun h0 => by rw [h0] at hz; simp at hz) b o _ e with g | ⟨ds, g⟩
    · omega
    · intro e2; rw [e2, ht] at g; cases g
theorem Far.pw {w w' : World} {low : Nat} {x : Ans} (h : Far w low x) (hp : Pw low w w') : Far w' low x :=
  ⟨fun hne b o sp e => (h.far hne b o sp e).imp id fun ⟨cs, hc⟩ => ⟨cs, (hp.block b (Array.getElem?_eq_some_iff.1 hc).1 (Or.inr ⟨fun ds e => (by rw [hc] at e; cases e), fun ds e => (by rw [hc] at e; cases e)⟩)).trans hc⟩⟩
theorem AnsOk.pw {w w' : World} {low : Nat} {x : Ans} (h : AnsOk w x) (hf : Far w low x) (hp : Pw low w w') : AnsOk w' x :=
  ⟨h.off, h.jump, h.nm, h.cap, ⟨h.zs.len, fun i z hz => by
    obtain ⟨b, o, e, hb, hc⟩ := h.zs.cell i z hz
    refine ⟨b, o, e, Nat.lt_of_lt_of_le hb hp.size, ?_⟩
    rw [← hc]
    refine World.cell?_of_block (w := w) (a := ⟨b, o + i, none⟩) (hp.block b hb ?_)
    rcases hf.far (fun h0 => by rw [h0] at hz; simp at hz) b o _ e with g | ⟨cs, g⟩
    · exact Or.inl g
    · exact Or.inr ⟨fun ds e => (by rw [g] at e; cases e), fun ds e => (by rw [g] at e; cases e)⟩⟩, h.wz⟩
theorem FinA.pw {w w' : World} {kb mb lb M base low : Nat} {v : Value} {ns : List Ans} {D : DataW Unit} (h : FinA w kb mb lb M base low v ns D) (hp : Pw low w w') : FinA w' kb mb lb M base low v ns D := by
  have hlt : ∀ {b : Nat} {o : Obj}, w.heap[b]? = some o → b < w.heap.size := fun e => (Array.getElem?_eq_some_iff.1 e).1
  have hk : ∀ (b : Nat) (cs : Array Value) (t : TypeId), w.heap[b]? = some (.cells cs t) → t ≠ 66 → t ≠ 63 → w'.heap[b]? = some (.cells cs t) := fun b cs t e h1 h2 =>
    (hp.block b (hlt e) (Or.inr ⟨fun ds g => by rw [e] at g; cases g; exact h1 rfl, fun ds g => by rw [e] at g; cases g; exact h2 rfl⟩)).trans e
  refine ⟨hk _ _ _ h.kbox (by decide) (by decide), hk _ _ _ h.mbox (by decide) (by decide), hk _ _ _ h.lbox (by decide) (by decide), owns_same h.row fun g hg => ?_, owns_map_sameA h.map ?_, h.isMap, fun n hn => (h.ok n hn).pw (h.far n hn) hp, h.ok6, fun n hn => (h.far n hn).pw hp, h.has, h.at_, h.nodup, h.k1, h.m1, h.l1, h.M1, h.ne1, h.ne2, h.low1, h.low2, Nat.le_trans h.size hp.size⟩
  · obtain ⟨cur, hr⟩ := owns_typed h.row hg
    rw [hr]; exact hk _ _ _ hr (by decide) (by decide)
  · obtain ⟨es, cl, h1, _⟩ := h.map
    exact hp.block M (hlt h1) (Or.inr ⟨fun ds g => (by rw [h1] at g; cases g), fun ds g => (by rw [h1] at g; cases g)⟩)
theorem part_get : ∀ (l : List (Int × Int)) (i : Nat) (q : Int × Int), l[i]? = some q → (partL l)[i * 2]? = some (.int .i64 q.1) ∧ (partL l)[i * 2 + 1]? = some (.int .i64 q.2)
  | [], i, q, h => by simp at h
  | p :: l, 0, q, h => by simp at h; subst h; exact ⟨rfl, rfl⟩
  | p :: l, i + 1, q, h => by
    have := part_get l i q (by simpa using h)
    rw [show (i + 1) * 2 = i * 2 + 2 by omega, show i * 2 + 2 + 1 = i * 2 + 1 + 2 by omega]
    simpa [partL] using this
theorem part_len (l : List (Int × Int)) : (partL l).length = l.length * 2 := by
  induction l with
  | nil => rfl
  | cons p l ih => simp only [partL, List.flatMap_cons, List.length_append, List.length_cons, List.length_nil] at ih ⊢; omega
/-- A row of parts that the call owns, as growing a tree takes it. -/
theorem owns_cmp {w : World} {base : Nat} {v : Value} {qs : List (Int × Int)} (h : w.ownsRow base 66 2 v qs.length (partL qs)) (h0 : 0 < qs.length) :
    ∃ (g cap : Nat) (cs : Array Value), v = .slice (some ⟨g, 0, none⟩) qs.length cap ∧ base ≤ g ∧ g < w.heap.size ∧ w.heap[g]? = some (.cells cs 66) ∧ CmpR cs qs 0 ∧ qs.length ≤ cap ∧ cap ≤ maxLen := by
  rcases h.2 with ⟨hv, hn⟩ | ⟨g, cap, cur, hv, hb, hg, h1, h2, h3⟩
  · omega
  · have cl : ∀ j u, (partL qs)[j]? = some u → cur[j]? = some u := fun j u hu => by
      have hc := h.cells (g := g) (by rw [hv]; rfl) j u hu
      rw [show (⟨g, 0, none⟩ : Addr).add j = ⟨g, 0 + j, none⟩ from Go.WideShapes.add_plain .., (row_all hg).1, Nat.zero_add] at hc
      exact hc
    refine ⟨g, cap, cur, hv, hb, (Array.getElem?_eq_some_iff.1 hg).1, hg, ⟨fun j x hj => ?_, fun j x _ hj => ⟨cl _ _ (part_get qs j x hj).1, cl _ _ (part_get qs j x hj).2⟩, ?_⟩, h1, h2⟩
    · rw [compact_one, List.getElem?_take] at hj
      by_cases k : j < 0 + 1
      · rw [if_pos k] at hj; exact ⟨cl _ _ (part_get qs j x hj).1, cl _ _ (part_get qs j x hj).2⟩
      · rw [if_neg k] at hj; cases hj
    · obtain ⟨q, hq⟩ : ∃ q, qs[qs.length - 1]? = some q := ⟨_, List.getElem?_eq_getElem (by omega)⟩
      have := (Array.getElem?_eq_some_iff.1 (cl _ _ (part_get qs _ q hq).2)).1
      omega
end Go.Proofs.Ythnbmeihaojfnaa
