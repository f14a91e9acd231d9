/- Slices of spans as arguments. -/
import Derived.Test.YthnbmeihaojfnaaOpnZ
import Derived.Test.YthnbmeihaojfnaaSpnM
namespace Go.Proofs.Ythnbmeihaojfnaa
open Go.ChangeShapes Go.WideShapes Go.ChangeAt Go.RowKit
set_option linter.unusedVariables false
set_option maxRecDepth 100000
structure Spns where
  p : Option Addr
  cap : Nat
  l : List Spn
instance : Inhabited Spn := ⟨⟨0, 0, false, ⟨#[]⟩⟩⟩
structure SpnOk (x : Spn) : Prop where
  nm : x.nm.size ≤ maxLen
  frm : (Lit.int .i64 x.frm).wf = true
  off : (Lit.int .i64 x.off).wf = true
section
variable {H : Type} {enc : TypeId × Value → H} {w : World} {base : Nat} {spare : Nat → Bool} {held : Bool}
theorem Try.cSpan : Try.prog.cellsOf 50 = 4 := by kernel_rfl
theorem Try.bSpan : Try.prog.bytesOf 50 = 40 := by kernel_rfl
theorem span_cells {fuel : Nat} {cs : List Value} {y : DataW H × List MemPlace} (hl : cs.length = 4) (h : DataW.trod enc Try.prog w base spare held fuel 50 cs = some y) :
    ∃ x : Spn, cs = x.cells ∧ SpnOk x := by
  match cs, hl with
  | [c0, c1, c2, c3], _ =>
    obtain ⟨xs, n, _, rfl, _, hlen, hf⟩ := DataW.trod_struct Try.underlying50 h
    have e0 : DataW.trod enc Try.prog w base spare held n 3 (([c0, c1, c2, c3].drop 0).take (Try.prog.cellsOf 3)) = xs[0]? := hf 0 _ rfl
    have e1 : DataW.trod enc Try.prog w base spare held n 37 (([c0, c1, c2, c3].drop 1).take (Try.prog.cellsOf 37)) = xs[1]? := hf 1 _ rfl
    rw [Try.cInt] at e0
    rw [Try.cClock] at e1
    match xs, hlen with
    | [y0, y1], _ =>
      simp at e0 e1
      obtain ⟨a, h0, _, w0⟩ := DataW.trod_int Try.underlying3 e0
      obtain ⟨o, b, s, rfl, rfl, rfl, wo, ws⟩ := clock_cells e1
      simp at h0
      subst h0
      exact ⟨⟨a, o, b, s⟩, rfl, ws, w0, wo⟩
theorem open_spans {r : Reach} {b0 : Nat} {v : Value} {d : DataW H} {p : List MemPlace} (hv : Value.okWide Try.prog w r b0 22 v) (h : DataW.Trod enc Try.prog w base spare held 22 v d p) :
    ∃ x : Spns, v = .slice x.p x.l.length x.cap ∧ SpansAt w x.p x.l := by
  obtain ⟨a0, n0, c0, rfl⟩ := okWide_slice Try.underlying22 hv
  obtain ⟨fuel, hf⟩ := h
  obtain ⟨a, len, cap, n, e, hl, hm, hx⟩ := open_rows Try.underlying22 Try.cSpan (by decide) (by simpa [Value.cells] using hf : DataW.trod enc Try.prog w base spare held fuel 22 [.slice a0 n0 c0] = some (d, p))
  simp at e
  obtain ⟨rfl, rfl, rfl⟩ := e
  obtain ⟨f, hf2⟩ := Go.Deep.choose_lt (α := Spn) (n := n0) (p := fun i x => (x.nm.size ≤ maxLen ∧ (Lit.int .i64 x.frm).wf = true ∧ (Lit.int .i64 x.off).wf = true) ∧ ∃ b o, a0 = some ⟨b, o, none⟩ ∧ b < w.heap.size ∧ w.cell? ⟨b, o + i * 4, none⟩ = some (.int .i64 x.frm) ∧ w.cell? ⟨b, o + i * 4 + 1, none⟩ = some (.int .i64 x.off) ∧ w.cell? ⟨b, o + i * 4 + 2, none⟩ = some (.bool x.sv) ∧ w.cell? ⟨b, o + i * 4 + 3, none⟩ = some (.string x.nm)) (fun i hi => by
    obtain ⟨b, o, vs, d, ha, hb, hlen, hcell, hd⟩ := hx i hi
    obtain ⟨x, rfl, hok⟩ := span_cells hlen hd
    exact ⟨x, ⟨hok.nm, hok.frm, hok.off⟩, b, o, ha, hb, by have := hcell 0 (by decide); rw [Nat.add_zero] at this; exact this, hcell 1 (by decide), hcell 2 (by decide), hcell 3 (by decide)⟩)
  refine ⟨⟨a0, c0, (List.range n0).map f⟩, by simp, ⟨by simp; exact Nat.le_trans hl hm, fun i z hz => ?_⟩⟩
  simp only [List.getElem?_map, Option.map_eq_some_iff] at hz
  obtain ⟨j, hj, rfl⟩ := hz
  have hi : i < n0 := by rcases Nat.lt_or_ge i n0 with g | g; exact g; simp [Nat.not_lt.2 g] at hj
  simp [hi] at hj
  subst hj
  exact hf2 i hi
theorem spans_reach {x : Spns} {d : DataW H} {p : List MemPlace} (h : DataW.Trod enc Try.prog w base spare held 22 (.slice x.p x.l.length x.cap) d p) (hw : ∀ k ∈ d.weights Try.prog 22, k ≤ reachBytes) : x.l.length * 40 ≤ 140737488351232 := by
  obtain ⟨fuel, hf⟩ := h
  have := slice_reach Try.underlying22 (by simpa [Value.cells] using hf : DataW.trod enc Try.prog w base spare held fuel 22 [.slice x.p x.l.length x.cap] = some (d, p)) hw
  rw [Try.bSpan] at this
  simpa [reachBytes] using this
end
def spnL (l : List Spn) : List Value := l.flatMap Spn.cells
theorem spnL_len (l : List Spn) : (spnL l).length = l.length * 4 := by
  induction l with
  | nil => rfl
  | cons x l ih => simp only [spnL, List.flatMap_cons, List.length_append, List.length_cons] at ih ⊢; rw [ih]; simp [Spn.cells]; omega
theorem spnL_get : ∀ (l : List Spn) (i j : Nat) (x : Spn), l[i]? = some x → j < 4 → (spnL l)[i * 4 + j]? = (Spn.cells x)[j]?
  | [], i, j, x, h, _ => by simp at h
  | y :: l, 0, j, x, h, hj => by
    simp at h
    subst h
    rw [spnL, List.flatMap_cons, List.getElem?_append_left (by simp [Spn.cells]; omega)]
    simp
  | y :: l, i + 1, j, x, h, hj => by
    rw [spnL, List.flatMap_cons, List.getElem?_append_right (by simp [Spn.cells]; omega)]
    have := spnL_get l i j x (by simpa using h) hj
    rw [show (i + 1) * 4 + j - (Spn.cells y).length = i * 4 + j by simp [Spn.cells]; omega]
    exact this
theorem owns_spans {w : World} {base : Nat} {v : Value} {l : List Spn} (hok : ∀ x ∈ l, SpnOk x) (h : w.ownsRow base 50 4 v l.length (spnL l)) : ∃ a cap, v = .slice a l.length cap ∧ SpansAt w a l := by
  rcases h.2 with ⟨hv, hn⟩ | ⟨g, cap, cur, hv, hb, hg, h1, h2, h3⟩
  · refine ⟨none, 0, by rw [hv, hn], by rw [hn]; exact Nat.zero_le _, fun i x hx => ?_⟩
    have := (List.getElem?_eq_some_iff.1 hx).1
    omega
  · have cl : ∀ i (x : Spn) j, l[i]? = some x → j < 4 → w.cell? ⟨g, 0 + (i * 4 + j), none⟩ = (Spn.cells x)[j]? := fun i x j hx hj => by
      have hf := spnL_get l i j x hx hj
      have hj' : j < (Spn.cells x).length := hj
      rw [List.getElem?_eq_getElem hj'] at hf ⊢
      have hc := h.cells (g := g) (by rw [hv]; rfl) (i * 4 + j) _ hf
      rwa [show (⟨g, 0, none⟩ : Addr).add (i * 4 + j) = ⟨g, 0 + (i * 4 + j), none⟩ from Go.WideShapes.add_plain ..] at hc
    refine ⟨some ⟨g, 0, none⟩, cap, hv, Nat.le_trans h1 h2, fun i x hx => ?_⟩
    have ho := hok x (List.mem_of_getElem? hx)
    exact ⟨⟨ho.nm, ho.frm, ho.off⟩, g, 0, rfl, (Array.getElem?_eq_some_iff.1 hg).1, cl i x 0 hx (by decide), cl i x 1 hx (by decide), cl i x 2 hx (by decide), cl i x 3 hx (by decide)⟩
theorem spans_ok {w : World} {a : Option Addr} {l : List Spn} (h : SpansAt w a l) : ∀ x ∈ l, SpnOk x := fun x hx => by
  obtain ⟨i, hi⟩ := List.getElem?_of_mem hx
  obtain ⟨⟨h1, h2, h3⟩, _⟩ := h.cell i x hi
  exact ⟨h1, h2, h3⟩
theorem spnL_cell (l : List Spn) : ∀ u ∈ spnL l, u.oneCell' = true := by
  intro u hu
  simp only [spnL, List.mem_flatMap] at hu
  obtain ⟨x, _, hx⟩ := hu
  simp [Spn.cells] at hx
  rcases hx with rfl | rfl | rfl | rfl <;> rfl
theorem spnL_news {w : World} {b o : Nat} {l : List Spn} (h : SpansAt w (some ⟨b, o, none⟩) l) : ∀ j u, (spnL l)[j]? = some u → w.cell? ((⟨b, o, none⟩ : Addr).add j) = some u := by
  intro j u hu
  have hj := (List.getElem?_eq_some_iff.1 hu).1
  rw [spnL_len] at hj
  obtain ⟨x, hx⟩ : ∃ x, l[j / 4]? = some x := ⟨_, List.getElem?_eq_getElem (by omega)⟩
  have hg := spnL_get l (j / 4) (j % 4) x hx (by omega)
  rw [show j / 4 * 4 + j % 4 = j by omega, hu] at hg
  obtain ⟨_, b', o', e, _, d0, d1, d2, d3⟩ := h.cell (j / 4) x hx
  cases e
  rw [show (⟨b, o, none⟩ : Addr).add j = ⟨b, o + j, none⟩ from Go.WideShapes.add_plain ..]
  have h4 : j % 4 = 0 ∨ j % 4 = 1 ∨ j % 4 = 2 ∨ j % 4 = 3 := by omega
  rcases h4 with e | e | e | e <;> rw [e] at hg <;> simp [Spn.cells] at hg <;> subst hg
  · rw [show o + j = o + j / 4 * 4 by omega]; exact d0
  · rw [show o + j = o + j / 4 * 4 + 1 by omega]; exact d1
  · rw [show o + j = o + j / 4 * 4 + 2 by omega]; exact d2
  · rw [show o + j = o + j / 4 * 4 + 3 by omega]; exact d3
end Go.Proofs.Ythnbmeihaojfnaa
