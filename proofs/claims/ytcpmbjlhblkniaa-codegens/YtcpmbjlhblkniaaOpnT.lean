/- Answers, nodes and forests as arguments: what they hold. -/
import Derived.Test.YtcpmbjlhblkniaaOpn
namespace Go.Proofs.Ytcpmbjlhblkniaa
open Go.ChangeShapes Go.WideShapes Go.ChangeAt Go.RowKit
set_option linter.unusedVariables false
set_option maxRecDepth 100000
theorem arr5 {α : Type} {cs : List α} (h : cs.length = 5) : ∃ c0 c1 c2 c3 c4, cs = [c0, c1, c2, c3, c4] := by
  match cs, h with
  | [c0, c1, c2, c3, c4], _ => exact ⟨c0, c1, c2, c3, c4, rfl⟩
section
variable {H : Type} {enc : TypeId × Value → H} {w : World} {base : Nat} {spare : Nat → Bool} {held : Bool}
theorem Try.cInt : Try.prog.cellsOf 3 = 1 := by kernel_rfl
theorem Try.cBool : Try.prog.cellsOf 4 = 1 := by kernel_rfl
theorem Try.cString : Try.prog.cellsOf 9 = 1 := by kernel_rfl
theorem Try.cInts : Try.prog.cellsOf 27 = 1 := by kernel_rfl
theorem Try.cClock : Try.prog.cellsOf 37 = 3 := by kernel_rfl
theorem Try.cAnswer : Try.prog.cellsOf 39 = 5 := by kernel_rfl
theorem clock_cells {fuel : Nat} {c0 c1 c2 : Value} {x : DataW H × List MemPlace} (h : DataW.trod enc Try.prog w base spare held fuel 37 [c0, c1, c2] = some x) :
    ∃ (a : Int) (b : Bool) (c : ByteArray), c0 = .int .i64 a ∧ c1 = .bool b ∧ c2 = .string c ∧ (Lit.int .i64 a).wf = true ∧ c.size ≤ maxLen := by
  obtain ⟨xs, n, _, rfl, _, hlen, hf⟩ := DataW.trod_struct Try.underlying37 h
  have e0 : DataW.trod enc Try.prog w base spare held n 3 (([c0, c1, c2].drop 0).take (Try.prog.cellsOf 3)) = xs[0]? := hf 0 _ rfl
  have e1 : DataW.trod enc Try.prog w base spare held n 4 (([c0, c1, c2].drop 1).take (Try.prog.cellsOf 4)) = xs[1]? := hf 1 _ rfl
  have e2 : DataW.trod enc Try.prog w base spare held n 9 (([c0, c1, c2].drop 2).take (Try.prog.cellsOf 9)) = xs[2]? := hf 2 _ rfl
  rw [Try.cInt] at e0
  rw [Try.cBool] at e1
  rw [Try.cString] at e2
  match xs, hlen with
  | [y0, y1, y2], _ =>
    simp at e0 e1 e2
    obtain ⟨a, h0, rfl, wa⟩ := DataW.trod_int Try.underlying3 e0
    obtain ⟨b, h1, rfl⟩ := DataW.trod_bool Try.underlying4 e1
    obtain ⟨c, h2, rfl, wc⟩ := DataW.trod_string Try.underlying9 e2
    simp at h0 h1 h2
    exact ⟨a, b, c, h0, h1, h2, wa, wc⟩
theorem answer_cells {fuel : Nat} {cs : List Value} {y : DataW H × List MemPlace} (hl : cs.length = 5) (h : DataW.trod enc Try.prog w base spare held fuel 39 cs = some y) :
    ∃ x : Ans, cs = x.cells ∧ AnsOk w x := by
  obtain ⟨c0, c1, c2, c3, c4, rfl⟩ := arr5 hl
  obtain ⟨xs, n, _, rfl, _, hlen, hf⟩ := DataW.trod_struct Try.underlying39 h
  have e0 : DataW.trod enc Try.prog w base spare held n 37 (([c0, c1, c2, c3, c4].drop 0).take (Try.prog.cellsOf 37)) = xs[0]? := hf 0 _ rfl
  have e1 : DataW.trod enc Try.prog w base spare held n 27 (([c0, c1, c2, c3, c4].drop 3).take (Try.prog.cellsOf 27)) = xs[1]? := hf 1 _ rfl
  have e2 : DataW.trod enc Try.prog w base spare held n 3 (([c0, c1, c2, c3, c4].drop 4).take (Try.prog.cellsOf 3)) = xs[2]? := hf 2 _ rfl
  rw [Try.cClock] at e0
  rw [Try.cInts] at e1
  rw [Try.cInt] at e2
  match xs, hlen with
  | [y0, y1, y2], _ =>
    simp at e0 e1 e2
    obtain ⟨o, b, s, rfl, rfl, rfl, wo, ws⟩ := clock_cells e0
    obtain ⟨a, cap, zs, h1, hc, hm, hz, wz⟩ := ints_cells Try.underlying27 Try.underlying3 Try.cInt e1
    obtain ⟨j, h2, _, wj⟩ := DataW.trod_int Try.underlying3 e2
    simp at h1 h2
    subst h1 h2
    exact ⟨⟨o, b, s, a, cap, zs, j⟩, rfl, ⟨wo, wj, ws, hc, hz, wz⟩⟩
theorem open_answer {r : Reach} {b0 : Nat} {v : Value} {d : DataW H} {p : List MemPlace} (hv : Value.okWide Try.prog w r b0 39 v) (h : DataW.Trod enc Try.prog w base spare held 39 v d p) :
    ∃ x : Ans, v = .agg x.cells.toArray ∧ AnsOk w x := by
  obtain ⟨cs, rfl, hsz⟩ := okWide_struct Try.underlying39 hv
  obtain ⟨fuel, hf⟩ := h
  obtain ⟨x, hx, ho⟩ := answer_cells (cs := cs.toList) (by simpa using hsz.trans Try.cAnswer) (by simpa [Value.cells] using hf)
  exact ⟨x, by rw [← hx], ho⟩
theorem Try.cNode : Try.prog.cellsOf 56 = 5 := by kernel_rfl
theorem Try.cNodes : Try.prog.cellsOf 22 = 1 := by kernel_rfl
theorem Try.cAnswers : Try.prog.cellsOf 23 = 1 := by kernel_rfl
theorem Try.cForest : Try.prog.cellsOf 25 = 2 := by kernel_rfl
theorem node_cells {fuel : Nat} {cs : List Value} {y : DataW H × List MemPlace} (hl : cs.length = 5) (h : DataW.trod enc Try.prog w base spare held fuel 56 cs = some y) :
    ∃ x : Tre.Nod, cs = Nod.cells x ∧ NodOk x := by
  obtain ⟨c0, c1, c2, c3, c4, rfl⟩ := arr5 hl
  obtain ⟨xs, n, _, rfl, _, hlen, hf⟩ := DataW.trod_struct Try.underlying56 h
  have e0 : DataW.trod enc Try.prog w base spare held n 4 (([c0, c1, c2, c3, c4].drop 0).take (Try.prog.cellsOf 4)) = xs[0]? := hf 0 _ rfl
  have e1 : DataW.trod enc Try.prog w base spare held n 3 (([c0, c1, c2, c3, c4].drop 1).take (Try.prog.cellsOf 3)) = xs[1]? := hf 1 _ rfl
  have e2 : DataW.trod enc Try.prog w base spare held n 3 (([c0, c1, c2, c3, c4].drop 2).take (Try.prog.cellsOf 3)) = xs[2]? := hf 2 _ rfl
  have e3 : DataW.trod enc Try.prog w base spare held n 3 (([c0, c1, c2, c3, c4].drop 3).take (Try.prog.cellsOf 3)) = xs[3]? := hf 3 _ rfl
  have e4 : DataW.trod enc Try.prog w base spare held n 3 (([c0, c1, c2, c3, c4].drop 4).take (Try.prog.cellsOf 3)) = xs[4]? := hf 4 _ rfl
  rw [Try.cBool] at e0
  rw [Try.cInt] at e1 e2 e3 e4
  match xs, hlen with
  | [y0, y1, y2, y3, y4], _ =>
    simp at e0 e1 e2 e3 e4
    obtain ⟨l, h0, _⟩ := DataW.trod_bool Try.underlying4 e0
    obtain ⟨a, h1, _, w1⟩ := DataW.trod_int Try.underlying3 e1
    obtain ⟨b, h2, _, w2⟩ := DataW.trod_int Try.underlying3 e2
    obtain ⟨c, h3, _, w3⟩ := DataW.trod_int Try.underlying3 e3
    obtain ⟨d, h4, _, w4⟩ := DataW.trod_int Try.underlying3 e4
    simp at h0 h1 h2 h3 h4
    subst h0 h1 h2 h3 h4
    exact ⟨⟨l, a, b, c, d⟩, rfl, ⟨w1, w2, w3, w4⟩⟩
theorem range_get {α : Type} {f : Nat → α} {n i : Nat} {z : α} (h : ((List.range n).map f)[i]? = some z) : i < n ∧ z = f i := by
  have hi : i < n := by have := (List.getElem?_eq_some_iff.1 h).1; simpa using this
  refine ⟨hi, ?_⟩
  rw [List.getElem?_map, List.getElem?_range hi] at h
  simpa using h.symm
/-- A slice whose elements fill five cells each, opened. -/
theorem fives_cells {α : Type} [Inhabited α] {t e : TypeId} {fuel : Nat} {cs : List Value} {y : DataW H × List MemPlace} (cells : α → List Value) (ok : α → Prop) (ht : Try.prog.underlying t = some (.slice e)) (hc : Try.prog.cellsOf e = 5)
    (hop : ∀ (n : Nat) (vs : List Value) (d : DataW H × List MemPlace), vs.length = 5 → DataW.trod enc Try.prog w base spare held n e vs = some d → ∃ x, vs = cells x ∧ ok x) (hln : ∀ x, (cells x).length = 5)
    (h : DataW.trod enc Try.prog w base spare held fuel t cs = some y) :
    ∃ (a : Option Addr) (cap : Nat) (l : List α), cs = [.slice a l.length cap] ∧ l.length ≤ cap ∧ FivesAt w a l cells ∧ ∀ x ∈ l, ok x := by
  obtain ⟨a, len, cap, n, rfl, hl, hm, hx⟩ := open_rows ht hc (by decide) h
  obtain ⟨f, hf⟩ := Go.Deep.choose_lt (α := α) (n := len) (p := fun i x => ok x ∧ ∃ b o, a = some ⟨b, o, none⟩ ∧ b < w.heap.size ∧ Five w b (o + i * 5) (cells x)) (fun i hi => by
    obtain ⟨b, o, vs, d, ha, hb, hlen, hcell, hd⟩ := hx i hi
    obtain ⟨x, rfl, hok⟩ := hop n vs d hlen hd
    exact ⟨x, hok, b, o, ha, hb, by simpa using hcell 0 (by decide), hcell 1 (by decide), hcell 2 (by decide), hcell 3 (by decide), hcell 4 (by decide)⟩)
  refine ⟨a, cap, (List.range len).map f, by simp, by simpa using hl, ⟨by simp; exact Nat.le_trans hl hm, fun i z hz => ?_⟩, fun z hz => ?_⟩
  · obtain ⟨hi, rfl⟩ := range_get hz
    exact (hf i hi).2
  · obtain ⟨i, hi, rfl⟩ := List.mem_map.1 hz
    exact (hf i (List.mem_range.1 hi)).1
instance : Inhabited Ans := ⟨⟨0, false, ⟨#[]⟩, none, 0, [], 0⟩⟩
instance : Inhabited Tre.Nod := ⟨⟨false, 0, 0, 0, 0⟩⟩
theorem forest_cells {fuel : Nat} {c0 c1 : Value} {y : DataW H × List MemPlace} (h : DataW.trod enc Try.prog w base spare held fuel 25 [c0, c1] = some y) :
    ∃ f : Fst, [c0, c1] = f.cells ∧ FstOk w f := by
  obtain ⟨xs, n, _, rfl, _, hlen, hf⟩ := DataW.trod_struct Try.underlying25 h
  have e0 : DataW.trod enc Try.prog w base spare held n 22 (([c0, c1].drop 0).take (Try.prog.cellsOf 22)) = xs[0]? := hf 0 _ rfl
  have e1 : DataW.trod enc Try.prog w base spare held n 23 (([c0, c1].drop 1).take (Try.prog.cellsOf 23)) = xs[1]? := hf 1 _ rfl
  rw [Try.cNodes] at e0
  rw [Try.cAnswers] at e1
  match xs, hlen with
  | [y0, y1], _ =>
    simp at e0 e1
    obtain ⟨na, ncap, nodes, h0, hn1, hn2, hn3⟩ := fives_cells Nod.cells NodOk Try.underlying22 Try.cNode (fun n vs d hl hd => node_cells hl hd) (fun _ => rfl) e0
    obtain ⟨aa, acap, answers, h1, ha1, ha2, ha3⟩ := fives_cells Ans.cells (AnsOk w) Try.underlying23 Try.cAnswer (fun n vs d hl hd => answer_cells hl hd) (fun _ => rfl) e1
    simp at h0 h1
    subst h0 h1
    exact ⟨⟨na, ncap, nodes, aa, acap, answers⟩, rfl, ⟨hn1, ha1, hn2, hn3, ha2, ha3⟩⟩
theorem open_forest {r : Reach} {b0 : Nat} {v : Value} {d : DataW H} {p : List MemPlace} (hv : Value.okWide Try.prog w r b0 25 v) (h : DataW.Trod enc Try.prog w base spare held 25 v d p) :
    ∃ x : Fst, v = .agg x.cells.toArray ∧ FstOk w x := by
  obtain ⟨cs, rfl, hsz⟩ := okWide_struct Try.underlying25 hv
  obtain ⟨fuel, hf⟩ := h
  obtain ⟨l⟩ := cs
  have hsz' : l.length = 2 := hsz.trans Try.cForest
  match l, hsz' with
  | [c0, c1], _ =>
    obtain ⟨x, hx, ho⟩ := forest_cells (by simpa [Value.cells] using hf)
    exact ⟨x, by rw [← hx], ho⟩
end
end Go.Proofs.Ytcpmbjlhblkniaa
