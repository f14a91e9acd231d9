/- Answers, nodes and forests as arguments: what they hold. -/
import Derived.Test.YtkgobfhabhimhaaOpn
namespace Go.Proofs.Ytkgobfhabhimhaa
open Go.ChangeShapes Go.WideShapes Go.ChangeAt Go.RowKit
set_option linter.unusedVariables false
theorem arr5 {α : Type} {cs : List α} (h : cs.length = 5) : ∃ c0 c1 c2 c3 c4, cs = [c0, c1, c2, c3, c4] := by
  match cs, h with
  | [c0, c1, c2, c3, c4], _ => exact ⟨c0, c1, c2, c3, c4, rfl⟩
section
variable {H : Type} {enc : TypeId × Value → H} {w : World} {base : Nat} {spare : Nat → Bool} {held : Bool}
theorem Try.cInt : Try.prog.cellsOf 3 = 1 := by kernel_rfl
theorem Try.cBool : Try.prog.cellsOf 4 = 1 := by kernel_rfl
theorem Try.cString : Try.prog.cellsOf 9 = 1 := by kernel_rfl
theorem Try.cInts : Try.prog.cellsOf 33 = 1 := by kernel_rfl
theorem Try.cClock : Try.prog.cellsOf 37 = 3 := by kernel_rfl
theorem Try.cAnswer : Try.prog.cellsOf 39 = 5 := by kernel_rfl
theorem clock_cells {fuel : Nat} {c0 c1 c2 : Value} {x : DataW H × List MemPlace} (h : DataW.trod enc Try.prog w base spare held fuel 37 [c0, c1, c2] = some x) :
    ∃ (a : Int) (b : Bool) (c : ByteArray), c0 = .int .i64 a ∧ c1 = .bool b ∧ c2 = .string c ∧ (Lit.int .i64 a).wf = true ∧ c.size ≤ maxLen := by
  obtain ⟨xs, n, _, rfl, _, hlen, hf⟩ := DataW.trod_struct Try.underlying37 h
  have e0 : DataW.trod enc Try.prog w base spare held n 3 (([c0, c1, c2].drop 0).take (Try.prog.cellsOf 3)) = xs[0]? := hf 0 _ rfl
  have e1 : DataW.trod enc Try.prog w base spare held n 4 (([c0, c1, c2].drop 1).take (Try.prog.cellsOf 4)) = xs[1]? := hf 1 _ rfl
  have e2 : DataW.trod enc Try.prog w base spare held n 9 (([c0, c1, c2].drop 2).take (Try.prog.cellsOf 9)) = xs[2]? := hf 2 _ rfl
  rw [Try.cInt] at e0
  rw [Try.cBool] at e1
  rw [Try.cString] at e2
  match xs, hlen with
  | [y0, y1, y2], _ =>
    simp at e0 e1 e2
    obtain ⟨a, h0, rfl, wa⟩ := DataW.trod_int Try.underlying3 e0
    obtain ⟨b, h1, rfl⟩ := DataW.trod_bool Try.underlying4 e1
    obtain ⟨c, h2, rfl, wc⟩ := DataW.trod_string Try.underlying9 e2
    simp at h0 h1 h2
    exact ⟨a, b, c, h0, h1, h2, wa, wc⟩
theorem answer_cells {fuel : Nat} {cs : List Value} {y : DataW H × List MemPlace} (hl : cs.length = 5) (h : DataW.trod enc Try.prog w base spare held fuel 39 cs = some y) :
    ∃ x : Ans, cs = x.cells ∧ AnsOk w x := by
  obtain ⟨c0, c1, c2, c3, c4, rfl⟩ := arr5 hl
  obtain ⟨xs, n, _, rfl, _, hlen, hf⟩ := DataW.trod_struct Try.underlying39 h
  have e0 : DataW.trod enc Try.prog w base spare held n 37 (([c0, c1, c2, c3, c4].drop 0).take (Try.prog.cellsOf 37)) = xs[0]? := hf 0 _ rfl
  have e1 : DataW.trod enc Try.prog w base spare held n 33 (([c0, c1, c2, c3, c4].drop 3).take (Try.prog.cellsOf 33)) = xs[1]? := hf 1 _ rfl
  have e2 : DataW.trod enc Try.prog w base spare held n 3 (([c0, c1, c2, c3, c4].drop 4).take (Try.prog.cellsOf 3)) = xs[2]? := hf 2 _ rfl
  rw [Try.cClock] at e0
  rw [Try.cInts] at e1
  rw [Try.cInt] at e2
  match xs, hlen with
  | [y0, y1, y2], _ =>
    simp at e0 e1 e2
    obtain ⟨o, b, s, rfl, rfl, rfl, wo, ws⟩ := clock_cells e0
    obtain ⟨a, cap, zs, h1, hc, hm, hz, wz⟩ := ints_cells Try.underlying33 Try.underlying3 Try.cInt e1
    obtain ⟨j, h2, _, wj⟩ := DataW.trod_int Try.underlying3 e2
    simp at h1 h2
    subst h1 h2
    exact ⟨⟨o, b, s, a, cap, zs, j⟩, rfl, ⟨wo, wj, ws, hc, hz, wz⟩⟩
theorem open_answer {r : Reach} {b0 : Nat} {v : Value} {d : DataW H} {p : List MemPlace} (hv : Value.okWide Try.prog w r b0 39 v) (h : DataW.Trod enc Try.prog w base spare held 39 v d p) :
    ∃ x : Ans, v = .agg x.cells.toArray ∧ AnsOk w x := by
  obtain ⟨cs, rfl, hsz⟩ := okWide_struct Try.underlying39 hv
  obtain ⟨fuel, hf⟩ := h
  obtain ⟨x, hx, ho⟩ := answer_cells (cs := cs.toList) (by simpa using hsz.trans Try.cAnswer) (by simpa [Value.cells] using hf)
  exact ⟨x, by rw [← hx], ho⟩
end
end Go.Proofs.Ytkgobfhabhimhaa
