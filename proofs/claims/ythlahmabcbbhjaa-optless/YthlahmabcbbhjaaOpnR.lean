/- Rows of raw things as arguments. -/
import Derived.Test.YthlahmabcbbhjaaOpnZ
import Derived.Test.YthlahmabcbbhjaaFoA
namespace Go.Proofs.Ythlahmabcbbhjaa
open Go.ChangeShapes Go.WideShapes Go.ChangeAt Go.RowKit
set_option linter.unusedVariables false
structure Raws where
  p : Option Addr
  cap : Nat
  l : List Raw4
instance : Inhabited Raw4 := ⟨⟨0, 0, 0, 0⟩⟩
section
variable {H : Type} {enc : TypeId × Value → H} {w : World} {base : Nat} {spare : Nat → Bool} {held : Bool}
theorem Try.cRaw : Try.prog.cellsOf 61 = 4 := by kernel_rfl
theorem raw_cells {fuel : Nat} {cs : List Value} {y : DataW H × List MemPlace} (hl : cs.length = 4) (h : DataW.trod enc Try.prog w base spare held fuel 61 cs = some y) :
    ∃ x : Raw4, cs = [.int .i64 x.kind, .int .i64 x.a, .int .i64 x.b, .int .i64 x.c] ∧ RawOk x := by
  match cs, hl with
  | [c0, c1, c2, c3], _ =>
    obtain ⟨xs, n, _, rfl, _, hlen, hf⟩ := DataW.trod_struct Try.underlying61 h
    have e0 : DataW.trod enc Try.prog w base spare held n 3 (([c0, c1, c2, c3].drop 0).take (Try.prog.cellsOf 3)) = xs[0]? := hf 0 _ rfl
    have e1 : DataW.trod enc Try.prog w base spare held n 3 (([c0, c1, c2, c3].drop 1).take (Try.prog.cellsOf 3)) = xs[1]? := hf 1 _ rfl
    have e2 : DataW.trod enc Try.prog w base spare held n 3 (([c0, c1, c2, c3].drop 2).take (Try.prog.cellsOf 3)) = xs[2]? := hf 2 _ rfl
    have e3 : DataW.trod enc Try.prog w base spare held n 3 (([c0, c1, c2, c3].drop 3).take (Try.prog.cellsOf 3)) = xs[3]? := hf 3 _ rfl
    rw [Try.cInt] at e0 e1 e2 e3
    match xs, hlen with
    | [y0, y1, y2, y3], _ =>
      simp at e0 e1 e2 e3
      obtain ⟨a, h0, _, w0⟩ := DataW.trod_int Try.underlying3 e0
      obtain ⟨b, h1, _, w1⟩ := DataW.trod_int Try.underlying3 e1
      obtain ⟨c, h2, _, w2⟩ := DataW.trod_int Try.underlying3 e2
      obtain ⟨d, h3, _, w3⟩ := DataW.trod_int Try.underlying3 e3
      simp at h0 h1 h2 h3
      subst h0 h1 h2 h3
      exact ⟨⟨a, b, c, d⟩, rfl, ⟨w0, w1, w2, w3⟩⟩
theorem open_raws {r : Reach} {b0 : Nat} {v : Value} {d : DataW H} {p : List MemPlace} (hv : Value.okWide Try.prog w r b0 42 v) (h : DataW.Trod enc Try.prog w base spare held 42 v d p) :
    ∃ x : Raws, v = .slice x.p x.l.length x.cap ∧ RawsAt w x.p x.l := by
  obtain ⟨a0, n0, c0, rfl⟩ := okWide_slice Try.underlying42 hv
  obtain ⟨fuel, hf⟩ := h
  obtain ⟨a, len, cap, n, e, hl, hm, hx⟩ := open_rows Try.underlying42 Try.cRaw (by decide) (by simpa [Value.cells] using hf : DataW.trod enc Try.prog w base spare held fuel 42 [.slice a0 n0 c0] = some (d, p))
  simp at e
  obtain ⟨rfl, rfl, rfl⟩ := e
  obtain ⟨f, hf2⟩ := Go.Deep.choose_lt (α := Raw4) (n := n0) (p := fun i x => RawOk x ∧ ∃ b o, a0 = some ⟨b, o, none⟩ ∧ b < w.heap.size ∧ w.cell? ⟨b, o + i * 4, none⟩ = some (.int .i64 x.kind) ∧ w.cell? ⟨b, o + i * 4 + 1, none⟩ = some (.int .i64 x.a) ∧ w.cell? ⟨b, o + i * 4 + 2, none⟩ = some (.int .i64 x.b) ∧ w.cell? ⟨b, o + i * 4 + 3, none⟩ = some (.int .i64 x.c)) (fun i hi => by
    obtain ⟨b, o, vs, d, ha, hb, hlen, hcell, hd⟩ := hx i hi
    obtain ⟨x, rfl, hok⟩ := raw_cells hlen hd
    exact ⟨x, hok, b, o, ha, hb, by simpa using hcell 0 (by decide), hcell 1 (by decide), hcell 2 (by decide), hcell 3 (by decide)⟩)
  refine ⟨⟨a0, c0, (List.range n0).map f⟩, by simp, ⟨by simp; exact Nat.le_trans hl hm, fun i z hz => ?_⟩⟩
  obtain ⟨hi, rfl⟩ := range_get hz
  exact hf2 i hi
end
end Go.Proofs.Ythlahmabcbbhjaa
