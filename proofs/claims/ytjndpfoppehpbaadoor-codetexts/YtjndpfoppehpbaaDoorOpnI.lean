/- Slices of instructions as arguments: what they hold. -/
import Derived.Test.YtjndpfoppehpbaaDoorOpnY
import Derived.Test.YtjndpfoppehpbaaDoorVerM
namespace Go.Proofs.YtjndpfoppehpbaaDoor
open Go.ChangeShapes Go.WideShapes Go.ChangeAt Go.RowKit
set_option linter.unusedVariables false
section
variable {H : Type} {enc : TypeId × Value → H} {w : World} {base : Nat} {spare : Nat → Bool} {held : Bool}
theorem Tryd.cInstr : Tryd.prog.cellsOf 36 = 2 := by kernel_rfl
theorem Tryd.cInstrs : Tryd.prog.cellsOf 22 = 1 := by kernel_rfl
theorem Tryd.cInt : Tryd.prog.cellsOf 3 = 1 := by kernel_rfl
theorem instr_cells {fuel : Nat} {cs : List Value} {y : DataW H × List MemPlace} (hl : cs.length = 2) (h : DataW.trod enc Tryd.prog w base spare held fuel 36 cs = some y) :
    ∃ x : Ins, cs = x.cells ∧ InsOk x := by
  match cs, hl with
  | [c0, c1], _ =>
    obtain ⟨xs, n, _, rfl, _, hlen, hf⟩ := DataW.trod_struct Tryd.underlying36 h
    have e0 : DataW.trod enc Tryd.prog w base spare held n 3 (([c0, c1].drop 0).take (Tryd.prog.cellsOf 3)) = xs[0]? := hf 0 _ rfl
    have e1 : DataW.trod enc Tryd.prog w base spare held n 3 (([c0, c1].drop 1).take (Tryd.prog.cellsOf 3)) = xs[1]? := hf 1 _ rfl
    rw [Tryd.cInt] at e0 e1
    match xs, hlen with
    | [y0, y1], _ =>
      simp at e0 e1
      obtain ⟨a, h0, _, wa⟩ := DataW.trod_int Tryd.underlying3 e0
      obtain ⟨b, h1, _, wb⟩ := DataW.trod_int Tryd.underlying3 e1
      simp at h0 h1
      subst h0 h1
      exact ⟨⟨a, b⟩, rfl, ⟨wa, wb⟩⟩
theorem range_getP {α : Type} {f : Nat → α} {n i : Nat} {z : α} (h : ((List.range n).map f)[i]? = some z) : i < n ∧ z = f i := by
  have hi : i < n := by have := (List.getElem?_eq_some_iff.1 h).1; simpa using this
  refine ⟨hi, ?_⟩
  rw [List.getElem?_map, List.getElem?_range hi] at h
  simpa using h.symm
instance instInsP : Inhabited Ins := ⟨⟨0, 0⟩⟩
theorem instrs_cells {fuel : Nat} {cs : List Value} {y : DataW H × List MemPlace} (h : DataW.trod enc Tryd.prog w base spare held fuel 22 cs = some y) :
    ∃ (a : Option Addr) (cap : Nat) (l : List Ins), cs = [.slice a l.length cap] ∧ l.length ≤ cap ∧ InssAt w a l ∧ ∀ x ∈ l, InsOk x := by
  obtain ⟨a, len, cap, n, rfl, hl, hm, hx⟩ := open_rows Tryd.underlying22 Tryd.cInstr (by decide) h
  obtain ⟨f, hf⟩ := Go.Deep.choose_lt (α := Ins) (n := len) (p := fun i x => InsOk x ∧ ∃ b o, a = some ⟨b, o, none⟩ ∧ b < w.heap.size ∧ w.cell? ⟨b, o + i * 2, none⟩ = some (.int .i64 x.op) ∧ w.cell? ⟨b, o + i * 2 + 1, none⟩ = some (.int .i64 x.n)) (fun i hi => by
    obtain ⟨b, o, vs, d, ha, hb, hlen, hcell, hd⟩ := hx i hi
    obtain ⟨x, rfl, hok⟩ := instr_cells hlen hd
    have e0 := hcell 0 (by decide)
    have e1 := hcell 1 (by decide)
    exact ⟨x, hok, b, o, ha, hb, by simpa [Ins.cells] using e0, by simpa [Ins.cells, Nat.add_assoc] using e1⟩)
  refine ⟨a, cap, (List.range len).map f, by simp, by simpa using hl, ⟨by simp; exact Nat.le_trans hl hm, fun i z hz => ?_⟩, fun z hz => ?_⟩
  · obtain ⟨hi, rfl⟩ := range_getP hz
    exact (hf i hi).2
  · obtain ⟨i, hi, rfl⟩ := List.mem_map.1 hz
    exact (hf i (List.mem_range.1 hi)).1
structure Iss where
  a : Option Addr
  cap : Nat
  l : List Ins
structure IssOk (w : World) (x : Iss) : Prop where
  cap : x.l.length ≤ x.cap
  at_ : InssAt w x.a x.l
  ok : ∀ y ∈ x.l, InsOk y
theorem open_instrs {r : Reach} {b0 : Nat} {v : Value} {d : DataW H} {p : List MemPlace} (hv : Value.okWide Tryd.prog w r b0 22 v) (h : DataW.Trod enc Tryd.prog w base spare held 22 v d p) :
    ∃ x : Iss, v = .slice x.a x.l.length x.cap ∧ IssOk w x := by
  obtain ⟨a0, n0, c0, rfl⟩ := okWide_slice Tryd.underlying22 hv
  obtain ⟨fuel, hf⟩ := h
  obtain ⟨a, cap, l, e, h1, h2, h3⟩ := instrs_cells (by simpa [Value.cells] using hf : DataW.trod enc Tryd.prog w base spare held fuel 22 [.slice a0 n0 c0] = some (d, p))
  simp at e
  obtain ⟨rfl, rfl, rfl⟩ := e
  exact ⟨⟨a0, c0, l⟩, rfl, h1, h2, h3⟩
end
end Go.Proofs.YtjndpfoppehpbaaDoor
