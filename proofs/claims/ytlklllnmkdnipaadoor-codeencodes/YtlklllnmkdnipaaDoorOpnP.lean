/- Programs as arguments: what they hold. -/
import Derived.Test.YtlklllnmkdnipaaDoorOpnT
import Derived.Test.YtlklllnmkdnipaaDoorVerM
namespace Go.Proofs.YtlklllnmkdnipaaDoor
open Go.ChangeShapes Go.WideShapes Go.ChangeAt Go.RowKit
set_option linter.unusedVariables false
section
variable {H : Type} {enc : TypeId × Value → H} {w : World} {base : Nat} {spare : Nat → Bool} {held : Bool}
theorem Tryd.cInstr : Tryd.prog.cellsOf 48 = 2 := by kernel_rfl
theorem Tryd.cInstrs : Tryd.prog.cellsOf 22 = 1 := by kernel_rfl
theorem Tryd.cAnswersP : Tryd.prog.cellsOf 24 = 1 := by kernel_rfl
theorem Tryd.cProgram : Tryd.prog.cellsOf 26 = 3 := by kernel_rfl
theorem instr_cells {fuel : Nat} {cs : List Value} {y : DataW H × List MemPlace} (hl : cs.length = 2) (h : DataW.trod enc Tryd.prog w base spare held fuel 48 cs = some y) :
    ∃ x : Ins, cs = x.cells ∧ InsOk x := by
  match cs, hl with
  | [c0, c1], _ =>
    obtain ⟨xs, n, _, rfl, _, hlen, hf⟩ := DataW.trod_struct Tryd.underlying48 h
    have e0 : DataW.trod enc Tryd.prog w base spare held n 3 (([c0, c1].drop 0).take (Tryd.prog.cellsOf 3)) = xs[0]? := hf 0 _ rfl
    have e1 : DataW.trod enc Tryd.prog w base spare held n 3 (([c0, c1].drop 1).take (Tryd.prog.cellsOf 3)) = xs[1]? := hf 1 _ rfl
    rw [Tryd.cInt] at e0 e1
    match xs, hlen with
    | [y0, y1], _ =>
      simp at e0 e1
      obtain ⟨a, h0, _, wa⟩ := DataW.trod_int Tryd.underlying3 e0
      obtain ⟨b, h1, _, wb⟩ := DataW.trod_int Tryd.underlying3 e1
      simp at h0 h1
      subst h0 h1
      exact ⟨⟨a, b⟩, rfl, ⟨wa, wb⟩⟩
theorem range_getP {α : Type} {f : Nat → α} {n i : Nat} {z : α} (h : ((List.range n).map f)[i]? = some z) : i < n ∧ z = f i := by
  have hi : i < n := by have := (List.getElem?_eq_some_iff.1 h).1; simpa using this
  refine ⟨hi, ?_⟩
  rw [List.getElem?_map, List.getElem?_range hi] at h
  simpa using h.symm
instance instInsP : Inhabited Ins := ⟨⟨0, 0⟩⟩
instance instAnsP : Inhabited Ans := ⟨⟨0, false, ⟨#[]⟩, none, 0, [], 0⟩⟩
theorem instrs_cells {fuel : Nat} {cs : List Value} {y : DataW H × List MemPlace} (h : DataW.trod enc Tryd.prog w base spare held fuel 22 cs = some y) :
    ∃ (a : Option Addr) (cap : Nat) (l : List Ins), cs = [.slice a l.length cap] ∧ l.length ≤ cap ∧ InssAt w a l ∧ ∀ x ∈ l, InsOk x := by
  obtain ⟨a, len, cap, n, rfl, hl, hm, hx⟩ := open_rows Tryd.underlying22 Tryd.cInstr (by decide) h
  obtain ⟨f, hf⟩ := Go.Deep.choose_lt (α := Ins) (n := len) (p := fun i x => InsOk x ∧ ∃ b o, a = some ⟨b, o, none⟩ ∧ b < w.heap.size ∧ w.cell? ⟨b, o + i * 2, none⟩ = some (.int .i64 x.op) ∧ w.cell? ⟨b, o + i * 2 + 1, none⟩ = some (.int .i64 x.n)) (fun i hi => by
    obtain ⟨b, o, vs, d, ha, hb, hlen, hcell, hd⟩ := hx i hi
    obtain ⟨x, rfl, hok⟩ := instr_cells hlen hd
    have e0 := hcell 0 (by decide)
    have e1 := hcell 1 (by decide)
    exact ⟨x, hok, b, o, ha, hb, by simpa [Ins.cells] using e0, by simpa [Ins.cells, Nat.add_assoc] using e1⟩)
  refine ⟨a, cap, (List.range len).map f, by simp, by simpa using hl, ⟨by simp; exact Nat.le_trans hl hm, fun i z hz => ?_⟩, fun z hz => ?_⟩
  · obtain ⟨hi, rfl⟩ := range_getP hz
    exact (hf i hi).2
  · obtain ⟨i, hi, rfl⟩ := List.mem_map.1 hz
    exact (hf i (List.mem_range.1 hi)).1
theorem answers_cells {fuel : Nat} {cs : List Value} {y : DataW H × List MemPlace} (h : DataW.trod enc Tryd.prog w base spare held fuel 24 cs = some y) :
    ∃ (a : Option Addr) (cap : Nat) (l : List Ans), cs = [.slice a l.length cap] ∧ l.length ≤ cap ∧ FivesAt w a l Ans.cells ∧ ∀ x ∈ l, AnsOk w x := by
  obtain ⟨a, len, cap, n, rfl, hl, hm, hx⟩ := open_rows Tryd.underlying24 Tryd.cAnswer (by decide) h
  obtain ⟨f, hf⟩ := Go.Deep.choose_lt (α := Ans) (n := len) (p := fun i x => AnsOk w x ∧ ∃ b o, a = some ⟨b, o, none⟩ ∧ b < w.heap.size ∧ Five w b (o + i * 5) (Ans.cells x)) (fun i hi => by
    obtain ⟨b, o, vs, d, ha, hb, hlen, hcell, hd⟩ := hx i hi
    obtain ⟨x, rfl, hok⟩ := answer_cells hlen hd
    exact ⟨x, hok, b, o, ha, hb, by simpa using hcell 0 (by decide), hcell 1 (by decide), hcell 2 (by decide), hcell 3 (by decide), hcell 4 (by decide)⟩)
  refine ⟨a, cap, (List.range len).map f, by simp, by simpa using hl, ⟨by simp; exact Nat.le_trans hl hm, fun i z hz => ?_⟩, fun z hz => ?_⟩
  · obtain ⟨hi, rfl⟩ := range_getP hz
    exact (hf i hi).2
  · obtain ⟨i, hi, rfl⟩ := List.mem_map.1 hz
    exact (hf i (List.mem_range.1 hi)).1
theorem open_program {r : Reach} {b0 : Nat} {v : Value} {d : DataW H} {p : List MemPlace} (hv : Value.okWide Tryd.prog w r b0 26 v) (h : DataW.Trod enc Tryd.prog w base spare held 26 v d p) :
    ∃ x : Prg, v = .agg x.cells.toArray ∧ PrgOk w x := by
  obtain ⟨cs, rfl, hsz⟩ := okWide_struct Tryd.underlying26 hv
  obtain ⟨fuel, hf⟩ := h
  obtain ⟨l⟩ := cs
  have hsz' : l.length = 3 := hsz.trans Tryd.cProgram
  match l, hsz' with
  | [c0, c1, c2], _ =>
    have hf' : DataW.trod enc Tryd.prog w base spare held fuel 26 [c0, c1, c2] = some (d, p) := by simpa [Value.cells] using hf
    obtain ⟨xs, n, _, _, _, hlen, hq⟩ := DataW.trod_struct Tryd.underlying26 hf'
    have e0 : DataW.trod enc Tryd.prog w base spare held n 22 (([c0, c1, c2].drop 0).take (Tryd.prog.cellsOf 22)) = xs[0]? := hq 0 _ rfl
    have e1 : DataW.trod enc Tryd.prog w base spare held n 23 (([c0, c1, c2].drop 1).take (Tryd.prog.cellsOf 23)) = xs[1]? := hq 1 _ rfl
    have e2 : DataW.trod enc Tryd.prog w base spare held n 24 (([c0, c1, c2].drop 2).take (Tryd.prog.cellsOf 24)) = xs[2]? := hq 2 _ rfl
    rw [Tryd.cInstrs] at e0
    rw [Tryd.cInts] at e1
    rw [Tryd.cAnswersP] at e2
    match xs, hlen with
    | [y0, y1, y2], _ =>
      simp at e0 e1 e2
      obtain ⟨ca, ccap, code, h0, b0, b1, b2⟩ := instrs_cells e0
      obtain ⟨pa, pcap, pool, h1, b3, _, b4, b5⟩ := ints_cells Tryd.underlying23 Tryd.underlying3 Tryd.cInt e1
      obtain ⟨aa, acap, answers, h2, b6, b7, b8⟩ := answers_cells e2
      simp at h0 h1 h2
      subst h0 h1 h2
      exact ⟨⟨ca, ccap, code, pa, pcap, pool, aa, acap, answers⟩, rfl, ⟨b0, b3, b6, b1, b2, b4, b5, b7, b8⟩⟩
end
end Go.Proofs.YtlklllnmkdnipaaDoor
