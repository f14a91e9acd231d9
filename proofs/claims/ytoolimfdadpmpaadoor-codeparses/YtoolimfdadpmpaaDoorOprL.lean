/- What the row's list gives: the table of operators holds what its initialiser lays. -/
import Derived.Test.YtoolimfdadpmpaaDoorVerA
import Derived.OpenShut
import Derived.Lib.LaidTab
namespace Go.Proofs.YtoolimfdadpmpaaDoor
open Go.ChangeShapes Go.WideShapes Go.ChangeAt Go.RowKit
set_option linter.unusedVariables false
theorem Tryd.gOps : Tryd.prog.globalNamed "sundial/code.operators" = some 0 := by kernel_rfl
theorem Tryd.gOpsType : (Tryd.prog.globals[0]?).map (·.type) = some 63 := by kernel_rfl
theorem Tryd.cOps : Tryd.prog.cellsOf 63 = 24 := by kernel_rfl
theorem Tryd.cOp : Tryd.prog.cellsOf 56 = 4 := by kernel_rfl
theorem Tryd.cIntO : Tryd.prog.cellsOf 3 = 1 := by kernel_rfl
theorem Tryd.cBoolO : Tryd.prog.cellsOf 4 = 1 := by kernel_rfl
theorem Tryd.cStringO : Tryd.prog.cellsOf 9 = 1 := by kernel_rfl
section
variable {H : Type} {enc : TypeId × Value → H} {w : World} {base : Nat} {spare : Nat → Bool} {held : Bool}
theorem op_cells {fuel : Nat} {cs : List Value} {bs : List UInt8} {t l : Int} {b : Bool} {p : List MemPlace} (hl : cs.length = 4) (h : DataW.trod enc Tryd.prog w base spare held fuel 56 cs = some (.agg [.lit (.string bs), .lit (.int .i64 t), .lit (.int .i64 l), .lit (.bool b)], p)) :
    cs = [.string ⟨bs.toArray⟩, .int .i64 t, .int .i64 l, .bool b] := by
  match cs, hl with
  | [c0, c1, c2, c3], _ =>
    obtain ⟨xs, n, _, hx, _, hlen, hf⟩ := DataW.trod_struct Tryd.underlying56 h
    have e0 : DataW.trod enc Tryd.prog w base spare held n 9 (([c0, c1, c2, c3].drop 0).take (Tryd.prog.cellsOf 9)) = xs[0]? := hf 0 _ rfl
    have e1 : DataW.trod enc Tryd.prog w base spare held n 3 (([c0, c1, c2, c3].drop 1).take (Tryd.prog.cellsOf 3)) = xs[1]? := hf 1 _ rfl
    have e2 : DataW.trod enc Tryd.prog w base spare held n 3 (([c0, c1, c2, c3].drop 2).take (Tryd.prog.cellsOf 3)) = xs[2]? := hf 2 _ rfl
    have e3 : DataW.trod enc Tryd.prog w base spare held n 4 (([c0, c1, c2, c3].drop 3).take (Tryd.prog.cellsOf 4)) = xs[3]? := hf 3 _ rfl
    rw [Tryd.cStringO] at e0
    rw [Tryd.cIntO] at e1 e2
    rw [Tryd.cBoolO] at e3
    match xs, hlen with
    | [y0, y1, y2, y3], _ =>
      simp at e0 e1 e2 e3
      obtain ⟨s, h0, q0, _⟩ := DataW.trod_string Tryd.underlying9 e0
      obtain ⟨m, h1, q1, _⟩ := DataW.trod_int Tryd.underlying3 e1
      obtain ⟨k, h2, q2, _⟩ := DataW.trod_int Tryd.underlying3 e2
      obtain ⟨v, h3, q3⟩ := DataW.trod_bool Tryd.underlying4 e3
      simp at h0 h1 h2 h3
      subst h0 h1 h2 h3
      simp [q0, q1, q2, q3] at hx
      obtain ⟨⟨g0, g1, g2, g3⟩, -⟩ := hx
      subst g0 g1 g2 g3
      rfl
end
theorem opr_of_laid {W : World} {rest : List (String × DataW Unit)} (h : laidMet Tryd.prog (("sundial/code.operators", Rows.laid_sundial_code_operators) :: rest) W) : Opr W := by
  obtain ⟨ps, ⟨g', t', cs, fuel, p, q, hg', ht', hvar, hd, _, _⟩, _⟩ := h
  obtain rfl := Option.some.inj (Tryd.gOps.symm.trans hg')
  obtain rfl := Option.some.inj (Tryd.gOpsType.symm.trans ht')
  have hc := World.var?_cell Tryd.gOps hvar
  obtain ⟨xs, m, _, hx, hlen, hxl, hf⟩ := DataW.trod_array Tryd.underlying63 hd
  rw [Tryd.cOps] at hlen
  have hsz : cs.size = 24 := by simpa using hlen
  rw [Tryd.cOp] at hf
  match xs, hxl with
  | [y0, y1, y2, y3, y4, y5], _ =>
    unfold Rows.laid_sundial_code_operators at hx
    simp only [Prod.mk.injEq, DataW.agg.injEq, List.map_cons, List.map_nil, List.cons.injEq, and_true] at hx
    obtain ⟨⟨g0, g1, g2, g3, g4, g5⟩, -⟩ := hx
    have e0 := hf 0 (by decide)
    have e1 := hf 1 (by decide)
    have e2 := hf 2 (by decide)
    have e3 := hf 3 (by decide)
    have e4 := hf 4 (by decide)
    have e5 := hf 5 (by decide)
    obtain ⟨z0, y0⟩ := y0
    obtain ⟨z1, y1⟩ := y1
    obtain ⟨z2, y2⟩ := y2
    obtain ⟨z3, y3⟩ := y3
    obtain ⟨z4, y4⟩ := y4
    obtain ⟨z5, y5⟩ := y5
    simp only at g0 g1 g2 g3 g4 g5
    subst g0 g1 g2 g3 g4 g5
    have o0 := op_cells (by simp; omega) e0
    have o1 := op_cells (by simp; omega) e1
    have o2 := op_cells (by simp; omega) e2
    have o3 := op_cells (by simp; omega) e3
    have o4 := op_cells (by simp; omega) e4
    have o5 := op_cells (by simp; omega) e5
    have key : ∀ i j (l : List Value), (cs.toList.drop (i * 4)).take 4 = l → j < 4 → W.cell? ⟨0, i * 4 + j, none⟩ = l[j]? := fun i j l hl hj => by
      rw [hc, ← hl, List.getElem?_take, if_pos hj, List.getElem?_drop]
      simp
    have hlt : 0 < W.heap.size := by
      have := key 0 0 _ o0 (by decide)
      exact cell_lt this
    refine ⟨hlt, fun j hj => ?_⟩
    have hq : j = j / 4 * 4 + j % 4 := by omega
    have h6 : j / 4 = 0 ∨ j / 4 = 1 ∨ j / 4 = 2 ∨ j / 4 = 3 ∨ j / 4 = 4 ∨ j / 4 = 5 := by omega
    have h4 : j % 4 = 0 ∨ j % 4 = 1 ∨ j % 4 = 2 ∨ j % 4 = 3 := by omega
    rcases h6 with e | e | e | e | e | e <;> rcases h4 with e' | e' | e' | e' <;> rw [e, e'] at hq <;> subst hq
    · have h := key 0 0 _ o0 (by decide)
      exact h
    · have h := key 0 1 _ o0 (by decide)
      exact h
    · have h := key 0 2 _ o0 (by decide)
      exact h
    · have h := key 0 3 _ o0 (by decide)
      exact h
    · have h := key 1 0 _ o1 (by decide)
      exact h
    · have h := key 1 1 _ o1 (by decide)
      exact h
    · have h := key 1 2 _ o1 (by decide)
      exact h
    · have h := key 1 3 _ o1 (by decide)
      exact h
    · have h := key 2 0 _ o2 (by decide)
      exact h
    · have h := key 2 1 _ o2 (by decide)
      exact h
    · have h := key 2 2 _ o2 (by decide)
      exact h
    · have h := key 2 3 _ o2 (by decide)
      exact h
    · have h := key 3 0 _ o3 (by decide)
      exact h
    · have h := key 3 1 _ o3 (by decide)
      exact h
    · have h := key 3 2 _ o3 (by decide)
      exact h
    · have h := key 3 3 _ o3 (by decide)
      exact h
    · have h := key 4 0 _ o4 (by decide)
      exact h
    · have h := key 4 1 _ o4 (by decide)
      exact h
    · have h := key 4 2 _ o4 (by decide)
      exact h
    · have h := key 4 3 _ o4 (by decide)
      exact h
    · have h := key 5 0 _ o5 (by decide)
      exact h
    · have h := key 5 1 _ o5 (by decide)
      exact h
    · have h := key 5 2 _ o5 (by decide)
      exact h
    · have h := key 5 3 _ o5 (by decide)
      exact h
end Go.Proofs.YtoolimfdadpmpaaDoor
