/- Structs of integers as parameters: what an argument of such a type is, and that it reads so again. -/
import Derived.Test.YtgncfbckgbkpcacDoorMath
import Derived.Test.YtgncfbckgbkpcacDoorRows
import Derived.WalkKit
import Derived.ProofKit
import Derived.OpenShut
import Derived.Deep.Strs
namespace Go.Proofs.YtgncfbckgbkpcacDoor
open Go.ChangeShapes Go.WideShapes Go.ChangeAt Go.RowKit

theorem arr3 {α : Type} {cs : Array α} (h : cs.size = 3) : ∃ c0 c1 c2, cs = #[c0, c1, c2] := by
  obtain ⟨l⟩ := cs
  match l, h with
  | [c0, c1, c2], _ => exact ⟨c0, c1, c2, rfl⟩
theorem arr4 {α : Type} {cs : Array α} (h : cs.size = 4) : ∃ c0 c1 c2 c3, cs = #[c0, c1, c2, c3] := by
  obtain ⟨l⟩ := cs
  match l, h with
  | [c0, c1, c2, c3], _ => exact ⟨c0, c1, c2, c3, rfl⟩
theorem arr6 {α : Type} {cs : Array α} (h : cs.size = 6) : ∃ c0 c1 c2 c3 c4 c5, cs = #[c0, c1, c2, c3, c4, c5] := by
  obtain ⟨l⟩ := cs
  match l, h with
  | [c0, c1, c2, c3, c4, c5], _ => exact ⟨c0, c1, c2, c3, c4, c5, rfl⟩

section
variable {H : Type} {enc : TypeId × Value → H} {w : World} {base : Nat} {spare : Nat → Bool} {held : Bool}
abbrev wfi (a : Int) : Prop := (Lit.int .i64 a).wf = true
theorem Tryd.cellsInt : Tryd.prog.cellsOf 3 = 1 := by kernel_rfl
theorem Tryd.cellsDay : Tryd.prog.cellsOf 30 = 3 := by kernel_rfl
theorem day_cells {fuel : Nat} {c0 c1 c2 : Value} {x : DataW H × List MemPlace} (h : DataW.trod enc Tryd.prog w base spare held fuel 30 [c0, c1, c2] = some x) :
    ∃ a b c : Int, c0 = .int .i64 a ∧ c1 = .int .i64 b ∧ c2 = .int .i64 c ∧ x = (.agg [.lit (.int .i64 a), .lit (.int .i64 b), .lit (.int .i64 c)], []) ∧ wfi a ∧ wfi b ∧ wfi c := by
  obtain ⟨xs, n, _, rfl, _, hlen, hf⟩ := DataW.trod_struct Tryd.underlying30 h
  have e0 : DataW.trod enc Tryd.prog w base spare held n 3 (([c0, c1, c2].drop 0).take (Tryd.prog.cellsOf 3)) = xs[0]? := hf 0 _ rfl
  have e1 : DataW.trod enc Tryd.prog w base spare held n 3 (([c0, c1, c2].drop 1).take (Tryd.prog.cellsOf 3)) = xs[1]? := hf 1 _ rfl
  have e2 : DataW.trod enc Tryd.prog w base spare held n 3 (([c0, c1, c2].drop 2).take (Tryd.prog.cellsOf 3)) = xs[2]? := hf 2 _ rfl
  rw [Tryd.cellsInt] at e0 e1 e2
  match xs, hlen with
  | [y0, y1, y2], _ =>
    simp at e0 e1 e2
    obtain ⟨a, h0, rfl, wa⟩ := DataW.trod_int Tryd.underlying3 e0
    obtain ⟨b, h1, rfl, wb⟩ := DataW.trod_int Tryd.underlying3 e1
    obtain ⟨c, h2, rfl, wc⟩ := DataW.trod_int Tryd.underlying3 e2
    simp at h0 h1 h2
    exact ⟨a, b, c, h0, h1, h2, by simp, wa, wb, wc⟩
theorem day_cells_mk (m : Nat) {a b c : Int} (wa : wfi a) (wb : wfi b) (wc : wfi c) :
    DataW.trod enc Tryd.prog w base spare held (m + 2) 30 [.int .i64 a, .int .i64 b, .int .i64 c] = some (.agg [.lit (.int .i64 a), .lit (.int .i64 b), .lit (.int .i64 c)], []) := by
  have := trod_struct_mk (enc := enc) (w := w) (base := base) (spare := spare) (held := held) (n := m + 1) (cs := [.int .i64 a, .int .i64 b, .int .i64 c]) (xs := [(.lit (.int .i64 a), []), (.lit (.int .i64 b), []), (.lit (.int .i64 c), [])]) Tryd.underlying30 (by rw [Tryd.cellsDay]; rfl)
    (by simp [Tryd.cellsInt, trod_int_mk m Tryd.underlying3 wa, trod_int_mk m Tryd.underlying3 wb, trod_int_mk m Tryd.underlying3 wc])
  simpa using this
theorem open_day {r : Reach} {b0 : Nat} {v : Value} {d : DataW H} {p : List MemPlace} (hv : Value.okWide Tryd.prog w r b0 30 v) (h : DataW.Trod enc Tryd.prog w base spare held 30 v d p) :
    ∃ a b c : Int, v = .agg #[.int .i64 a, .int .i64 b, .int .i64 c] ∧ d = .agg [.lit (.int .i64 a), .lit (.int .i64 b), .lit (.int .i64 c)] ∧ p = [] ∧ wfi a ∧ wfi b ∧ wfi c := by
  obtain ⟨cs, rfl, hsz⟩ := okWide_struct Tryd.underlying30 hv
  obtain ⟨c0, c1, c2, rfl⟩ := arr3 (hsz.trans Tryd.cellsDay)
  obtain ⟨fuel, hf⟩ := h
  obtain ⟨a, b, c, rfl, rfl, rfl, hx, wa, wb, wc⟩ := day_cells (by simpa [Value.cells] using hf)
  simp only [Prod.mk.injEq] at hx
  exact ⟨a, b, c, rfl, hx.1, hx.2, wa, wb, wc⟩
theorem shut_day {a b c : Int} (wa : wfi a) (wb : wfi b) (wc : wfi c) : DataW.Trod enc Tryd.prog w base spare held 30 (.agg #[.int .i64 a, .int .i64 b, .int .i64 c]) (.agg [.lit (.int .i64 a), .lit (.int .i64 b), .lit (.int .i64 c)]) [] :=
  ⟨2, by simpa [Value.cells] using day_cells_mk 0 wa wb wc⟩
theorem Tryd.cellsMoment : Tryd.prog.cellsOf 37 = 6 := by kernel_rfl
theorem open_moment {r : Reach} {b0 : Nat} {v : Value} {d : DataW H} {p : List MemPlace} (hv : Value.okWide Tryd.prog w r b0 37 v) (h : DataW.Trod enc Tryd.prog w base spare held 37 v d p) :
    ∃ mo a b c ti cl : Int, v = .agg #[.int .i64 mo, .int .i64 a, .int .i64 b, .int .i64 c, .int .i64 ti, .int .i64 cl] ∧ d = .agg [.lit (.int .i64 mo), .agg [.lit (.int .i64 a), .lit (.int .i64 b), .lit (.int .i64 c)], .lit (.int .i64 ti), .lit (.int .i64 cl)] ∧ p = [] ∧
      wfi mo ∧ wfi a ∧ wfi b ∧ wfi c ∧ wfi ti ∧ wfi cl := by
  obtain ⟨cs, rfl, hsz⟩ := okWide_struct Tryd.underlying37 hv
  obtain ⟨c0, c1, c2, c3, c4, c5, rfl⟩ := arr6 (hsz.trans Tryd.cellsMoment)
  obtain ⟨fuel, hf⟩ := h
  have hf' : DataW.trod enc Tryd.prog w base spare held fuel 37 [c0, c1, c2, c3, c4, c5] = some (d, p) := by simpa [Value.cells] using hf
  obtain ⟨xs, n, _, hx, _, hlen, hg⟩ := DataW.trod_struct Tryd.underlying37 hf'
  have e0 : DataW.trod enc Tryd.prog w base spare held n 3 (([c0, c1, c2, c3, c4, c5].drop 0).take (Tryd.prog.cellsOf 3)) = xs[0]? := hg 0 _ rfl
  have e1 : DataW.trod enc Tryd.prog w base spare held n 30 (([c0, c1, c2, c3, c4, c5].drop 1).take (Tryd.prog.cellsOf 30)) = xs[1]? := hg 1 _ rfl
  have e2 : DataW.trod enc Tryd.prog w base spare held n 3 (([c0, c1, c2, c3, c4, c5].drop 4).take (Tryd.prog.cellsOf 3)) = xs[2]? := hg 2 _ rfl
  have e3 : DataW.trod enc Tryd.prog w base spare held n 3 (([c0, c1, c2, c3, c4, c5].drop 5).take (Tryd.prog.cellsOf 3)) = xs[3]? := hg 3 _ rfl
  rw [Tryd.cellsInt] at e0 e2 e3
  rw [Tryd.cellsDay] at e1
  match xs, hlen with
  | [y0, y1, y2, y3], _ =>
    simp at e0 e1 e2 e3
    obtain ⟨mo, h0, rfl, w0⟩ := DataW.trod_int Tryd.underlying3 e0
    obtain ⟨a, b, c, h1, h2, h3, rfl, w1, w2, w3⟩ := day_cells e1
    obtain ⟨ti, h4, rfl, w4⟩ := DataW.trod_int Tryd.underlying3 e2
    obtain ⟨cl, h5, rfl, w5⟩ := DataW.trod_int Tryd.underlying3 e3
    simp at h0 h1 h2 h3 h4 h5 hx
    subst h0 h1 h2 h3 h4 h5
    exact ⟨mo, a, b, c, ti, cl, rfl, hx.1, hx.2, w0, w1, w2, w3, w4, w5⟩
theorem shut_moment {mo a b c ti cl : Int} (w0 : wfi mo) (w1 : wfi a) (w2 : wfi b) (w3 : wfi c) (w4 : wfi ti) (w5 : wfi cl) : DataW.Trod enc Tryd.prog w base spare held 37 (.agg #[.int .i64 mo, .int .i64 a, .int .i64 b, .int .i64 c, .int .i64 ti, .int .i64 cl])
    (.agg [.lit (.int .i64 mo), .agg [.lit (.int .i64 a), .lit (.int .i64 b), .lit (.int .i64 c)], .lit (.int .i64 ti), .lit (.int .i64 cl)]) [] := by
  have := trod_struct_mk (enc := enc) (w := w) (base := base) (spare := spare) (held := held) (n := 2) (cs := [.int .i64 mo, .int .i64 a, .int .i64 b, .int .i64 c, .int .i64 ti, .int .i64 cl])
    (xs := [(.lit (.int .i64 mo), []), (.agg [.lit (.int .i64 a), .lit (.int .i64 b), .lit (.int .i64 c)], []), (.lit (.int .i64 ti), []), (.lit (.int .i64 cl), [])]) Tryd.underlying37 (by rw [Tryd.cellsMoment]; rfl)
    (by simp [Tryd.cellsInt, Tryd.cellsDay, trod_int_mk 1 Tryd.underlying3 w0, day_cells_mk 0 w1 w2 w3, trod_int_mk 1 Tryd.underlying3 w4, trod_int_mk 1 Tryd.underlying3 w5])
  exact ⟨3, by simpa [Value.cells] using this⟩
theorem Tryd.cellsRaw : Tryd.prog.cellsOf 35 = 4 := by kernel_rfl
theorem Tryd.cellsInt' : Tryd.prog.cellsOf 3 = 1 := by kernel_rfl
theorem open_raw {r : Reach} {b0 : Nat} {v : Value} {d : DataW H} {p : List MemPlace} (hv : Value.okWide Tryd.prog w r b0 35 v) (h : DataW.Trod enc Tryd.prog w base spare held 35 v d p) :
    ∃ k a b c : Int, v = .agg #[.int .i64 k, .int .i64 a, .int .i64 b, .int .i64 c] ∧ d = .agg [.lit (.int .i64 k), .lit (.int .i64 a), .lit (.int .i64 b), .lit (.int .i64 c)] ∧ p = [] ∧ wfi k ∧ wfi a ∧ wfi b ∧ wfi c := by
  obtain ⟨cs, rfl, hsz⟩ := okWide_struct Tryd.underlying35 hv
  obtain ⟨c0, c1, c2, c3, rfl⟩ := arr4 (hsz.trans Tryd.cellsRaw)
  obtain ⟨fuel, hf⟩ := h
  have hf' : DataW.trod enc Tryd.prog w base spare held fuel 35 [c0, c1, c2, c3] = some (d, p) := by simpa [Value.cells] using hf
  obtain ⟨xs, n, _, hx, _, hlen, hg⟩ := DataW.trod_struct Tryd.underlying35 hf'
  have e0 : DataW.trod enc Tryd.prog w base spare held n 3 (([c0, c1, c2, c3].drop 0).take (Tryd.prog.cellsOf 3)) = xs[0]? := hg 0 _ rfl
  have e1 : DataW.trod enc Tryd.prog w base spare held n 3 (([c0, c1, c2, c3].drop 1).take (Tryd.prog.cellsOf 3)) = xs[1]? := hg 1 _ rfl
  have e2 : DataW.trod enc Tryd.prog w base spare held n 3 (([c0, c1, c2, c3].drop 2).take (Tryd.prog.cellsOf 3)) = xs[2]? := hg 2 _ rfl
  have e3 : DataW.trod enc Tryd.prog w base spare held n 3 (([c0, c1, c2, c3].drop 3).take (Tryd.prog.cellsOf 3)) = xs[3]? := hg 3 _ rfl
  rw [Tryd.cellsInt'] at e0 e1 e2 e3
  match xs, hlen with
  | [y0, y1, y2, y3], _ =>
    simp at e0 e1 e2 e3
    obtain ⟨k, h0, rfl, w0⟩ := DataW.trod_int Tryd.underlying3 e0
    obtain ⟨a, h1, rfl, w1⟩ := DataW.trod_int Tryd.underlying3 e1
    obtain ⟨b, h2, rfl, w2⟩ := DataW.trod_int Tryd.underlying3 e2
    obtain ⟨c, h3, rfl, w3⟩ := DataW.trod_int Tryd.underlying3 e3
    simp at h0 h1 h2 h3 hx
    subst h0 h1 h2 h3
    exact ⟨k, a, b, c, rfl, hx.1, hx.2, w0, w1, w2, w3⟩
theorem shut_raw {k a b c : Int} (w0 : wfi k) (w1 : wfi a) (w2 : wfi b) (w3 : wfi c) : DataW.Trod enc Tryd.prog w base spare held 35 (.agg #[.int .i64 k, .int .i64 a, .int .i64 b, .int .i64 c]) (.agg [.lit (.int .i64 k), .lit (.int .i64 a), .lit (.int .i64 b), .lit (.int .i64 c)]) [] := by
  have := trod_struct_mk (enc := enc) (w := w) (base := base) (spare := spare) (held := held) (n := 1) (cs := [.int .i64 k, .int .i64 a, .int .i64 b, .int .i64 c])
    (xs := [(.lit (.int .i64 k), []), (.lit (.int .i64 a), []), (.lit (.int .i64 b), []), (.lit (.int .i64 c), [])]) Tryd.underlying35 (by rw [Tryd.cellsRaw]; rfl)
    (by simp [Tryd.cellsInt', trod_int_mk 0 Tryd.underlying3 w0, trod_int_mk 0 Tryd.underlying3 w1, trod_int_mk 0 Tryd.underlying3 w2, trod_int_mk 0 Tryd.underlying3 w3])
  exact ⟨2, by simpa [Value.cells] using this⟩
end
end Go.Proofs.YtgncfbckgbkpcacDoor
