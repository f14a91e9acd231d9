/- Rows of instructions and of texts that a call owns. -/
import Derived.Test.YtoolimfdadpmpaaDoorPrsI
import Derived.Deep.AppendLies
namespace Go.Proofs.YtoolimfdadpmpaaDoor
open Go.ChangeShapes Go.WideShapes Go.ChangeAt Go.RowKit
set_option linter.unusedVariables false
def insC (l : List Ins) : List Value := l.flatMap Ins.cells
theorem insC_len (l : List Ins) : (insC l).length = l.length * 2 := by
  induction l with
  | nil => rfl
  | cons x l ih => simp [insC, Ins.cells] at ih ⊢; omega
theorem insC_app (a b : List Ins) : insC (a ++ b) = insC a ++ insC b := by simp [insC]
theorem Tryd.infoIns : ∃ i, Tryd.prog.info? 36 = some i ∧ i.zero = some (.agg #[.int .i64 0, .int .i64 0]) ∧ i.size = 2 ∧ i.bytes = 16 :=
  ⟨_, rfl, by kernel_rfl, by kernel_rfl, by kernel_rfl⟩
theorem flat_get {α : Type} {f : α → List Value} {c : Nat} (hf : ∀ x, (f x).length = c) : ∀ {l : List α} {i j : Nat} {x : α}, l[i]? = some x → j < c → (l.flatMap f)[i * c + j]? = (f x)[j]?
  | y :: l, 0, j, x, h, hj => by
    simp at h
    subst h
    rw [List.flatMap_cons, Nat.zero_mul, Nat.zero_add, List.getElem?_append_left (by rw [hf]; exact hj)]
  | y :: l, i + 1, j, x, h, hj => by
    rw [List.flatMap_cons, List.getElem?_append_right (by rw [hf, Nat.succ_mul]; omega), hf]
    have := flat_get hf (l := l) (i := i) (j := j) (x := x) (by simpa using h) hj
    rw [← this]
    congr 1
    rw [Nat.succ_mul]
    omega
  | [], i, j, x, h, hj => by simp at h
theorem owns_inss {w : World} {base : Nat} {v : Value} {l : List Ins} (h : w.ownsRow base 36 2 v l.length (insC l)) : ∃ a cap, v = .slice a l.length cap ∧ l.length ≤ cap ∧ InssAt w a l := by
  rcases h.2 with ⟨hv, hn⟩ | ⟨g, cap, cur, hv, hb, hg, h1, h2, h3⟩
  · refine ⟨none, 0, by rw [hv, hn], by omega, by rw [hn]; exact Nat.zero_le _, fun i x hx => ?_⟩
    have := (List.getElem?_eq_some_iff.1 hx).1
    omega
  · refine ⟨some ⟨g, 0, none⟩, cap, hv, h1, Nat.le_trans h1 h2, fun i x hx => ⟨g, 0, rfl, (Array.getElem?_eq_some_iff.1 hg).1, ?_, ?_⟩⟩
    · have hc := h.cells (g := g) (by rw [hv]; rfl) (i * 2 + 0) (.int .i64 x.op) (by rw [insC, flat_get (c := 2) (fun _ => rfl) hx (by decide)]; rfl)
      rw [show (⟨g, 0, none⟩ : Addr).add (i * 2 + 0) = ⟨g, 0 + (i * 2 + 0), none⟩ from Go.WideShapes.add_plain ..] at hc
      exact hc
    · have hc := h.cells (g := g) (by rw [hv]; rfl) (i * 2 + 1) (.int .i64 x.n) (by rw [insC, flat_get (c := 2) (fun _ => rfl) hx (by decide)]; rfl)
      rw [show (⟨g, 0, none⟩ : Addr).add (i * 2 + 1) = ⟨g, 0 + (i * 2 + 1), none⟩ from Go.WideShapes.add_plain ..] at hc
      exact hc
theorem owns_formK {w : World} {base : Nat} {e : TypeId} {size : Nat} {v : Value} {n : Nat} {xs : List Value} (h : w.ownsRow base e size v n xs) : ∃ a cap, v = .slice a n cap := by
  rcases h.2 with ⟨hv, hn⟩ | ⟨g, cap, cur, hv, _⟩
  · exact ⟨none, 0, by rw [hv, hn]⟩
  · exact ⟨some ⟨g, 0, none⟩, cap, hv⟩
def strLen : Value → Nat
  | .string b => b.size
  | _ => 0
def strC (l : List (List UInt8)) : List Value := l.map fun a => .string ⟨a.toArray⟩
theorem strC_len (l : List (List UInt8)) : (strC l).length = l.length := by simp [strC]
theorem strC_app (a b : List (List UInt8)) : strC (a ++ b) = strC a ++ strC b := by simp [strC]
theorem Tryd.infoStr : ∃ i, Tryd.prog.info? 9 = some i ∧ i.zero = some (.string ⟨#[]⟩) ∧ i.size = 1 ∧ i.bytes = 16 :=
  ⟨_, rfl, by kernel_rfl, by kernel_rfl, by kernel_rfl⟩
/-- A slice of texts. -/
structure StrsAt (w : World) (a : Option Addr) (l : List (List UInt8)) : Prop where
  len : l.length ≤ maxLen
  cell : ∀ i x, l[i]? = some x → ∃ b, a = some ⟨b, 0, none⟩ ∧ b < w.heap.size ∧ w.cell? ⟨b, i, none⟩ = some (.string ⟨x.toArray⟩)
theorem StrsAt.gr {w w' : World} {a : Option Addr} {l : List (List UInt8)} (h : StrsAt w a l) (hg : Gr w w') : StrsAt w' a l :=
  ⟨h.len, fun i x hx => by
    obtain ⟨b, h1, h2, h3⟩ := h.cell i x hx
    exact ⟨b, h1, Nat.lt_of_lt_of_le h2 hg.size, (hg.cell b _ h2).trans h3⟩⟩
theorem owns_strs {w : World} {base : Nat} {v : Value} {l : List (List UInt8)} (h : w.ownsRow base 9 1 v l.length (strC l)) : ∃ a cap, v = .slice a l.length cap ∧ l.length ≤ cap ∧ StrsAt w a l := by
  rcases h.2 with ⟨hv, hn⟩ | ⟨g, cap, cur, hv, hb, hg, h1, h2, h3⟩
  · refine ⟨none, 0, by rw [hv, hn], by omega, by rw [hn]; exact Nat.zero_le _, fun i x hx => ?_⟩
    have := (List.getElem?_eq_some_iff.1 hx).1
    omega
  · refine ⟨some ⟨g, 0, none⟩, cap, hv, h1, Nat.le_trans h1 h2, fun i x hx => ⟨g, rfl, (Array.getElem?_eq_some_iff.1 hg).1, ?_⟩⟩
    have hc := h.cells (g := g) (by rw [hv]; rfl) i (.string ⟨x.toArray⟩) (by simp [strC, hx])
    rw [show (⟨g, 0, none⟩ : Addr).add i = ⟨g, 0 + i, none⟩ from Go.WideShapes.add_plain .., Nat.zero_add] at hc
    exact hc
end Go.Proofs.YtoolimfdadpmpaaDoor
