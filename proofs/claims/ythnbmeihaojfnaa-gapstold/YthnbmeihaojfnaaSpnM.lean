/- Spans: what is wrong with them (P4.1), and how they lie in memory. -/
import Derived.Test.YthnbmeihaojfnaaGr
import Derived.Test.YthnbmeihaojfnaaTreN
namespace Go.Proofs.Ythnbmeihaojfnaa
open Go.RowKit
set_option linter.unusedVariables false
structure Spn where
  frm : Int
  off : Int
  sv : Bool
  nm : ByteArray
/-- What is wrong with a span at a place; p: where the one ahead begins. -/
def spnF (x : Spn) (i : Nat) (p : Int) : Int :=
  if 24 < x.nm.size then 1 else if Tre.inB x.frm (-2208988800) 4102444799 = true ∧ Tre.okOff x.off = true then (if (i = 0 ∧ x.frm ≠ -2208988800) ∨ (0 < i ∧ x.frm ≤ p) then 8 else 0) else 2
def prevF (l : List Spn) (i : Nat) : Int := match l[i - 1]? with | some x => x.frm | none => 0
def spnE (l : List Spn) (i : Nat) : Int := match l[i]? with | some x => spnF x i (prevF l i) | none => 0
def spnsF (l : List Spn) : Int := if l.length = 0 then 6 else if 1000 < l.length then 1 else Tre.fstE (spnE l) l.length
theorem spnE_at {l : List Spn} {i : Nat} {x : Spn} (h : l[i]? = some x) : spnE l i = spnF x i (prevF l i) := by simp [spnE, h]
theorem spnF_1 {f o p : Int} {s : Bool} {n : ByteArray} {i : Nat} (h : 24 < n.size) : spnF ⟨f, o, s, n⟩ i p = 1 := by unfold spnF; rw [if_pos h]
theorem spnF_2 {f o p : Int} {s : Bool} {n : ByteArray} {i : Nat} (h : ¬ 24 < n.size) (h2 : ¬ (Tre.inB f (-2208988800) 4102444799 = true ∧ Tre.okOff o = true)) : spnF ⟨f, o, s, n⟩ i p = 2 := by unfold spnF; rw [if_neg h, if_neg h2]
theorem spnF_8 {f o p : Int} {s : Bool} {n : ByteArray} {i : Nat} (h : ¬ 24 < n.size) (h2 : Tre.inB f (-2208988800) 4102444799 = true ∧ Tre.okOff o = true) (h3 : (i = 0 ∧ f ≠ -2208988800) ∨ (0 < i ∧ f ≤ p)) : spnF ⟨f, o, s, n⟩ i p = 8 := by unfold spnF; rw [if_neg h, if_pos h2, if_pos h3]
theorem spnF_0 {f o p : Int} {s : Bool} {n : ByteArray} {i : Nat} (h : ¬ 24 < n.size) (h2 : Tre.inB f (-2208988800) 4102444799 = true ∧ Tre.okOff o = true) (h3 : ¬ ((i = 0 ∧ f ≠ -2208988800) ∨ (0 < i ∧ f ≤ p))) : spnF ⟨f, o, s, n⟩ i p = 0 := by unfold spnF; rw [if_neg h, if_pos h2, if_neg h3]
theorem spnsF_6 {l : List Spn} (h : l.length = 0) : spnsF l = 6 := by rw [spnsF, if_pos h]
theorem spnsF_1 {l : List Spn} (h : l.length ≠ 0) (h' : 1000 < l.length) : spnsF l = 1 := by rw [spnsF, if_neg h, if_pos h']
theorem spnsF_k {l : List Spn} (h : l.length ≠ 0) (h' : ¬ 1000 < l.length) {k : Nat} {x : Spn} (hx : l[k]? = some x) (h1 : ∀ i, i < k → spnE l i = 0) (h2 : spnF x k (prevF l k) ≠ 0) : spnsF l = spnF x k (prevF l k) := by
  rw [spnsF, if_neg h, if_neg h', Tre.fstE_at h1 (List.getElem?_eq_some_iff.1 hx).1 (by rw [spnE_at hx]; exact h2), spnE_at hx]
theorem spnsF_0 {l : List Spn} (h : l.length ≠ 0) (h' : ¬ 1000 < l.length) (h1 : ∀ i, i < l.length → spnE l i = 0) : spnsF l = 0 := by rw [spnsF, if_neg h, if_neg h', Tre.fstE_zero h1]
def Spn.cells (x : Spn) : List Value := [.int .i64 x.frm, .int .i64 x.off, .bool x.sv, .string x.nm]
structure SpansAt (w : World) (a : Option Addr) (l : List Spn) : Prop where
  len : l.length ≤ maxLen
  cell : ∀ (i : Nat) x, l[i]? = some x → (x.nm.size ≤ maxLen ∧ (Lit.int .i64 x.frm).wf = true ∧ (Lit.int .i64 x.off).wf = true) ∧ ∃ b o, a = some ⟨b, o, none⟩ ∧ b < w.heap.size ∧ w.cell? ⟨b, o + i * 4, none⟩ = some (.int .i64 x.frm) ∧ w.cell? ⟨b, o + i * 4 + 1, none⟩ = some (.int .i64 x.off) ∧ w.cell? ⟨b, o + i * 4 + 2, none⟩ = some (.bool x.sv) ∧ w.cell? ⟨b, o + i * 4 + 3, none⟩ = some (.string x.nm)
theorem SpansAt.gr {w w' : World} {a : Option Addr} {l : List Spn} (h : SpansAt w a l) (hg : Gr w w') : SpansAt w' a l :=
  ⟨h.len, fun i x hx => by
    obtain ⟨ho, b, o, e, hb, c0, c1, c2, c3⟩ := h.cell i x hx
    exact ⟨ho, b, o, e, Nat.lt_of_lt_of_le hb hg.size, (hg.cell b _ hb).trans c0, (hg.cell b _ hb).trans c1, (hg.cell b _ hb).trans c2, (hg.cell b _ hb).trans c3⟩⟩
end Go.Proofs.Ythnbmeihaojfnaa
