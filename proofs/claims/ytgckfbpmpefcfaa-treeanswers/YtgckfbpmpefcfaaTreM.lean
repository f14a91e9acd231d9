/- What answers and forests hold in memory, and what is wrong with them: plain mathematics and readings of memory. It proves nothing of the program by itself. -/
import Derived.Test.YtgckfbpmpefcfaaMath
import Derived.WalkKit
import Derived.ProofKit
import Derived.OpenShut
namespace Go.Proofs.Ytgckfbpmpefcfaa
open Go.ChangeShapes Go.WideShapes Go.ChangeAt Go.RowKit
set_option linter.unusedVariables false
namespace Tre
def inB (n l h : Int) : Bool := decide (l ≤ n ∧ n ≤ h)
theorem inB_t {n l h : Int} (a : l ≤ n) (b : n ≤ h) : inB n l h = true := decide_eq_true ⟨a, b⟩
theorem inB_f {n l h : Int} (a : ¬ (l ≤ n ∧ n ≤ h)) : inB n l h = false := decide_eq_false a
/-- May it be an offset? -/
def okOff (n : Int) : Bool := inB n (-172800) 172800
theorem okOff_eq (n : Int) : inB n (-172800) 172800 = okOff n := rfl
/-- P4.4: what is wrong with an answer. -/
def ansF (off jump : Int) (zs : List Int) (nm : Nat) : Int :=
  if okOff off = true ∧ -1099511627776 ≤ jump ∧ jump ≤ 1099511627776 then (if zs.all okOff = true then (if 6 < zs.length ∨ 24 < nm then 1 else 0) else 2) else 2
theorem all_false {zs : List Int} {k : Nat} {z : Int} (h : zs[k]? = some z) (hz : okOff z = false) : zs.all okOff = false := by
  rw [List.all_eq_false]
  exact ⟨z, List.mem_of_getElem? h, by simp [hz]⟩
theorem all_true {zs : List Int} (h : ∀ (i : Nat) z, zs[i]? = some z → okOff z = true) : zs.all okOff = true := by
  rw [List.all_eq_true]
  intro z hz
  obtain ⟨i, hi⟩ := List.getElem?_of_mem hz
  exact h i z hi
end Tre
/-- A slice of ints, and what it holds. -/
structure IntsAt (w : World) (a : Option Addr) (zs : List Int) : Prop where
  len : zs.length ≤ maxLen
  cell : ∀ (i : Nat) z, zs[i]? = some z → ∃ b o, a = some ⟨b, o, none⟩ ∧ b < w.heap.size ∧ w.cell? ⟨b, o + i, none⟩ = some (.int .i64 z)
theorem IntsAt.grown {w w' : World} {a : Option Addr} {zs : List Int} (h : IntsAt w a zs) (hg : Grown w w') : IntsAt w' a zs :=
  ⟨h.len, fun i z hz => by
    obtain ⟨b, o, e, hb, hc⟩ := h.cell i z hz
    exact ⟨b, o, e, Nat.lt_of_lt_of_le hb hg.2.2, (Grown_cell hg b _ hb).trans hc⟩⟩
end Go.Proofs.Ytgckfbpmpefcfaa
