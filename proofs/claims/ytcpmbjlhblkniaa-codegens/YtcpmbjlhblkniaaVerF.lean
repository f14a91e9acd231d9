/- Contract: code is followed on all ways (P5.3), by the program. -/
import Derived.Test.YtcpmbjlhblkniaaVerC
namespace Go.Proofs.Ytcpmbjlhblkniaa
open Go.ChangeShapes Go.WideShapes Go.ChangeAt Go.RowKit
set_option linter.unusedVariables false
set_option maxRecDepth 100000
def ret3 (r : Int × Int × Int) : Ending := .returned (.tuple #[.int .i64 r.1, .int .i64 r.2.1, .int .i64 r.2.2])
theorem lay_bd (op : Int) : 0 ≤ Ver.lays op ∧ Ver.lays op ≤ 1 := by unfold Ver.lays; split <;> omega
theorem tak_bd (op : Int) : 0 ≤ Ver.takes op ∧ Ver.takes op ≤ 2 := by unfold Ver.takes; split; omega; split <;> omega
theorem max_if (n k : Int) : (if n < k then k else n) = max n k := by split <;> omega
theorem alloc_lt (w : World) (o : Obj) : w.heap.size < (w.alloc o).heap.size := by simp
def aftA (d k t l : Int) : Bool × Int × Int := if d < t then (false, 0, 0) else (true, d + (l - t), k + 1)
def aftB (d t l : Int) : Bool := decide (¬ (d < t ∨ 8 < d + (l - t)))
theorem folS {w4 w5 w6 : World} {A X i : Nat} {d k op n : Int} (h : w5.cell? ⟨A, i * 3, none⟩ = some (.bool true) ∧ w5.cell? ⟨A, i * 3 + 1, none⟩ = some (.int .i64 d) ∧ w5.cell? ⟨A, i * 3 + 2, none⟩ = some (.int .i64 k) ∧ w5.cell? ⟨X, 0, none⟩ = some (.int .i64 op) ∧ w5.cell? ⟨X, 1, none⟩ = some (.int .i64 n) ∧ Gr w4 w5) (hg : Gr w5 w6) (zA : A < w4.heap.size) (zX : X < w4.heap.size) : w6.cell? ⟨A, i * 3, none⟩ = some (.bool true) ∧ w6.cell? ⟨A, i * 3 + 1, none⟩ = some (.int .i64 d) ∧ w6.cell? ⟨A, i * 3 + 2, none⟩ = some (.int .i64 k) ∧ w6.cell? ⟨X, 0, none⟩ = some (.int .i64 op) ∧ w6.cell? ⟨X, 1, none⟩ = some (.int .i64 n) ∧ Gr w4 w6 :=
  ⟨(hg.cell _ _ (Nat.lt_of_lt_of_le zA h.2.2.2.2.2.size)).trans h.1, (hg.cell _ _ (Nat.lt_of_lt_of_le zA h.2.2.2.2.2.size)).trans h.2.1, (hg.cell _ _ (Nat.lt_of_lt_of_le zA h.2.2.2.2.2.size)).trans h.2.2.1, (hg.cell _ _ (Nat.lt_of_lt_of_le zX h.2.2.2.2.2.size)).trans h.2.2.2.1, (hg.cell _ _ (Nat.lt_of_lt_of_le zX h.2.2.2.2.2.size)).trans h.2.2.2.2.1, h.2.2.2.2.2.trans hg⟩
end Go.Proofs.Ytcpmbjlhblkniaa
