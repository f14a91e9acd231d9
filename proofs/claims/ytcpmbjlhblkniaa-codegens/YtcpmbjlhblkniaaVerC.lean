/- Contract: what is wrong with the parts of a program (P5.2), by the program. -/
import Derived.Test.YtcpmbjlhblkniaaVerA
import Derived.Deep.RegionHeld3
import Derived.Deep.Cut
namespace Go.Proofs.Ytcpmbjlhblkniaa
open Go.ChangeShapes Go.WideShapes Go.ChangeAt Go.RowKit
set_option linter.unusedVariables false
theorem cho_2 (i n pl al : Int) : Ver.choices 2 i n pl al = pl := rfl
theorem cho_6 (i n pl al : Int) : Ver.choices 6 i n pl al = al := rfl
theorem cho_4 (i n pl al : Int) : Ver.choices 4 i n pl al = n - i - 1 := rfl
theorem cho_5 (i n pl al : Int) : Ver.choices 5 i n pl al = n - i - 1 := rfl
theorem cho_x {op : Int} (i n pl al : Int) (h2 : op ≠ 2) (h6 : op ≠ 6) (h4 : op ≠ 4) (h5 : op ≠ 5) : Ver.choices op i n pl al = 1 := by simp [Ver.choices, h2, h4, h5, h6]
theorem insF_3 {x : Ins} {i n pl al : Int} (h : Ver.isOp x.op = false) : Ver.insF x i n pl al = 3 := by simp [Ver.insF, h]
theorem insF_2 {x : Ins} {i n pl al : Int} (h : Ver.isOp x.op = true) (h' : ¬ (0 ≤ x.n ∧ x.n < Ver.choices x.op i n pl al)) : Ver.insF x i n pl al = 2 := by rw [Ver.insF, if_pos h, if_neg h']
theorem insF_ok {x : Ins} {i n pl al : Int} (h : Ver.isOp x.op = true) (h' : 0 ≤ x.n ∧ x.n < Ver.choices x.op i n pl al) : Ver.insF x i n pl al = 0 := by rw [Ver.insF, if_pos h, if_pos h']
end Go.Proofs.Ytcpmbjlhblkniaa
