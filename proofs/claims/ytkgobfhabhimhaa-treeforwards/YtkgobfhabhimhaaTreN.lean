/- Contracts: what is wrong with a node, and with a forest (P4.4), by the program and by the document's answer. -/
import Derived.Test.YtkgobfhabhimhaaTreA
import Derived.Test.YtkgobfhabhimhaaBoxes
namespace Go.Proofs.Ytkgobfhabhimhaa
open Go.ChangeShapes Go.WideShapes Go.ChangeAt Go.RowKit
set_option linter.unusedVariables false
theorem getE {α : Type} {l : List α} {k : Nat} (h : k < l.length) : l[k]? = some l[k] := List.getElem?_eq_getElem h
end Go.Proofs.Ytkgobfhabhimhaa
