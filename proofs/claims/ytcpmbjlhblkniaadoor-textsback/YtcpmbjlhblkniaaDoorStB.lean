/- Steps of a region that draws its order, one law a kind of operation, in whatever frame holds the operands. -/
import Derived.Test.YtcpmbjlhblkniaaDoorSlots
import Derived.Test.YtcpmbjlhblkniaaDoorPlain
import Derived.Test.YtcpmbjlhblkniaaDoorRows
import Derived.WalkKit
import Derived.ProofKit
import Derived.OpenShut
namespace Go.Proofs.YtcpmbjlhblkniaaDoor
open Go.ChangeShapes Go.WideShapes Go.ChangeAt Go.RowKit
set_option linter.unusedVariables false
set_option linter.unusedSimpArgs false
namespace St
variable {a : Act} {w : World} {K : Act → World → Prop} {Q : Exit → Act → World → Prop} {d : Option Tmp} {ty : TypeId} {pos : String} {after : Array Edge} {g : Option (Nat × Bool)}
theorem move {x : Operand} {v : Value} (hx : a.eval x = v) (hK : K (a.put d v) w) : Oper.wp Tryd.prog ⟨d, .move x, ty, pos, after, g⟩ a w K Q := by
  subst hx; exact hK
theorem assign {x : Operand} {v : Value} (hx : a.eval x = v) (hK : K (a.put d v) w) : Oper.wp Tryd.prog ⟨d, .assign x, ty, pos, after, g⟩ a w K Q := by
  subst hx; exact hK
theorem fieldRaw {x : Operand} {b o f : Nat} (hx : a.eval x = .pointer (some ⟨b, o, none⟩)) (hf : f < 4) (hK : K (a.put d (.pointer (some ⟨b, o + f, none⟩))) w) :
    Oper.wp Tryd.prog ⟨d, .fieldAddr 67 x f, ty, pos, after, g⟩ a w K Q := by
  unfold Oper.wp
  simp only [execOp, hx]
  match f, hf with
  | 0, _ => simpa [go_sem] using hK
  | 1, _ => simpa [go_sem] using hK
  | 2, _ => simpa [go_sem] using hK
  | 3, _ => simpa [go_sem] using hK
theorem loadI {x : Operand} {p : Addr} {n : Int} (hx : a.eval x = .pointer (some p)) (hc : w.cell? p = some (.int .i64 n)) (hK : K (a.put d (.int .i64 n)) w) :
    Oper.wp Tryd.prog ⟨d, .load 3 x, ty, pos, after, g⟩ a w K Q := by
  unfold Oper.wp
  simp only [execOp, hx]
  simpa [go_sem, hc] using hK
theorem sub {x y : Operand} {n k : Int} (hx : a.eval x = .int .i64 n) (hy : a.eval y = .int .i64 k) (h1 : -9223372036854775808 ≤ n - k) (h2 : n - k ≤ 9223372036854775807) (hK : K (a.put d (.int .i64 (n - k))) w) :
    Oper.wp Tryd.prog ⟨d, .binOp .sub 3 x y 3, ty, pos, after, g⟩ a w K Q := by
  have e : IntKind.i64.wrap (n - k) = n - k := by simp [IntKind.wrap, IntKind.signed, IntKind.bits]; omega
  unfold Oper.wp
  simp only [execOp, hx, hy]
  simpa [go_sem, e] using hK
theorem min_if (n k : Int) : (if k < n then k else n) = min n k := by split <;> omega
theorem min2 {x y : Operand} {n k : Int} (hx : a.eval x = .int .i64 n) (hy : a.eval y = .int .i64 k) (hK : K (a.put d (.int .i64 (min n k))) w) :
    Oper.wp Tryd.prog ⟨d, .call { callee := .builtin .min, args := #[x, y], argTypes := #[3, 3] }, ty, pos, after, g⟩ a w K Q := by
  unfold Oper.wp
  generalize a.eval = ev at *
  simp [execOp, go_sem, hx, hy]
  rw [min_if]
  exact hK
theorem call {args : Array Operand} {ats : Array TypeId} {vs : Array Value} {f : Nat} {R : Ending → World → Prop} (hf : ∀ vs w, (callFunc f vs).run Tryd.prog w = .ok (.enter f vs) w) (ha : args.map a.eval = vs) (hc : Calls Tryd.prog f vs w R) (hK : ∀ e w', R e w' → ∃ v, e = .returned v ∧ K (a.put d v) w') :
    Oper.wp Tryd.prog ⟨d, .call { callee := .value (.func f), args := args, argTypes := ats }, ty, pos, after, g⟩ a w K Q := by
  unfold Oper.wp
  have hfun : a.eval (.func f) = .func (.func f) #[] #[] := rfl
  generalize a.eval = ev at *
  simp only [execOp, resolve, ha, hfun]
  simp [go_sem, hf]
  refine hc.mono ?_
  intro e w' h
  obtain ⟨v, rfl, hk⟩ := hK e w' h
  exact hk
theorem fieldForest {x : Operand} {b o f : Nat} (hx : a.eval x = .pointer (some ⟨b, o, none⟩)) (hf : f < 2) (hK : K (a.put d (.pointer (some ⟨b, o + f, none⟩))) w) :
    Oper.wp Tryd.prog ⟨d, .fieldAddr 42 x f, ty, pos, after, g⟩ a w K Q := by
  unfold Oper.wp
  simp only [execOp, hx]
  match f, hf with
  | 0, _ => simpa [go_sem] using hK
  | 1, _ => simpa [go_sem] using hK
theorem loadNodes {x : Operand} {p : Addr} {b : Option Addr} {n c : Nat} (hx : a.eval x = .pointer (some p)) (hc : w.cell? p = some (.slice b n c)) (hK : K (a.put d (.slice b n c)) w) :
    Oper.wp Tryd.prog ⟨d, .load 40 x, ty, pos, after, g⟩ a w K Q := by
  unfold Oper.wp
  simp only [execOp, hx]
  simpa [go_sem, hc] using hK
theorem buildLeaf {x : Operand} {n : Int} (hx : a.eval x = .int .i64 n) (hK : K (a.put d (.agg #[.bool true, .int .i64 n, .int .i64 0, .int .i64 0, .int .i64 0])) w) :
    Oper.wp Tryd.prog ⟨d, .build 65 #[(0, .const (.bool true)), (1, x)], ty, pos, after, g⟩ a w K Q := by
  unfold Oper.wp
  have hcst : a.eval (.const (.bool true)) = .bool true := rfl
  generalize a.eval = ev at *
  simp [execOp, go_sem, hx, hcst]
  exact hK
theorem buildNode {x y z : Operand} {n k l : Int} (hx : a.eval x = .int .i64 n) (hy : a.eval y = .int .i64 k) (hz : a.eval z = .int .i64 l) (hK : K (a.put d (.agg #[.bool false, .int .i64 0, .int .i64 n, .int .i64 k, .int .i64 l])) w) :
    Oper.wp Tryd.prog ⟨d, .build 65 #[(2, x), (3, y), (4, z)], ty, pos, after, g⟩ a w K Q := by
  unfold Oper.wp
  generalize a.eval = ev at *
  simp [execOp, go_sem, hx, hy, hz]
  exact hK
theorem sliceNode {x : Operand} {c0 c1 c2 c3 c4 : Value} (hx : a.eval x = .agg #[c0, c1, c2, c3, c4]) (hK : K (a.put d (.slice (some ⟨w.heap.size, 0, none⟩) 1 1)) (w.alloc (.cells #[c0, c1, c2, c3, c4] 65))) :
    Oper.wp Tryd.prog ⟨d, .buildSlice 40 1 #[(0, x)], ty, pos, after, g⟩ a w K Q := by
  unfold Oper.wp
  generalize a.eval = ev at *
  simp [execOp, go_sem, hx]
  exact hK
theorem storeNodes {x y : Operand} {p : Addr} {u : Value} {b : Option Addr} {n c : Nat} (hx : a.eval x = .pointer (some p)) (hy : a.eval y = .slice b n c) (hc : w.cell? p = some u) (hf : w.frozen? p = false) (hK : K a (w.setCell p (.slice b n c))) :
    Oper.wp Tryd.prog ⟨none, .store 40 x y, ty, pos, after, g⟩ a w K Q := by
  unfold Oper.wp
  generalize a.eval = ev at *
  simp [execOp, go_sem, hx, hy, hc, hf]
  exact hK
theorem loadInts {x : Operand} {p : Addr} {b : Option Addr} {n c : Nat} (hx : a.eval x = .pointer (some p)) (hc : w.cell? p = some (.slice b n c)) (hK : K (a.put d (.slice b n c)) w) :
    Oper.wp Tryd.prog ⟨d, .load 24 x, ty, pos, after, g⟩ a w K Q := by
  unfold Oper.wp
  simp only [execOp, hx]
  simpa [go_sem, hc] using hK
theorem sliceInt {x : Operand} {n : Int} (hx : a.eval x = .int .i64 n) (hK : K (a.put d (.slice (some ⟨w.heap.size, 0, none⟩) 1 1)) (w.alloc (.cells #[.int .i64 n] 3))) :
    Oper.wp Tryd.prog ⟨d, .buildSlice 24 1 #[(0, x)], ty, pos, after, g⟩ a w K Q := by
  unfold Oper.wp
  generalize a.eval = ev at *
  simp [execOp, go_sem, hx]
  exact hK
theorem storeInts {x y : Operand} {p : Addr} {u : Value} {b : Option Addr} {n c : Nat} (hx : a.eval x = .pointer (some p)) (hy : a.eval y = .slice b n c) (hc : w.cell? p = some u) (hf : w.frozen? p = false) (hK : K a (w.setCell p (.slice b n c))) :
    Oper.wp Tryd.prog ⟨none, .store 24 x y, ty, pos, after, g⟩ a w K Q := by
  unfold Oper.wp
  generalize a.eval = ev at *
  simp [execOp, go_sem, hx, hy, hc, hf]
  exact hK
theorem indexInts {x y : Operand} {b o n c : Nat} {i : Int} (hx : a.eval x = .slice (some ⟨b, o, none⟩) n c) (hy : a.eval y = .int .i64 i) (h0 : 0 ≤ i) (h1 : i < n) (hK : K (a.put d (.pointer (some ⟨b, o + i.toNat, none⟩))) w) :
    Oper.wp Tryd.prog ⟨d, .indexAddr 24 x y, ty, pos, after, g⟩ a w K Q := by
  unfold Oper.wp
  generalize a.eval = ev at *
  simp [execOp, go_sem, hx, hy, h0, h1]
  exact hK
theorem lss {x y : Operand} {n k : Int} (hx : a.eval x = .int .i64 n) (hy : a.eval y = .int .i64 k) (hK : K (a.put d (.bool (decide (n < k)))) w) :
    Oper.wp Tryd.prog ⟨d, .binOp .lss 3 x y 3, ty, pos, after, g⟩ a w K Q := by
  unfold Oper.wp
  simp only [execOp, hx, hy]
  simpa [go_sem] using hK
theorem args1 {a : Act} {x : Operand} {u : Value} (hx : a.eval x = u) : (#[x] : Array Operand).map a.eval = #[u] := by simp [hx]
theorem fieldProgram {x : Operand} {b o f : Nat} (hx : a.eval x = .pointer (some ⟨b, o, none⟩)) (hf : f < 3) (hK : K (a.put d (.pointer (some ⟨b, o + f, none⟩))) w) :
    Oper.wp Tryd.prog ⟨d, .fieldAddr 27 x f, ty, pos, after, g⟩ a w K Q := by
  unfold Oper.wp
  simp only [execOp, hx]
  match f, hf with
  | 0, _ => simpa [go_sem] using hK
  | 1, _ => simpa [go_sem] using hK
  | 2, _ => simpa [go_sem] using hK
theorem fieldInstr {x : Operand} {b o f : Nat} (hx : a.eval x = .pointer (some ⟨b, o, none⟩)) (hf : f < 2) (hK : K (a.put d (.pointer (some ⟨b, o + f, none⟩))) w) :
    Oper.wp Tryd.prog ⟨d, .fieldAddr 54 x f, ty, pos, after, g⟩ a w K Q := by
  unfold Oper.wp
  simp only [execOp, hx]
  match f, hf with
  | 0, _ => simpa [go_sem] using hK
  | 1, _ => simpa [go_sem] using hK
theorem run_oneIf (vs : Array Value) (w : World) : (callFunc 39 vs).run Tryd.prog w = .ok (.enter 39 vs) w := by
  have h1 : (Tryd.f39.name == "runtime.NumGoroutine") = false := by kernel_rfl
  have h2 : Tryd.f39.body.isNone = false := by kernel_rfl
  have h1' : ¬ Tryd.f39.name = "runtime.NumGoroutine" := by simpa using h1
  have h2' : ¬ Tryd.f39.body = none := by intro h; rw [h] at h2; cases h2
  simp [callFunc, go_sem, Tryd.func39, h1', h2']
end St
end Go.Proofs.YtcpmbjlhblkniaaDoor
