/- Contracts: the parts of Verify (P5.2, P5.3): operators, what an instruction does to the stack, arrivals. -/
import Derived.Test.YtoolimfdadpmpaaDoorVerM
import Derived.Test.YtoolimfdadpmpaaDoorTreA
import Derived.Deep.QuietTactic
import Derived.BigQuiet
namespace Go.Proofs.YtoolimfdadpmpaaDoor
open Go.ChangeShapes Go.WideShapes Go.ChangeAt Go.RowKit
set_option linter.unusedVariables false
/-- The table of operators: its cells. -/
def oprCells : List Value := [.string ⟨#[97, 114, 103]⟩, .int .i64 0, .int .i64 1, .bool false, .string ⟨#[112, 117, 115, 104]⟩, .int .i64 0, .int .i64 1, .bool true, .string ⟨#[108, 101, 115, 115]⟩, .int .i64 2, .int .i64 1, .bool false, .string ⟨#[115, 107, 105, 112]⟩, .int .i64 1, .int .i64 0, .bool true, .string ⟨#[103, 111]⟩, .int .i64 0, .int .i64 0, .bool true, .string ⟨#[116, 101, 108, 108]⟩, .int .i64 0, .int .i64 0, .bool true]
structure Opr (w : World) : Prop where
  lt : 0 < w.heap.size
  cell : ∀ j, j < 24 → w.cell? ⟨0, j, none⟩ = oprCells[j]?
theorem Opr.gr {w w' : World} (h : Opr w) (hg : Gr w w') : Opr w' := ⟨Nat.lt_of_lt_of_le h.lt hg.size, fun j hj => (hg.cell _ _ h.lt).trans (h.cell j hj)⟩
theorem ops6 {op : Int} (h1 : 1 ≤ op) (h2 : op ≤ 6) : op = 1 ∨ op = 2 ∨ op = 3 ∨ op = 4 ∨ op = 5 ∨ op = 6 := by omega
def opName (op : Int) : ByteArray := if op = 1 then ⟨#[97, 114, 103]⟩ else if op = 2 then ⟨#[112, 117, 115, 104]⟩ else if op = 3 then ⟨#[108, 101, 115, 115]⟩ else if op = 4 then ⟨#[115, 107, 105, 112]⟩ else if op = 5 then ⟨#[103, 111]⟩ else ⟨#[116, 101, 108, 108]⟩
def numbered (op : Int) : Bool := decide (op ≠ 1 ∧ op ≠ 3)
set_option maxHeartbeats 1600000 in
theorem operatorOf_any (op : Int) (w : World) (hT : Opr w) (h1 : 1 ≤ op) (h2 : op ≤ 6) :
    Calls Tryd.prog 23 #[.int .i64 op] w fun e w' => e = .returned (.agg #[.string (opName op), .int .i64 (Ver.takes op), .int .i64 (Ver.lays op), .bool (numbered op)]) ∧ Gr w w' := by
  have T := hT.cell
  have hlt := hT.lt
  have hne : 0 ≠ w.heap.size := by omega
  rcases ops6 h1 h2 with rfl | rfl | rfl | rfl | rfl | rfl
  · have c0 := T 0 (by decide)
    have c1 := T 1 (by decide)
    have c2 := T 2 (by decide)
    have c3 := T 3 (by decide)
    simp [oprCells] at c0 c1 c2 c3
    clear T
    go_enter Tryd.func23, Tryd.ntmps23
    go_wp2
    refine bodyPost_ret (v := .agg #[.string (opName 1), .int .i64 (Ver.takes 1), .int .i64 (Ver.lays 1), .bool (numbered 1)]) (by simp [results, Tryd.results23, go_sem, opName, Ver.takes, Ver.lays, numbered]) rfl ⟨rfl, ?_⟩
    repeat (with_reducible first | exact Gr.refl _ | refine Gr.alloc ?_ _ | refine Gr.setCell ?_ (by simp) _)
  · have c0 := T 4 (by decide)
    have c1 := T 5 (by decide)
    have c2 := T 6 (by decide)
    have c3 := T 7 (by decide)
    simp [oprCells] at c0 c1 c2 c3
    clear T
    go_enter Tryd.func23, Tryd.ntmps23
    go_wp2
    refine bodyPost_ret (v := .agg #[.string (opName 2), .int .i64 (Ver.takes 2), .int .i64 (Ver.lays 2), .bool (numbered 2)]) (by simp [results, Tryd.results23, go_sem, opName, Ver.takes, Ver.lays, numbered]) rfl ⟨rfl, ?_⟩
    repeat (with_reducible first | exact Gr.refl _ | refine Gr.alloc ?_ _ | refine Gr.setCell ?_ (by simp) _)
  · have c0 := T 8 (by decide)
    have c1 := T 9 (by decide)
    have c2 := T 10 (by decide)
    have c3 := T 11 (by decide)
    simp [oprCells] at c0 c1 c2 c3
    clear T
    go_enter Tryd.func23, Tryd.ntmps23
    go_wp2
    refine bodyPost_ret (v := .agg #[.string (opName 3), .int .i64 (Ver.takes 3), .int .i64 (Ver.lays 3), .bool (numbered 3)]) (by simp [results, Tryd.results23, go_sem, opName, Ver.takes, Ver.lays, numbered]) rfl ⟨rfl, ?_⟩
    repeat (with_reducible first | exact Gr.refl _ | refine Gr.alloc ?_ _ | refine Gr.setCell ?_ (by simp) _)
  · have c0 := T 12 (by decide)
    have c1 := T 13 (by decide)
    have c2 := T 14 (by decide)
    have c3 := T 15 (by decide)
    simp [oprCells] at c0 c1 c2 c3
    clear T
    go_enter Tryd.func23, Tryd.ntmps23
    go_wp2
    refine bodyPost_ret (v := .agg #[.string (opName 4), .int .i64 (Ver.takes 4), .int .i64 (Ver.lays 4), .bool (numbered 4)]) (by simp [results, Tryd.results23, go_sem, opName, Ver.takes, Ver.lays, numbered]) rfl ⟨rfl, ?_⟩
    repeat (with_reducible first | exact Gr.refl _ | refine Gr.alloc ?_ _ | refine Gr.setCell ?_ (by simp) _)
  · have c0 := T 16 (by decide)
    have c1 := T 17 (by decide)
    have c2 := T 18 (by decide)
    have c3 := T 19 (by decide)
    simp [oprCells] at c0 c1 c2 c3
    clear T
    go_enter Tryd.func23, Tryd.ntmps23
    go_wp2
    refine bodyPost_ret (v := .agg #[.string (opName 5), .int .i64 (Ver.takes 5), .int .i64 (Ver.lays 5), .bool (numbered 5)]) (by simp [results, Tryd.results23, go_sem, opName, Ver.takes, Ver.lays, numbered]) rfl ⟨rfl, ?_⟩
    repeat (with_reducible first | exact Gr.refl _ | refine Gr.alloc ?_ _ | refine Gr.setCell ?_ (by simp) _)
  · have c0 := T 20 (by decide)
    have c1 := T 21 (by decide)
    have c2 := T 22 (by decide)
    have c3 := T 23 (by decide)
    simp [oprCells] at c0 c1 c2 c3
    clear T
    go_enter Tryd.func23, Tryd.ntmps23
    go_wp2
    refine bodyPost_ret (v := .agg #[.string (opName 6), .int .i64 (Ver.takes 6), .int .i64 (Ver.lays 6), .bool (numbered 6)]) (by simp [results, Tryd.results23, go_sem, opName, Ver.takes, Ver.lays, numbered]) rfl ⟨rfl, ?_⟩
    repeat (with_reducible first | exact Gr.refl _ | refine Gr.alloc ?_ _ | refine Gr.setCell ?_ (by simp) _)
theorem isOperator_any (op : Int) (w : World) :
    Calls Tryd.prog 22 #[.int .i64 op] w fun e w' => e = .returned (.bool (Ver.isOp op)) ∧ w' = w := by
  go_enter Tryd.func22, Tryd.ntmps22
  go_wp2
  all_goals
    go_ret
    exact ⟨ret_bool (by simp [Ver.isOp] <;> omega), rfl⟩
structure NxtPost (w : World) (js : List Nat) (e : Ending) (w' : World) : Prop where
  ex : ∃ a cap, e = .returned (.slice a js.length cap) ∧ IntsAt w' a (js.map fun j => ((j : Nat) : Int)) ∧ NewAt w.heap.size a ∧ Gr w w'
theorem nxt0 (w : World) (o : Obj) : NxtPost w [] (.returned (.slice none 0 0)) (w.alloc o) :=
  ⟨none, 0, rfl, IntsAt.nil _ _, NewAt.none _, (Gr.refl _).alloc _⟩
theorem nxt1 (w : World) (o : Obj) (t : TypeId) (j : Nat) (z : Int) (h : (j : Int) = z) : NxtPost w [j] (.returned (.slice (some ⟨w.heap.size + 1, 0, none⟩) 1 1)) ((w.alloc o).alloc (.cells #[.int .i64 z] t)) := by
  subst h
  refine ⟨some ⟨w.heap.size + 1, 0, none⟩, 1, rfl, ⟨by simp [maxLen], fun i z hz => ?_⟩, ⟨fun b o sp e => by cases e; omega⟩, ((Gr.refl _).alloc _).alloc _⟩
  have hi : i = 0 := by have := (List.getElem?_eq_some_iff.1 hz).1; simp at this; omega
  subst hi
  simp at hz
  subst hz
  exact ⟨_, _, rfl, by simp, (row_all (heapC w o _)).1 0⟩
theorem nxt2 (w : World) (o : Obj) (t : TypeId) (j k : Nat) (y z : Int) (h : (j : Int) = y) (h' : (k : Int) = z) : NxtPost w [j, k] (.returned (.slice (some ⟨w.heap.size + 1, 0, none⟩) 2 2)) ((w.alloc o).alloc (.cells #[.int .i64 y, .int .i64 z] t)) := by
  subst h h'
  refine ⟨some ⟨w.heap.size + 1, 0, none⟩, 2, rfl, ⟨by simp [maxLen], fun i z hz => ?_⟩, ⟨fun b o sp e => by cases e; omega⟩, ((Gr.refl _).alloc _).alloc _⟩
  have hi : i = 0 ∨ i = 1 := by have := (List.getElem?_eq_some_iff.1 hz).1; simp at this; omega
  rcases hi with rfl | rfl
  · simp at hz
    subst hz
    exact ⟨_, _, rfl, by simp, (row_all (heapC w o _)).1 0⟩
  · simp at hz
    subst hz
    exact ⟨_, _, rfl, by simp, (row_all (heapC w o _)).1 1⟩
end Go.Proofs.YtoolimfdadpmpaaDoor
