/- Contracts: the parts of Verify (P5.2, P5.3): operators, what an instruction does to the stack, arrivals. -/
import Derived.Test.YtcpmbjlhblkniaaVerM
import Derived.Test.YtcpmbjlhblkniaaTreA
import Derived.Deep.QuietTactic
import Derived.BigQuiet
namespace Go.Proofs.Ytcpmbjlhblkniaa
open Go.ChangeShapes Go.WideShapes Go.ChangeAt Go.RowKit
set_option linter.unusedVariables false
set_option maxRecDepth 100000
/-- The table of operators: its cells. -/
def oprCells : List Value := [.string ⟨#[97, 114, 103]⟩, .int .i64 0, .int .i64 1, .bool false, .string ⟨#[112, 117, 115, 104]⟩, .int .i64 0, .int .i64 1, .bool true, .string ⟨#[108, 101, 115, 115]⟩, .int .i64 2, .int .i64 1, .bool false, .string ⟨#[115, 107, 105, 112]⟩, .int .i64 1, .int .i64 0, .bool true, .string ⟨#[103, 111]⟩, .int .i64 0, .int .i64 0, .bool true, .string ⟨#[116, 101, 108, 108]⟩, .int .i64 0, .int .i64 0, .bool true]
theorem ops6 {op : Int} (h1 : 1 ≤ op) (h2 : op ≤ 6) : op = 1 ∨ op = 2 ∨ op = 3 ∨ op = 4 ∨ op = 5 ∨ op = 6 := by omega
def opName (op : Int) : ByteArray := if op = 1 then ⟨#[97, 114, 103]⟩ else if op = 2 then ⟨#[112, 117, 115, 104]⟩ else if op = 3 then ⟨#[108, 101, 115, 115]⟩ else if op = 4 then ⟨#[115, 107, 105, 112]⟩ else if op = 5 then ⟨#[103, 111]⟩ else ⟨#[116, 101, 108, 108]⟩
def numbered (op : Int) : Bool := decide (op ≠ 1 ∧ op ≠ 3)
structure NxtPost (w : World) (js : List Nat) (e : Ending) (w' : World) : Prop where
  ex : ∃ a cap, e = .returned (.slice a js.length cap) ∧ IntsAt w' a (js.map fun j => ((j : Nat) : Int)) ∧ NewAt w.heap.size a ∧ Gr w w'
theorem nxt0 (w : World) (o : Obj) : NxtPost w [] (.returned (.slice none 0 0)) (w.alloc o) :=
  ⟨none, 0, rfl, IntsAt.nil _ _, NewAt.none _, (Gr.refl _).alloc _⟩
theorem nxt1 (w : World) (o : Obj) (t : TypeId) (j : Nat) (z : Int) (h : (j : Int) = z) : NxtPost w [j] (.returned (.slice (some ⟨w.heap.size + 1, 0, none⟩) 1 1)) ((w.alloc o).alloc (.cells #[.int .i64 z] t)) := by
  subst h
  refine ⟨some ⟨w.heap.size + 1, 0, none⟩, 1, rfl, ⟨by simp [maxLen], fun i z hz => ?_⟩, ⟨fun b o sp e => by cases e; omega⟩, ((Gr.refl _).alloc _).alloc _⟩
  have hi : i = 0 := by have := (List.getElem?_eq_some_iff.1 hz).1; simp at this; omega
  subst hi
  simp at hz
  subst hz
  exact ⟨_, _, rfl, by simp, (row_all (heapC w o _)).1 0⟩
theorem nxt2 (w : World) (o : Obj) (t : TypeId) (j k : Nat) (y z : Int) (h : (j : Int) = y) (h' : (k : Int) = z) : NxtPost w [j, k] (.returned (.slice (some ⟨w.heap.size + 1, 0, none⟩) 2 2)) ((w.alloc o).alloc (.cells #[.int .i64 y, .int .i64 z] t)) := by
  subst h h'
  refine ⟨some ⟨w.heap.size + 1, 0, none⟩, 2, rfl, ⟨by simp [maxLen], fun i z hz => ?_⟩, ⟨fun b o sp e => by cases e; omega⟩, ((Gr.refl _).alloc _).alloc _⟩
  have hi : i = 0 ∨ i = 1 := by have := (List.getElem?_eq_some_iff.1 hz).1; simp at this; omega
  rcases hi with rfl | rfl
  · simp at hz
    subst hz
    exact ⟨_, _, rfl, by simp, (row_all (heapC w o _)).1 0⟩
  · simp at hz
    subst hz
    exact ⟨_, _, rfl, by simp, (row_all (heapC w o _)).1 1⟩
end Go.Proofs.Ytcpmbjlhblkniaa
