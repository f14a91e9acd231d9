/- Contracts: the parts of Verify (P5.2, P5.3): operators, what an instruction does to the stack, arrivals. -/
import Derived.Test.YtcpmbjlhblkniaaDoorVerM
import Derived.Test.YtcpmbjlhblkniaaDoorTreA
import Derived.Deep.QuietTactic
import Derived.BigQuiet
namespace Go.Proofs.YtcpmbjlhblkniaaDoor
open Go.ChangeShapes Go.WideShapes Go.ChangeAt Go.RowKit
set_option linter.unusedVariables false
set_option maxRecDepth 100000
/-- The table of operators: its cells. -/
def oprCells : List Value := [.string ⟨#[97, 114, 103]⟩, .int .i64 0, .int .i64 1, .bool false, .string ⟨#[112, 117, 115, 104]⟩, .int .i64 0, .int .i64 1, .bool true, .string ⟨#[108, 101, 115, 115]⟩, .int .i64 2, .int .i64 1, .bool false, .string ⟨#[115, 107, 105, 112]⟩, .int .i64 1, .int .i64 0, .bool true, .string ⟨#[103, 111]⟩, .int .i64 0, .int .i64 0, .bool true, .string ⟨#[116, 101, 108, 108]⟩, .int .i64 0, .int .i64 0, .bool true]
structure Opr (w : World) : Prop where
  lt : 0 < w.heap.size
  cell : ∀ j, j < 24 → w.cell? ⟨0, j, none⟩ = oprCells[j]?
theorem Opr.gr {w w' : World} (h : Opr w) (hg : Gr w w') : Opr w' := ⟨Nat.lt_of_lt_of_le h.lt hg.size, fun j hj => (hg.cell _ _ h.lt).trans (h.cell j hj)⟩
theorem ops6 {op : Int} (h1 : 1 ≤ op) (h2 : op ≤ 6) : op = 1 ∨ op = 2 ∨ op = 3 ∨ op = 4 ∨ op = 5 ∨ op = 6 := by omega
def opName (op : Int) : ByteArray := if op = 1 then ⟨#[97, 114, 103]⟩ else if op = 2 then ⟨#[112, 117, 115, 104]⟩ else if op = 3 then ⟨#[108, 101, 115, 115]⟩ else if op = 4 then ⟨#[115, 107, 105, 112]⟩ else if op = 5 then ⟨#[103, 111]⟩ else ⟨#[116, 101, 108, 108]⟩
def numbered (op : Int) : Bool := decide (op ≠ 1 ∧ op ≠ 3)
set_option maxHeartbeats 1600000 in
theorem operatorOf_any (op : Int) (w : World) (hT : Opr w) (h1 : 1 ≤ op) (h2 : op ≤ 6) :
    Calls Tryd.prog 46 #[.int .i64 op] w fun e w' => e = .returned (.agg #[.string (opName op), .int .i64 (Ver.takes op), .int .i64 (Ver.lays op), .bool (numbered op)]) ∧ Gr w w' := by
  have T := hT.cell
  have hlt := hT.lt
  have hne : 0 ≠ w.heap.size := by omega
  rcases ops6 h1 h2 with rfl | rfl | rfl | rfl | rfl | rfl
  · have c0 := T 0 (by decide)
    have c1 := T 1 (by decide)
    have c2 := T 2 (by decide)
    have c3 := T 3 (by decide)
    simp [oprCells] at c0 c1 c2 c3
    clear T
    go_enter Tryd.func46, Tryd.ntmps46
    go_wp2
    refine bodyPost_ret (v := .agg #[.string (opName 1), .int .i64 (Ver.takes 1), .int .i64 (Ver.lays 1), .bool (numbered 1)]) (by simp [results, Tryd.results46, go_sem, opName, Ver.takes, Ver.lays, numbered]) rfl ⟨rfl, ?_⟩
    repeat (with_reducible first | exact Gr.refl _ | refine Gr.alloc ?_ _ | refine Gr.setCell ?_ (by simp) _)
  · have c0 := T 4 (by decide)
    have c1 := T 5 (by decide)
    have c2 := T 6 (by decide)
    have c3 := T 7 (by decide)
    simp [oprCells] at c0 c1 c2 c3
    clear T
    go_enter Tryd.func46, Tryd.ntmps46
    go_wp2
    refine bodyPost_ret (v := .agg #[.string (opName 2), .int .i64 (Ver.takes 2), .int .i64 (Ver.lays 2), .bool (numbered 2)]) (by simp [results, Tryd.results46, go_sem, opName, Ver.takes, Ver.lays, numbered]) rfl ⟨rfl, ?_⟩
    repeat (with_reducible first | exact Gr.refl _ | refine Gr.alloc ?_ _ | refine Gr.setCell ?_ (by simp) _)
  · have c0 := T 8 (by decide)
    have c1 := T 9 (by decide)
    have c2 := T 10 (by decide)
    have c3 := T 11 (by decide)
    simp [oprCells] at c0 c1 c2 c3
    clear T
    go_enter Tryd.func46, Tryd.ntmps46
    go_wp2
    refine bodyPost_ret (v := .agg #[.string (opName 3), .int .i64 (Ver.takes 3), .int .i64 (Ver.lays 3), .bool (numbered 3)]) (by simp [results, Tryd.results46, go_sem, opName, Ver.takes, Ver.lays, numbered]) rfl ⟨rfl, ?_⟩
    repeat (with_reducible first | exact Gr.refl _ | refine Gr.alloc ?_ _ | refine Gr.setCell ?_ (by simp) _)
  · have c0 := T 12 (by decide)
    have c1 := T 13 (by decide)
    have c2 := T 14 (by decide)
    have c3 := T 15 (by decide)
    simp [oprCells] at c0 c1 c2 c3
    clear T
    go_enter Tryd.func46, Tryd.ntmps46
    go_wp2
    refine bodyPost_ret (v := .agg #[.string (opName 4), .int .i64 (Ver.takes 4), .int .i64 (Ver.lays 4), .bool (numbered 4)]) (by simp [results, Tryd.results46, go_sem, opName, Ver.takes, Ver.lays, numbered]) rfl ⟨rfl, ?_⟩
    repeat (with_reducible first | exact Gr.refl _ | refine Gr.alloc ?_ _ | refine Gr.setCell ?_ (by simp) _)
  · have c0 := T 16 (by decide)
    have c1 := T 17 (by decide)
    have c2 := T 18 (by decide)
    have c3 := T 19 (by decide)
    simp [oprCells] at c0 c1 c2 c3
    clear T
    go_enter Tryd.func46, Tryd.ntmps46
    go_wp2
    refine bodyPost_ret (v := .agg #[.string (opName 5), .int .i64 (Ver.takes 5), .int .i64 (Ver.lays 5), .bool (numbered 5)]) (by simp [results, Tryd.results46, go_sem, opName, Ver.takes, Ver.lays, numbered]) rfl ⟨rfl, ?_⟩
    repeat (with_reducible first | exact Gr.refl _ | refine Gr.alloc ?_ _ | refine Gr.setCell ?_ (by simp) _)
  · have c0 := T 20 (by decide)
    have c1 := T 21 (by decide)
    have c2 := T 22 (by decide)
    have c3 := T 23 (by decide)
    simp [oprCells] at c0 c1 c2 c3
    clear T
    go_enter Tryd.func46, Tryd.ntmps46
    go_wp2
    refine bodyPost_ret (v := .agg #[.string (opName 6), .int .i64 (Ver.takes 6), .int .i64 (Ver.lays 6), .bool (numbered 6)]) (by simp [results, Tryd.results46, go_sem, opName, Ver.takes, Ver.lays, numbered]) rfl ⟨rfl, ?_⟩
    repeat (with_reducible first | exact Gr.refl _ | refine Gr.alloc ?_ _ | refine Gr.setCell ?_ (by simp) _)
theorem isOperator_any (op : Int) (w : World) :
    Calls Tryd.prog 43 #[.int .i64 op] w fun e w' => e = .returned (.bool (Ver.isOp op)) ∧ w' = w := by
  go_enter Tryd.func43, Tryd.ntmps43
  go_wp2
  all_goals
    go_ret
    exact ⟨ret_bool (by simp [Ver.isOp] <;> omega), rfl⟩
set_option maxHeartbeats 1600000 in
theorem after_any (s : Bool) (d k t l : Int) (nm : ByteArray) (nb : Bool) (w : World) (h1 : 0 ≤ d) (h2 : d ≤ 8) (h3 : 0 ≤ k) (h4 : k ≤ 10000) (h5 : 0 ≤ t) (h6 : t ≤ 2) (h7 : 0 ≤ l) (h8 : l ≤ 1) :
    Calls Tryd.prog 45 #[.agg #[.bool s, .int .i64 d, .int .i64 k], .agg #[.string nm, .int .i64 t, .int .i64 l, .bool nb]] w fun e w' =>
      ∃ s' d' k', e = .returned (.tuple #[.agg #[.bool s', .int .i64 d', .int .i64 k'], .bool (decide (¬ (d < t ∨ 8 < d + (l - t))))]) ∧ ((¬ (d < t ∨ 8 < d + (l - t))) → s' = s ∧ d' = d + (l - t) ∧ k' = k + 1) ∧ Gr w w' := by
  by_cases h : d < t
  · have hd : decide (d < t) = true := by simpa using h
    go_enter Tryd.func45, Tryd.ntmps45
    go_wp2
    refine bodyPost_ret (v := .tuple #[.agg #[.bool false, .int .i64 0, .int .i64 0], .bool false]) (by simp [results, Tryd.results45, go_sem]) rfl ⟨false, 0, 0, by simp [h], fun hh => absurd (Or.inl h) hh, ?_⟩
    repeat (with_reducible first | exact Gr.refl _ | refine Gr.alloc ?_ _ | refine Gr.setCell ?_ (by simp) _)
  · have hd : decide (d < t) = false := by simpa using h
    go_enter Tryd.func45, Tryd.ntmps45
    go_wp2
    go_region
    all_goals
      go_wp2
      refine bodyPost_ret (v := .tuple #[.agg #[.bool s, .int .i64 (d + (l - t)), .int .i64 (k + 1)], .bool (decide (d + (l - t) ≤ 8))]) (by simp [results, Tryd.results45, go_sem]) rfl ⟨s, d + (l - t), k + 1, by simp <;> omega, fun _ => ⟨rfl, rfl, rfl⟩, ?_⟩
      repeat (with_reducible first | exact Gr.refl _ | refine Gr.drew ?_ | refine Gr.drewN ?_ _ | refine Gr.alloc ?_ _ | refine Gr.setCell ?_ (by simp) _)
structure NxtPost (w : World) (js : List Nat) (e : Ending) (w' : World) : Prop where
  ex : ∃ a cap, e = .returned (.slice a js.length cap) ∧ IntsAt w' a (js.map fun j => ((j : Nat) : Int)) ∧ NewAt w.heap.size a ∧ Gr w w'
theorem nxt0 (w : World) (o : Obj) : NxtPost w [] (.returned (.slice none 0 0)) (w.alloc o) :=
  ⟨none, 0, rfl, IntsAt.nil _ _, NewAt.none _, (Gr.refl _).alloc _⟩
theorem nxt1 (w : World) (o : Obj) (t : TypeId) (j : Nat) (z : Int) (h : (j : Int) = z) : NxtPost w [j] (.returned (.slice (some ⟨w.heap.size + 1, 0, none⟩) 1 1)) ((w.alloc o).alloc (.cells #[.int .i64 z] t)) := by
  subst h
  refine ⟨some ⟨w.heap.size + 1, 0, none⟩, 1, rfl, ⟨by simp [maxLen], fun i z hz => ?_⟩, ⟨fun b o sp e => by cases e; omega⟩, ((Gr.refl _).alloc _).alloc _⟩
  have hi : i = 0 := by have := (List.getElem?_eq_some_iff.1 hz).1; simp at this; omega
  subst hi
  simp at hz
  subst hz
  exact ⟨_, _, rfl, by simp, (row_all (heapC w o _)).1 0⟩
theorem nxt2 (w : World) (o : Obj) (t : TypeId) (j k : Nat) (y z : Int) (h : (j : Int) = y) (h' : (k : Int) = z) : NxtPost w [j, k] (.returned (.slice (some ⟨w.heap.size + 1, 0, none⟩) 2 2)) ((w.alloc o).alloc (.cells #[.int .i64 y, .int .i64 z] t)) := by
  subst h h'
  refine ⟨some ⟨w.heap.size + 1, 0, none⟩, 2, rfl, ⟨by simp [maxLen], fun i z hz => ?_⟩, ⟨fun b o sp e => by cases e; omega⟩, ((Gr.refl _).alloc _).alloc _⟩
  have hi : i = 0 ∨ i = 1 := by have := (List.getElem?_eq_some_iff.1 hz).1; simp at this; omega
  rcases hi with rfl | rfl
  · simp at hz
    subst hz
    exact ⟨_, _, rfl, by simp, (row_all (heapC w o _)).1 0⟩
  · simp at hz
    subst hz
    exact ⟨_, _, rfl, by simp, (row_all (heapC w o _)).1 1⟩
theorem nexts_any (op n : Int) (i : Nat) (w : World) (hi : i ≤ 8000) (h0 : 0 ≤ n) (h1 : n ≤ 8000) :
    Calls Tryd.prog 47 #[.agg #[.int .i64 op, .int .i64 n], .int .i64 i] w (NxtPost w (Ver.nxts op n i)) := by
  by_cases e6 : op = 6
  · subst e6
    rw [show Ver.nxts 6 n i = [] from rfl]
    go_enter Tryd.func47, Tryd.ntmps47
    go_wp2
    go_ret
    exact nxt0 _ _
  by_cases e4 : op = 4
  · subst e4
    rw [show Ver.nxts 4 n i = [i + 1, i + 1 + n.toNat] from rfl]
    go_enter Tryd.func47, Tryd.ntmps47
    go_wp2
    go_ret
    exact nxt2 _ _ _ _ _ _ _ (by omega) (by omega)
  by_cases e5 : op = 5
  · subst e5
    rw [show Ver.nxts 5 n i = [i + 1 + n.toNat] from rfl]
    go_enter Tryd.func47, Tryd.ntmps47
    go_wp2
    go_ret
    exact nxt1 _ _ _ _ _ (by omega)
  · rw [show Ver.nxts op n i = [i + 1] by simp [Ver.nxts, e4, e5, e6]]
    go_enter Tryd.func47, Tryd.ntmps47
    go_wp2
    go_ret
    exact nxt1 _ _ _ _ _ (by omega)
theorem join_done {w w0 : World} {b n j : Nat} {on : Ver.On} {cs : Array Value} {d k v : Int} (hA : ArrAt w b n on cs) (hb : b < w.heap.size) (hj : j < n) (hg : Gr w w0) (hv : v = max (Ver.stp (on j)) k) :
    Bg b w (((w0.setCell ⟨b, j * 3, none⟩ (.bool true)).setCell ⟨b, j * 3 + 1, none⟩ (.int .i64 d)).setCell ⟨b, j * 3 + 2, none⟩ (.int .i64 v)) ∧
    ∃ cs', ArrAt (((w0.setCell ⟨b, j * 3, none⟩ (.bool true)).setCell ⟨b, j * 3 + 1, none⟩ (.int .i64 d)).setCell ⟨b, j * 3 + 2, none⟩ (.int .i64 v)) b n (Ver.joinU on j d k) cs' := by
  subst hv
  exact ⟨(((Bg.ofGr hg).setCell _ _).setCell _ _).setCell _ _, _, hA.join hj d k (heap_setCell_same _ b _ _ _ _ (heap_setCell_same _ b _ _ _ _ (heap_setCell_same w0 b _ _ _ _ ((hg.block b hb).trans hA.row))))⟩
set_option maxHeartbeats 1600000 in
theorem join_any (b n j : Nat) (on : Ver.On) (cs : Array Value) (s : Bool) (d k : Int) (w : World) (hA : ArrAt w b n on cs) (hb : b < w.heap.size) (hj : j < n) (hs : s = true) :
    Calls Tryd.prog 48 #[.pointer (some ⟨b, j * 3, none⟩), .agg #[.bool s, .int .i64 d, .int .i64 k]] w fun e w' =>
      e = .returned (.bool (Ver.may (on j) d)) ∧ Bg b w w' ∧ (Ver.may (on j) d = true → ∃ cs', ArrAt w' b n (Ver.joinU on j d k) cs') := by
  subst hs
  have c0 := ((row_all hA.row).1 _).trans (hA.some_ j hj)
  have c1 := ((row_all hA.row).1 _).trans (hA.stack j hj)
  have c2 := ((row_all hA.row).1 _).trans (hA.steps j hj)
  have f0 := (row_all hA.row).2 (j * 3)
  have f1 := (row_all hA.row).2 (j * 3 + 1)
  have f2 := (row_all hA.row).2 (j * 3 + 2)
  have hne : b ≠ w.heap.size := by omega
  cases hm : Ver.may (on j) d with
  | false =>
    have hm' := hm
    unfold Ver.may at hm'
    simp at hm'
    obtain ⟨m1, m2⟩ := hm'
    rw [m1] at c0
    have m2' : (Ver.stk (on j) != d) = true := by simpa using m2
    go_enter Tryd.func48, Tryd.ntmps48
    go_wp2
    go_quiet (fail)
    go_wp2
    go_ret
    exact ⟨rfl, Bg.ofGr (((Gr.refl _).alloc _).drewN _), fun h => by cases h⟩
  | true =>
    cases hsm : (on j).isSome with
    | true =>
      rw [hsm] at c0
      have hd : Ver.stk (on j) = d := by
        have hm' := hm
        unfold Ver.may at hm'
        simpa [hsm] using hm'
      have hd' : (Ver.stk (on j) != d) = false := by simpa using hd
      go_enter Tryd.func48, Tryd.ntmps48
      go_wp2
      go_quiet (fail)
      go_wp2
      go_region
      all_goals
        go_wp2
      all_goals
        go_ret
        exact ⟨rfl, join_done hA hb hj (by repeat (with_reducible first | exact Gr.refl _ | refine Gr.drewN ?_ _ | refine Gr.alloc ?_ _ | refine Gr.setCell ?_ (by simp) _)) (by omega)⟩
    | false =>
      rw [hsm] at c0
      go_enter Tryd.func48, Tryd.ntmps48
      go_wp2
      go_quiet (fail)
      go_wp2
      go_region
      all_goals
        go_wp2
      all_goals
        go_ret
        exact ⟨rfl, join_done hA hb hj (by repeat (with_reducible first | exact Gr.refl _ | refine Gr.drewN ?_ _ | refine Gr.alloc ?_ _ | refine Gr.setCell ?_ (by simp) _)) (by omega)⟩
end Go.Proofs.YtcpmbjlhblkniaaDoor
