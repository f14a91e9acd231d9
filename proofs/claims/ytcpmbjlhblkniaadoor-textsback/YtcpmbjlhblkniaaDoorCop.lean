/- Contract: answers in memory of their own. -/
import Derived.Test.YtcpmbjlhblkniaaDoorTreC
import Derived.Test.YtcpmbjlhblkniaaDoorTreV
import Derived.Test.YtcpmbjlhblkniaaDoorTreE
import Derived.Laws.MakeOwn
namespace Go.Proofs.YtcpmbjlhblkniaaDoor
open Go.ChangeShapes Go.WideShapes Go.ChangeAt Go.RowKit
set_option linter.unusedVariables false
set_option maxRecDepth 100000
theorem Tryd.infoAns : ∃ i, Tryd.prog.info? 34 = some i ∧ i.zero = some (.agg #[.int .i64 0, .bool false, .string ⟨#[]⟩, .slice none 0 0, .int .i64 0]) ∧ i.size = 5 ∧ i.bytes = 64 :=
  ⟨_, rfl, by kernel_rfl, by kernel_rfl, by kernel_rfl⟩
/-- Five cells of a block are written. -/
def set5 (cs : Array Value) (p : Nat) (x : Ans) : Array Value := ((((cs.setIfInBounds p (.int .i64 x.off)).setIfInBounds (p + 1) (.bool x.sv)).setIfInBounds (p + 2) (.string x.nm)).setIfInBounds (p + 3) (.slice x.a x.zs.length x.cap)).setIfInBounds (p + 4) (.int .i64 x.jump)
theorem heap_set5 {w : World} {b p : Nat} {t : TypeId} {cs : Array Value} (x : Ans) (h : w.heap[b]? = some (.cells cs t)) :
    (((((w.setCell ⟨b, p, none⟩ (.int .i64 x.off)).setCell ⟨b, p + 1, none⟩ (.bool x.sv)).setCell ⟨b, p + 2, none⟩ (.string x.nm)).setCell ⟨b, p + 3, none⟩ (.slice x.a x.zs.length x.cap)).setCell ⟨b, p + 4, none⟩ (.int .i64 x.jump)).heap[b]? = some (.cells (set5 cs p x) t) :=
  heap_setCell_same _ b (p + 4) _ t _ (heap_setCell_same _ b (p + 3) _ t _ (heap_setCell_same _ b (p + 2) _ t _ (heap_setCell_same _ b (p + 1) _ t _ (heap_setCell_same w b p _ t _ h))))
theorem set5_size (cs : Array Value) (p : Nat) (x : Ans) : (set5 cs p x).size = cs.size := by simp [set5]
theorem set5_at {cs : Array Value} {p : Nat} (x : Ans) (h : p + 5 ≤ cs.size) {j : Nat} (hj : j < 5) : (set5 cs p x)[p + j]? = (Ans.cells x)[j]? := by
  unfold set5 Ans.cells
  simp only [Array.getElem?_setIfInBounds, Array.size_setIfInBounds]
  match j, hj with
  | 0, _ => simp <;> omega
  | 1, _ => simp <;> omega
  | 2, _ => simp <;> omega
  | 3, _ => simp <;> omega
  | 4, _ => simp <;> omega
theorem set5_other {cs : Array Value} {p q : Nat} (x : Ans) (h : q < p ∨ p + 5 ≤ q) : (set5 cs p x)[q]? = cs[q]? := by
  unfold set5
  simp only [Array.getElem?_setIfInBounds, Array.size_setIfInBounds]
  rw [if_neg (by omega), if_neg (by omega), if_neg (by omega), if_neg (by omega), if_neg (by omega)]
/-- Copies that lie in a block so far. -/
structure CopR (w wr : World) (ob : Nat) (cs : Array Value) (n : Nat) (xs ys : List Ans) : Prop where
  gr : Gr w wr
  row : wr.heap[ob]? = some (.cells cs 34)
  size : cs.size = n * 5
  len : ys.length ≤ n
  vals : ys.map Ans.val = (xs.take ys.length).map Ans.val
  cell : ∀ (i : Nat) y, ys[i]? = some y → ∀ j, j < 5 → cs[i * 5 + j]? = (Ans.cells y)[j]?
  ok : ∀ y ∈ ys, AnsOk wr y ∧ NewAt (ob + 1) y.a
theorem AnsOk.sets {w : World} {y : Ans} (h : AnsOk w y) {n : Nat} (hn : NewAt n y.a) {p : Addr} (hp : p.block < n) (u : Value) : AnsOk (w.setCell p u) y :=
  ⟨h.off, h.jump, h.nm, h.cap, h.zs.sets hn hp u, h.wz⟩
theorem AnsOk.set5 {w : World} {y : Ans} {b p : Nat} (h : AnsOk w y) (hn : NewAt (b + 1) y.a) (u0 u1 u2 u3 u4 : Value) :
    AnsOk (((((w.setCell ⟨b, p, none⟩ u0).setCell ⟨b, p + 1, none⟩ u1).setCell ⟨b, p + 2, none⟩ u2).setCell ⟨b, p + 3, none⟩ u3).setCell ⟨b, p + 4, none⟩ u4) y :=
  ((((h.sets hn (Nat.lt_succ_self b) _).sets hn (Nat.lt_succ_self b) _).sets hn (Nat.lt_succ_self b) _).sets hn (Nat.lt_succ_self b) _).sets hn (Nat.lt_succ_self b) _
theorem CopR.step {w wr w5 : World} {ob n : Nat} {cs : Array Value} {xs ys : List Ans} (h : CopR w wr ob cs n xs ys) (hob : w.heap.size ≤ ob) (hz : ob < wr.heap.size) (g : Gr wr w5) {x y : Ans} (hx : xs[ys.length]? = some x) (hv : y.val = x.val) (hy : AnsOk w5 y) (hn : NewAt (ob + 1) y.a) (hl : ys.length < n) :
    CopR w (((((w5.setCell ⟨ob, ys.length * 5, none⟩ (.int .i64 y.off)).setCell ⟨ob, ys.length * 5 + 1, none⟩ (.bool y.sv)).setCell ⟨ob, ys.length * 5 + 2, none⟩ (.string y.nm)).setCell ⟨ob, ys.length * 5 + 3, none⟩ (.slice y.a y.zs.length y.cap)).setCell ⟨ob, ys.length * 5 + 4, none⟩ (.int .i64 y.jump)) ob (set5 cs (ys.length * 5) y) n xs (ys ++ [y]) where
  gr := (((((h.gr.trans g).setCell hob _).setCell hob _).setCell hob _).setCell hob _).setCell hob _
  row := heap_set5 y ((g.block ob hz).trans h.row)
  size := (set5_size _ _ _).trans h.size
  len := by simp; omega
  vals := by
    rw [List.map_append, h.vals, List.length_append, List.length_singleton, List.take_add_one, hx, List.map_append]
    simp [hv]
  cell := fun i z hi j hj => by
    rcases Nat.lt_trichotomy i ys.length with hlt | rfl | hgt
    · rw [List.getElem?_append_left hlt] at hi
      rw [set5_other y (by omega)]
      exact h.cell i z hi j hj
    · simp at hi
      subst hi
      exact set5_at y (by rw [h.size]; omega) hj
    · rw [List.getElem?_eq_none (by simp; omega)] at hi
      cases hi
  ok := fun z hz => by
    rcases List.mem_append.1 hz with hm | hm
    · exact ⟨((h.ok z hm).1.gr g).set5 (h.ok z hm).2 _ _ _ _ _, (h.ok z hm).2⟩
    · rw [List.mem_singleton] at hm
      subst hm
      exact ⟨hy.set5 hn _ _ _ _ _, hn⟩
theorem CopR.done {w wr : World} {ob n : Nat} {cs : Array Value} {xs ys : List Ans} (h : CopR w wr ob cs n xs ys) (hz : ob < wr.heap.size) (hn : ys.length ≤ maxLen) : FivesAt wr (some ⟨ob, 0, none⟩) ys Ans.cells := by
  obtain ⟨c, -⟩ := row_all h.row
  refine ⟨hn, fun i y hi => ⟨ob, 0, rfl, hz, ?_⟩⟩
  have k := h.cell i y hi
  rw [Nat.zero_add]
  exact ⟨(c _).trans (k 0 (by decide)), (c _).trans (k 1 (by decide)), (c _).trans (k 2 (by decide)), (c _).trans (k 3 (by decide)), (c _).trans (k 4 (by decide))⟩
set_option maxHeartbeats 1600000 in
theorem copies_any (a : Option Addr) (cap : Nat) (xs : List Ans) (w : World) (hxs : FivesAt w a xs Ans.cells) (hok : ∀ x ∈ xs, AnsOk w x ∧ x.zs.length ≤ 8000 ∧ x.nm.size ≤ 8000) (hn : xs.length ≤ 100000) :
    Calls Tryd.prog 34 #[.slice a xs.length cap] w fun e w' => ∃ (ob : Nat) (ys : List Ans), e = .returned (.slice (some ⟨ob, 0, none⟩) xs.length xs.length) ∧ ys.length = xs.length ∧ ys.map Ans.val = xs.map Ans.val ∧ FivesAt w' (some ⟨ob, 0, none⟩) ys Ans.cells ∧ (∀ y ∈ ys, AnsOk w' y) ∧ w.heap.size ≤ ob ∧ Gr w w' := by
  obtain ⟨i0, hi, hi1, hi2, hi3⟩ := Tryd.infoAns
  have hmk : ∀ W : World, (Instr.makeSlice 25 (.int .i64 (xs.length : Int)) (.int .i64 (xs.length : Int))).run Tryd.prog W = .ok (.slice (some ⟨W.heap.size, 0, none⟩) xs.length xs.length) (W.alloc (.cells (madeCells #[.int .i64 0, .bool false, .string ⟨#[]⟩, .slice none 0 0, .int .i64 0] (xs.length * 5)) 34)) := fun W => by
    have := run_makeSlice (P := Tryd.prog) W 25 34 i0 _ Tryd.underlying25 hi hi1 .i64 .i64 (xs.length : Int) (xs.length : Int) (by omega) (Int.le_refl _) (by rw [hi2]; simp; omega) (by rw [hi3]; omega) (by omega)
    rw [hi2] at this
    simpa [Value.cells] using this
  go_enter Tryd.func34, Tryd.ntmps34
  go_wp2_with fail
  obtain ⟨W0, hW0⟩ : ∃ W0, W0 = w.alloc (.cells (madeCells #[.int .i64 0, .bool false, .string ⟨#[]⟩, .slice none 0 0, .int .i64 0] (xs.length * 5)) 34) := ⟨_, rfl⟩
  have r0 : W0.heap[w.heap.size]? = some (.cells (madeCells #[.int .i64 0, .bool false, .string ⟨#[]⟩, .slice none 0 0, .int .i64 0] (xs.length * 5)) 34) := by rw [hW0]; exact heapA _ _
  have g0 : Gr w W0 := by rw [hW0]; exact (Gr.refl w).alloc _
  have z0 : w.heap.size < W0.heap.size := by rw [hW0]; simp
  rw [← hW0]
  have R0 : Hid _ := r0
  clear hW0 r0 hmk
  go_loopw [11] (fun t wr => ∃ (k : Nat) (cs : Array Value) (ys : List Ans), k ≤ xs.length ∧ t = .int .i64 k ∧ ys.length = k ∧ w.heap.size < wr.heap.size ∧ CopR w wr w.heap.size cs xs.length xs ys) (fun t _ => xs.length - (intOf t).toNat)
  case atStart => exact ⟨0, _, [], Nat.zero_le _, rfl, rfl, z0, ⟨g0, R0.out, by simp [madeCells], Nat.zero_le _, by simp, fun i y h => by simp at h, fun y h => by simp at h⟩⟩
  case round =>
    obtain ⟨k, cs, ys, hk, rfl, hy, zr, hR⟩ := hrel
    by_cases hlt : k < xs.length
    · obtain ⟨x, hx⟩ : ∃ x, xs[k]? = some x := ⟨_, List.getElem?_eq_getElem hlt⟩
      obtain ⟨b, o, rfl, hb, hc⟩ := hxs.cell k x hx
      have ho := hok x (List.mem_of_getElem? hx)
      have hc' := hc.gr hb hR.gr
      have hz' := ho.1.zs.gr hR.gr
      have h1 := ho.2.1
      have h2 := ho.2.2
      have Hx : Hid _ := hx
      have Ho : Hid _ := ho
      clear hx hc ho
      obtain ⟨off, sv, nm, a, cap0, zs, jump⟩ := x
      obtain ⟨q0, q1, q2, q3, q4⟩ := hc'
      simp [Ans.cells] at q0 q1 q2 q3 q4
      have hcs : ∀ j, j < 5 → ∃ v, cs[k * 5 + j]? = some v := fun j hj => ⟨_, Array.getElem?_eq_getElem (by rw [hR.size]; omega)⟩
      obtain ⟨v0, d0⟩ := hcs 0 (by decide)
      obtain ⟨v1, d1⟩ := hcs 1 (by decide)
      obtain ⟨v2, d2⟩ := hcs 2 (by decide)
      obtain ⟨v3, d3⟩ := hcs 3 (by decide)
      obtain ⟨v4, d4⟩ := hcs 4 (by decide)
      rw [Nat.add_zero] at d0
      clear hcs
      go_wp2_with (go_at_call 20; refine (copied_any _ _ _ _ _ _ _ _ (hz'.gr (by exact (Gr.refl _).alloc _)) h2 h1).mono ?_; rintro e w5 ⟨a5, cap5, rfl, hcap5, hnew, hz5, hg5⟩; obtain ⟨e5, f5⟩ := row_all ((hg5.block w.heap.size (by simp; omega)).trans ((Below.heap_alloc _ _ _ (by omega)).trans hR.row)))
      go_roundw
      case rel =>
        subst hy
        refine ⟨ys.length + 1, set5 cs (ys.length * 5) ⟨off, sv, nm, a5, cap5, zs, jump⟩, ys ++ [⟨off, sv, nm, a5, cap5, zs, jump⟩], by omega, by go_num, by simp, ?_, ?_⟩
        · have := hg5.size
          simp [World.setCell] at this ⊢
          omega
        · exact hR.step (y := ⟨off, sv, nm, a5, cap5, zs, jump⟩) (Nat.le_refl _) zr (((Gr.refl _).alloc _).trans hg5) Hx.out rfl ⟨Ho.out.1.off, Ho.out.1.jump, Ho.out.1.nm, hcap5, hz5, Ho.out.1.wz⟩ ⟨fun b o sp e => by have := hnew.le b o sp e; simp at this; omega⟩ hlt
      case measure => simp [intOf]; omega
    · have hk' : k = xs.length := by omega
      go_wp2
      go_ret
      refine ⟨_, ys, rfl, by omega, ?_, hR.done zr (by unfold maxLen; omega), fun y hm => (hR.ok y hm).1, Nat.le_refl _, hR.gr⟩
      rw [hR.vals, hy, hk', List.take_length]
end Go.Proofs.YtcpmbjlhblkniaaDoor
