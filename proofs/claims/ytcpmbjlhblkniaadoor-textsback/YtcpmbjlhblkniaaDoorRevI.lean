/- Contract: slices.Reverse of instructions. -/
import Derived.Test.YtcpmbjlhblkniaaDoorGenW
namespace Go.Proofs.YtcpmbjlhblkniaaDoor
open Go.ChangeShapes Go.WideShapes Go.ChangeAt Go.RowKit
set_option linter.unusedVariables false
set_option maxRecDepth 100000
/-- What lies at a place behind k swaps. -/
def rv (n k p : Nat) : Nat := if p < k ∨ n - k ≤ p then n - 1 - p else p
/-- Instructions in a block's cells, read at other places. -/
def Lie (cur : Array Value) (xs : List Ins) (r : Nat → Nat) : Prop := ∀ p x, p < xs.length → xs[r p]? = some x → cur[p * 2]? = some (.int .i64 x.op) ∧ cur[p * 2 + 1]? = some (.int .i64 x.n)
theorem lie_step {cur : Array Value} {xs : List Ins} {k q : Nat} {x y : Ins} (h : Lie cur xs (rv xs.length k)) (hq : k + q + 1 = xs.length) (hkq : k < q) (hx : xs[k]? = some x) (hy : xs[q]? = some y) (hs : xs.length * 2 ≤ cur.size) :
    Lie ((((cur.setIfInBounds (k * 2) (.int .i64 y.op)).setIfInBounds (k * 2 + 1) (.int .i64 y.n)).setIfInBounds (q * 2) (.int .i64 x.op)).setIfInBounds (q * 2 + 1) (.int .i64 x.n)) xs (rv xs.length (k + 1)) := fun p z hp hz => by
  simp only [Array.getElem?_setIfInBounds, Array.size_setIfInBounds]
  by_cases e1 : p = k
  · subst e1
    have e : rv xs.length (p + 1) p = q := by unfold rv; rw [if_pos (by omega)]; omega
    rw [e, hy] at hz
    cases hz
    constructor
    · rw [if_neg (by omega), if_neg (by omega), if_neg (by omega), if_pos rfl, if_pos (by omega)]
    · rw [if_neg (by omega), if_neg (by omega), if_pos rfl, if_pos (by omega)]
  · by_cases e2 : p = q
    · subst e2
      have e : rv xs.length (k + 1) p = k := by unfold rv; rw [if_pos (by omega)]; omega
      rw [e, hx] at hz
      cases hz
      constructor
      · rw [if_neg (by omega), if_pos rfl, if_pos (by omega)]
      · rw [if_pos rfl, if_pos (by omega)]
    · have e : rv xs.length (k + 1) p = rv xs.length k p := by
        unfold rv
        by_cases g : p < k ∨ xs.length - k ≤ p
        · rw [if_pos g, if_pos (by omega)]
        · rw [if_neg g, if_neg (by omega)]
      rw [e] at hz
      obtain ⟨h1, h2⟩ := h p z hp hz
      constructor
      · rw [if_neg (by omega), if_neg (by omega), if_neg (by omega), if_neg (by omega)]; exact h1
      · rw [if_neg (by omega), if_neg (by omega), if_neg (by omega), if_neg (by omega)]; exact h2
theorem lie_end {cur : Array Value} {xs : List Ins} {k : Nat} (h : Lie cur xs (rv xs.length k)) (hk : xs.length ≤ 2 * k + 1) : Lie cur xs.reverse id := fun p x hp hx => by
  rw [List.length_reverse] at hp
  refine h p x hp ?_
  have e : rv xs.length k p = xs.length - 1 - p := by unfold rv; split <;> omega
  rw [e, ← List.getElem?_reverse hp]
  exact hx
theorem lie_at {cur : Array Value} {xs : List Ins} {k q : Nat} {y : Ins} (h : Lie cur xs (rv xs.length k)) (hk : k ≤ q) (hq : k + q + 1 ≤ xs.length) (hy : xs[q]? = some y) : cur[q * 2]? = some (.int .i64 y.op) ∧ cur[q * 2 + 1]? = some (.int .i64 y.n) :=
  h q y (by omega) (by
    have e : rv xs.length k q = q := by
      unfold rv
      rw [if_neg (by omega)]
    rw [e]; exact hy)
set_option maxHeartbeats 3200000 in
theorem reverse_any (g cap : Nat) (xs : List Ins) (cur : Array Value) (w : World) (hrow : w.heap[g]? = some (.cells cur 54)) (hs : xs.length * 2 ≤ cur.size) (hc : Lie cur xs id) (hn : xs.length ≤ 100000) :
    Calls Tryd.prog 36 #[.slice (some ⟨g, 0, none⟩) xs.length cap] w fun e w' => e = .returned (.tuple #[]) ∧ (∃ cur', w'.heap[g]? = some (.cells cur' 54) ∧ Lie cur' xs.reverse id) ∧ Bg g w w' := by
  have HR : Hid _ := hrow
  have HL : Hid _ := fun (_ : Unit) => (show Lie cur xs (rv xs.length 0) from fun p x hp hx => hc p x hp (by rw [show rv xs.length 0 p = p by unfold rv; rw [if_neg (by omega)]] at hx; exact hx))
  have HS : Hid _ := hs
  obtain ⟨n, hln⟩ : ∃ n, n = xs.length := ⟨_, rfl⟩
  rw [← hln] at hn HL ⊢
  have HLN : Hid _ := hln
  have hn1 : 0 < n ∨ n = 0 := by omega
  clear hrow hc hs hln
  go_enter Tryd.func36, Tryd.ntmps36
  go_wp2_with fail
  go_loopw [2, 3] (fun t u wr => ∃ (k : Nat) (q : Int) (cu : Array Value), t = .int .i64 k ∧ u = .int .i64 q ∧ k + q + 1 = n ∧ (k : Int) ≤ q + 2 ∧ wr.heap[g]? = some (.cells cu 54) ∧ cu.size = cur.size ∧ Lie cu xs (rv n k) ∧ Bg g w wr) (fun t u _ => n - (intOf t).toNat)
  case atStart => exact ⟨0, (n : Int) - 1, cur, rfl, by go_num, by omega, by omega, HR.out, rfl, HL.out (), Bg.ofGr (Gr.refl _)⟩
  case round =>
    obtain ⟨k, q, cu, rfl, rfl, hkq, hk2, hrw, hcs, hlie, hbg⟩ := hrel
    by_cases hlt : (k : Int) < q
    · obtain ⟨q, rfl⟩ : ∃ p : Nat, q = p := ⟨q.toNat, by omega⟩
      have hkq2 : k + q + 1 = n := by omega
      have hlt2 : k < q := by omega
      have hln := HLN.out
      obtain ⟨x, hx⟩ : ∃ x, xs[k]? = some x := ⟨_, List.getElem?_eq_getElem (by omega)⟩
      obtain ⟨y, hy⟩ : ∃ y, xs[q]? = some y := ⟨_, List.getElem?_eq_getElem (by omega)⟩
      rw [hln] at hlie
      obtain ⟨x1, x2⟩ := lie_at hlie (Nat.le_refl k) (by omega) hx
      obtain ⟨y1, y2⟩ := lie_at hlie (q := q) (by omega) (by omega) hy
      have hst := lie_step hlie (by omega) hlt2 hx hy (by rw [hcs]; exact HS.out)
      rw [← hln] at hst
      obtain ⟨xo, xn⟩ := x
      obtain ⟨yo, yn⟩ := y
      simp only at x1 x2 y1 y2 hst
      have HST : Hid _ := fun (_ : Unit) => hst
      clear hst
      have r1 := ((row_all hrw).1 _).trans x1
      have r2 := ((row_all hrw).1 _).trans x2
      have r3 := ((row_all hrw).1 _).trans y1
      have r4 := ((row_all hrw).1 _).trans y2
      have fz := (row_all hrw).2
      have HRW : Hid _ := hrw
      have HBG : Hid _ := hbg
      have HCS : Hid _ := hcs
      have j1 : (k : Int) < (n : Int) := by omega
      have j2 : (q : Int) < (n : Int) := by omega
      have n1 : ¬ k = q := by omega
      clear hx hy hlie x1 x2 y1 y2 hrw hbg hcs HL HR hln hn1
      go_upto_region 3 with fail
      go_region_with (fail)
      all_goals go_wp2_with fail
      all_goals go_roundw
      all_goals first
        | (simp only [intOf]; omega)
        | (refine ⟨k + 1, (q : Int) - 1, _, by go_num, rfl, by omega, by omega, heap_setCell_same _ g (q * 2 + 1) _ _ (.int .i64 xn) (heap_setCell_same _ g (q * 2) _ _ (.int .i64 xo) (heap_setCell_same _ g (k * 2 + 1) _ _ (.int .i64 yn) (heap_setCell_same wr g (k * 2) _ _ (.int .i64 yo) HRW.out))), by simp [HCS.out], HST.out (), ?_⟩
           exact (((((HBG.out.setCell _ _).setCell _ _).setCell _ _).setCell _ _)).trans (Bg.ofGr ((Gr.refl _).drew)))
    · have hend : n ≤ 2 * k + 1 := by omega
      go_wp2_with fail
      go_end0
      rw [HLN.out] at hlie
      have hln := HLN.out
      exact ⟨rfl, ⟨cu, hrw, lie_end hlie (by omega)⟩, hbg⟩
end Go.Proofs.YtcpmbjlhblkniaaDoor
