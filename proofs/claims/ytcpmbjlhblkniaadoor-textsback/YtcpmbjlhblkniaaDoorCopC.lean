/- Contract: answers in memory of their own (package code's). -/
import Derived.Test.YtcpmbjlhblkniaaDoorCop
import Derived.Test.YtcpmbjlhblkniaaDoorCodC
namespace Go.Proofs.YtcpmbjlhblkniaaDoor
open Go.ChangeShapes Go.WideShapes Go.ChangeAt Go.RowKit
set_option linter.unusedVariables false
set_option maxRecDepth 100000
set_option maxHeartbeats 1600000 in
theorem copies2_any (a : Option Addr) (cap : Nat) (xs : List Ans) (w : World) (hxs : FivesAt w a xs Ans.cells) (hok : ∀ x ∈ xs, AnsOk w x ∧ x.zs.length ≤ 8000 ∧ x.nm.size ≤ 8000) (hn : xs.length ≤ 100000) :
    Calls Tryd.prog 37 #[.slice a xs.length cap] w fun e w' => ∃ (ob : Nat) (ys : List Ans), e = .returned (.slice (some ⟨ob, 0, none⟩) xs.length xs.length) ∧ ys.length = xs.length ∧ ys.map Ans.val = xs.map Ans.val ∧ FivesAt w' (some ⟨ob, 0, none⟩) ys Ans.cells ∧ (∀ y ∈ ys, AnsOk w' y) ∧ w.heap.size ≤ ob ∧ Gr w w' := by
  obtain ⟨i0, hi, hi1, hi2, hi3⟩ := Tryd.infoAns
  have hmk : ∀ W : World, (Instr.makeSlice 25 (.int .i64 (xs.length : Int)) (.int .i64 (xs.length : Int))).run Tryd.prog W = .ok (.slice (some ⟨W.heap.size, 0, none⟩) xs.length xs.length) (W.alloc (.cells (madeCells #[.int .i64 0, .bool false, .string ⟨#[]⟩, .slice none 0 0, .int .i64 0] (xs.length * 5)) 34)) := fun W => by
    have := run_makeSlice (P := Tryd.prog) W 25 34 i0 _ Tryd.underlying25 hi hi1 .i64 .i64 (xs.length : Int) (xs.length : Int) (by omega) (Int.le_refl _) (by rw [hi2]; simp; omega) (by rw [hi3]; omega) (by omega)
    rw [hi2] at this
    simpa [Value.cells] using this
  go_enter Tryd.func37, Tryd.ntmps37
  go_wp2_with fail
  obtain ⟨W0, hW0⟩ : ∃ W0, W0 = w.alloc (.cells (madeCells #[.int .i64 0, .bool false, .string ⟨#[]⟩, .slice none 0 0, .int .i64 0] (xs.length * 5)) 34) := ⟨_, rfl⟩
  have r0 : W0.heap[w.heap.size]? = some (.cells (madeCells #[.int .i64 0, .bool false, .string ⟨#[]⟩, .slice none 0 0, .int .i64 0] (xs.length * 5)) 34) := by rw [hW0]; exact heapA _ _
  have g0 : Gr w W0 := by rw [hW0]; exact (Gr.refl w).alloc _
  have z0 : w.heap.size < W0.heap.size := by rw [hW0]; simp
  rw [← hW0]
  have R0 : Hid _ := r0
  clear hW0 r0 hmk
  go_loopw [11] (fun t wr => ∃ (k : Nat) (cs : Array Value) (ys : List Ans), k ≤ xs.length ∧ t = .int .i64 k ∧ ys.length = k ∧ w.heap.size < wr.heap.size ∧ CopR w wr w.heap.size cs xs.length xs ys) (fun t _ => xs.length - (intOf t).toNat)
  case atStart => exact ⟨0, _, [], Nat.zero_le _, rfl, rfl, z0, ⟨g0, R0.out, by simp [madeCells], Nat.zero_le _, by simp, fun i y h => by simp at h, fun y h => by simp at h⟩⟩
  case round =>
    obtain ⟨k, cs, ys, hk, rfl, hy, zr, hR⟩ := hrel
    by_cases hlt : k < xs.length
    · obtain ⟨x, hx⟩ : ∃ x, xs[k]? = some x := ⟨_, List.getElem?_eq_getElem hlt⟩
      obtain ⟨b, o, rfl, hb, hc⟩ := hxs.cell k x hx
      have ho := hok x (List.mem_of_getElem? hx)
      have hc' := hc.gr hb hR.gr
      have hz' := ho.1.zs.gr hR.gr
      have h1 := ho.2.1
      have h2 := ho.2.2
      have Hx : Hid _ := hx
      have Ho : Hid _ := ho
      clear hx hc ho
      obtain ⟨off, sv, nm, a, cap0, zs, jump⟩ := x
      obtain ⟨q0, q1, q2, q3, q4⟩ := hc'
      simp [Ans.cells] at q0 q1 q2 q3 q4
      have hcs : ∀ j, j < 5 → ∃ v, cs[k * 5 + j]? = some v := fun j hj => ⟨_, Array.getElem?_eq_getElem (by rw [hR.size]; omega)⟩
      obtain ⟨v0, d0⟩ := hcs 0 (by decide)
      obtain ⟨v1, d1⟩ := hcs 1 (by decide)
      obtain ⟨v2, d2⟩ := hcs 2 (by decide)
      obtain ⟨v3, d3⟩ := hcs 3 (by decide)
      obtain ⟨v4, d4⟩ := hcs 4 (by decide)
      rw [Nat.add_zero] at d0
      clear hcs
      go_wp2_with (go_at_call 18; refine (copied2_any _ _ _ _ _ _ _ _ (hz'.gr (by exact (Gr.refl _).alloc _)) h2 h1).mono ?_; rintro e w5 ⟨a5, cap5, rfl, hcap5, hnew, hz5, hg5⟩; obtain ⟨e5, f5⟩ := row_all ((hg5.block w.heap.size (by simp; omega)).trans ((Below.heap_alloc _ _ _ (by omega)).trans hR.row)))
      go_roundw
      case rel =>
        subst hy
        refine ⟨ys.length + 1, set5 cs (ys.length * 5) ⟨off, sv, nm, a5, cap5, zs, jump⟩, ys ++ [⟨off, sv, nm, a5, cap5, zs, jump⟩], by omega, by go_num, by simp, ?_, ?_⟩
        · have := hg5.size
          simp [World.setCell] at this ⊢
          omega
        · exact hR.step (y := ⟨off, sv, nm, a5, cap5, zs, jump⟩) (Nat.le_refl _) zr (((Gr.refl _).alloc _).trans hg5) Hx.out rfl ⟨Ho.out.1.off, Ho.out.1.jump, Ho.out.1.nm, hcap5, hz5, Ho.out.1.wz⟩ ⟨fun b o sp e => by have := hnew.le b o sp e; simp at this; omega⟩ hlt
      case measure => simp [intOf]; omega
    · have hk' : k = xs.length := by omega
      go_wp2
      go_ret
      refine ⟨_, ys, rfl, by omega, ?_, hR.done zr (by unfold maxLen; omega), fun y hm => (hR.ok y hm).1, Nat.le_refl _, hR.gr⟩
      rw [hR.vals, hy, hk', List.take_length]
end Go.Proofs.YtcpmbjlhblkniaaDoor
