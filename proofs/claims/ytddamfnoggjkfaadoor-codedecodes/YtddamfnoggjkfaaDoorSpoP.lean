/- Contract: ProgramOf (P5.6), by the document: what is refused ahead of all numbers. -/
import Derived.Test.YtddamfnoggjkfaaDoorSamP
import Derived.Test.YtddamfnoggjkfaaDoorSpoM
import Derived.Test.YtddamfnoggjkfaaDoorVerR
namespace Go.Proofs.YtddamfnoggjkfaaDoor
open Go.ChangeShapes Go.WideShapes Go.ChangeAt Go.RowKit
set_option linter.unusedVariables false
theorem take3 {l : List Int} (h : 3 ≤ l.length) : (l.take 3).length = 3 := by rw [List.length_take]; omega
set_option maxRecDepth 100000 in
set_option maxHeartbeats 3200000 in
theorem programOf_no (l : List Int) (a : Option Addr) (cap : Nat) (w : World) (hb : BysAt w a l) (hby : ∀ z ∈ l, 0 ≤ z ∧ z ≤ 255) (hc : l.length ≤ cap) (hc2 : cap ≤ 9223372036854775807) (hno : 200000 < l.length ∨ l.length < 3 ∨ l.take 3 ≠ [115, 100, 49]) :
    Calls Tryd.prog 9 #[.slice a l.length cap] w (DecPost l w) := by
  by_cases hlong : 200000 < l.length
  · have E1 : Hid _ := decE_long hlong
    have g : decide (200000 < ((l.length : Nat) : Int)) = true := by rw [decide_eq_true_iff]; omega
    clear hb hlong hno
    go_enter Tryd.func9, Tryd.ntmps9
    go_wp2
    refine bodyPost_ret (v := .tuple #[.agg #[.slice none 0 0, .slice none 0 0, .slice none 0 0], .int .i64 1]) (by simp [results, Tryd.results9, go_sem]) rfl (decPost_no E1.out (by decide) rfl ?_)
    repeat (with_reducible first | exact Gr.refl _ | refine Gr.alloc ?_ _ | refine Gr.setCell ?_ (by simp) _)
  · have g : decide (200000 < ((l.length : Nat) : Int)) = false := by rw [decide_eq_false_iff_not]; omega
    by_cases hs : l.length < 3
    · have E1 : Hid _ := (decE_bad hlong (by rw [Dec.prog_short hs]; decide)).trans (Dec.prog_short hs)
      have g2 : decide (((l.length : Nat) : Int) < 3) = true := by rw [decide_eq_true_iff]; omega
      clear hb hlong hno hs
      go_enter Tryd.func9, Tryd.ntmps9
      go_wp2
      refine bodyPost_ret (v := .tuple #[.agg #[.slice none 0 0, .slice none 0 0, .slice none 0 0], .int .i64 5]) (by simp [results, Tryd.results9, go_sem]) rfl (decPost_no E1.out (by decide) rfl ?_)
      repeat (with_reducible first | exact Gr.refl _ | refine Gr.alloc ?_ _ | refine Gr.setCell ?_ (by simp) _)
    · have hh : l.take 3 ≠ [115, 100, 49] := by rcases hno with h | h | h; exact absurd h hlong; exact absurd h hs; exact h
      have E1 : Hid _ := (decE_bad hlong (by rw [Dec.prog_head hs hh]; decide)).trans (Dec.prog_head hs hh)
      have g2 : decide (((l.length : Nat) : Int) < 3) = false := by rw [decide_eq_false_iff_not]; omega
      have hst := head_eq (fun x hx => hby x (List.mem_of_mem_take hx)) hh
      obtain ⟨z, hz⟩ : ∃ z, l[0]? = some z := ⟨_, List.getElem?_eq_getElem (by omega)⟩
      obtain ⟨ab, ao, rfl, _, _⟩ := hb.cell 0 z hz
      have hcv : ∀ (W' : World) (c : Nat), Gr w W' → (convert 27 9 (.slice (some ⟨ab, ao, none⟩) 3 c)).run Tryd.prog W' = .ok (.string (Dec.bst (l.take 3))) W' := fun W' c hg => by
        have := run_bstA (cap := c) (hb.take 3) hg (fun x hx => hby x (List.mem_of_mem_take hx))
        rw [take3 (by omega)] at this
        exact this
      have hcw := fun (c : Nat) => hcv (w.alloc (Obj.cells #[.slice none 0 0, .slice none 0 0, .slice none 0 0] 26)) c ((Gr.refl _).alloc _)
      have i1 : (3 : Int) ≤ (cap : Int) := by omega
      have i2 : 3 ≤ cap := by omega
      clear hb hlong hno hh hcv hz
      go_enter Tryd.func9, Tryd.ntmps9
      go_wp2
      refine bodyPost_ret (v := .tuple #[.agg #[.slice none 0 0, .slice none 0 0, .slice none 0 0], .int .i64 4]) (by simp [results, Tryd.results9, go_sem]) rfl (decPost_no E1.out (by decide) rfl ?_)
      repeat (with_reducible first | exact Gr.refl _ | refine Gr.alloc ?_ _ | refine Gr.setCell ?_ (by simp) _)
end Go.Proofs.YtddamfnoggjkfaaDoor
