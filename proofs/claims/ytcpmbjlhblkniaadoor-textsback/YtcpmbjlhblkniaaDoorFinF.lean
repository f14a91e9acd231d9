/- Contracts: a finder of nodes is made; it tells its list. -/
import Derived.Test.YtcpmbjlhblkniaaDoorFinP
namespace Go.Proofs.YtcpmbjlhblkniaaDoor
open Go.ChangeShapes Go.WideShapes Go.ChangeAt Go.RowKit Go.Maps
set_option linter.unusedVariables false
set_option maxRecDepth 100000
theorem heap4 (w : World) (o1 o2 o3 o4 : Obj) : ((((w.alloc o1).alloc o2).alloc o3).alloc o4).heap[w.heap.size]? = some o1 ∧ ((((w.alloc o1).alloc o2).alloc o3).alloc o4).heap[w.heap.size + 1]? = some o2 ∧ ((((w.alloc o1).alloc o2).alloc o3).alloc o4).heap[w.heap.size + 1 + 1]? = some o3 ∧ ((((w.alloc o1).alloc o2).alloc o3).alloc o4).heap[w.heap.size + 1 + 1 + 1]? = some o4 := by
  refine ⟨?_, ?_, ?_, ?_⟩
  · rw [Below.heap_alloc _ _ _ (by simp <;> omega), Below.heap_alloc _ _ _ (by simp <;> omega), Below.heap_alloc _ _ _ (by simp)]; exact heapA w o1
  · rw [Below.heap_alloc _ _ _ (by simp <;> omega), Below.heap_alloc _ _ _ (by simp)]; simpa using heapA (w.alloc o1) o2
  · rw [Below.heap_alloc _ _ _ (by simp)]; simpa using heapA ((w.alloc o1).alloc o2) o3
  · simpa using heapA (((w.alloc o1).alloc o2).alloc o3) o4
theorem fin_made (w : World) : FinN ((((w.alloc (.cells #[.func (.func 62) #[] #[]] 133)).alloc (.map #[] 0)).alloc (.cells #[.map (some (w.heap.size + 1))] 151)).alloc (.cells #[.slice none 0 0] 40)) w.heap.size (w.heap.size + 1 + 1) (w.heap.size + 1 + 1 + 1) (w.heap.size + 1) (w.heap.size + 4) (.slice none 0 0) [] (.map []) := by
  obtain ⟨h1, h2, h3, h4⟩ := heap4 w (.cells #[.func (.func 62) #[] #[]] 133) (.map #[] 0) (.cells #[.map (some (w.heap.size + 1))] 151) (.cells #[.slice none 0 0] 40)
  refine ⟨h1, h3, h4, ⟨by simp [nodL], Or.inl ⟨rfl, rfl⟩⟩, ?_, isMap_empty, fun n hn => by simp at hn, fun n l _ => ?_, fun i n l h => by simp at h, List.nodup_nil, by omega, by omega, by omega, by omega, by omega, by omega, by simp⟩
  · obtain ⟨es, cl, e1, e2⟩ := World.ownsMap_made (H := Unit) (w.alloc (.cells #[.func (.func 62) #[] #[]] 133)) Tryd.prog 65 (plainElem Tryd.prog 3)
    have e3 := (heapA (w.alloc (.cells #[.func (.func 62) #[] #[]] 133)) (.map #[] 0)).symm.trans e1
    cases e3
    exact ⟨#[], 0, h2, e2⟩
  · simp [Maps.has]
set_option maxHeartbeats 1600000 in
theorem finder_any (w : World) :
    Calls Tryd.prog 61 #[.func (.func 62) #[] #[]] w fun e w' =>
      ∃ kb mb lb M base, e = .returned (.tuple #[.func (.func 79) #[] #[.pointer (some ⟨kb, 0, none⟩), .pointer (some ⟨mb, 0, none⟩), .pointer (some ⟨lb, 0, none⟩)], .func (.func 80) #[] #[.pointer (some ⟨lb, 0, none⟩)]]) ∧
        FinN w' kb mb lb M base (.slice none 0 0) [] (.map []) ∧ w.heap.size ≤ kb ∧ w.heap.size ≤ lb ∧ w.heap.size ≤ M ∧ base ≤ w'.heap.size ∧ Gr w w' := by
  have hmm := @run_makeMap Tryd.prog
  go_enter Tryd.func61, Tryd.ntmps61
  go_wp2
  go_ret2
  exact ⟨w.heap.size, w.heap.size + 1 + 1, w.heap.size + 1 + 1 + 1, w.heap.size + 1, w.heap.size + 4, rfl, fin_made w, by omega, by omega, by omega, by simp, (((Gr.refl _).alloc _).alloc _).alloc _ |>.alloc _⟩
set_option maxHeartbeats 1600000 in
theorem listed_any (kb mb lb M base : Nat) (v : Value) (ns : List Tre.Nod) (D : DataW Unit) (w : World) (hF : FinN w kb mb lb M base v ns D) :
    Calls Tryd.prog 80 #[.pointer (some ⟨lb, 0, none⟩)] w fun e w' => e = .returned v ∧ w' = w := by
  obtain ⟨va, vcap, rfl⟩ := row_form hF.row
  obtain ⟨c, _⟩ := row_all hF.lbox
  clear hF
  go_enter Tryd.func80, Tryd.ntmps80
  go_wp2
  go_ret
  exact ⟨rfl, rfl⟩
end Go.Proofs.YtcpmbjlhblkniaaDoor
