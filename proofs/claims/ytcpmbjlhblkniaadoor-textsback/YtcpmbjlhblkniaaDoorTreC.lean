/- Contracts: an answer in memory of its own. -/
import Derived.Test.YtcpmbjlhblkniaaDoorTreS
import Derived.Test.YtcpmbjlhblkniaaDoorShelf
namespace Go.Proofs.YtcpmbjlhblkniaaDoor
open Go.ChangeShapes Go.WideShapes Go.ChangeAt Go.RowKit
set_option linter.unusedVariables false
theorem clone_any (s : ByteArray) (w : World) (hs : s.size ≤ 8000) :
    Calls Tryd.prog 40 #[.string s] w fun e w' => e = .returned (.string s) ∧ Below w.heap.size w w' := by
  have hc := Tryd.stringslite_Clone s w (by omega)
  go_enter Tryd.func40, Tryd.ntmps40
  go_wp2_with (go_at_call 65; refine hc.mono ?_; rintro e w1 ⟨rfl, hb1⟩)
  go_ret
  exact ⟨rfl, hb1⟩
theorem one_cell (zs : List Int) : ∀ u ∈ ints zs, u.oneCell' = true := by
  intro u hu
  obtain ⟨z, _, rfl⟩ := List.mem_map.1 hu
  rfl
theorem news_ints {w : World} {b o : Nat} {zs : List Int} (h : IntsAt w (some ⟨b, o, none⟩) zs) : ∀ j u, (ints zs)[j]? = some u → w.cell? ((⟨b, o, none⟩ : Addr).add j) = some u := by
  intro j u hu
  simp only [ints, List.getElem?_map, Option.map_eq_some_iff] at hu
  obtain ⟨z, hz, rfl⟩ := hu
  obtain ⟨b', o', e, _, hc⟩ := h.cell j z hz
  cases e
  rw [show (⟨b, o, none⟩ : Addr).add j = ⟨b, o + j, none⟩ from Go.WideShapes.add_plain ..]
  exact hc
theorem owns_nil (w : World) (base : Nat) (e : TypeId) (size : Nat) : w.ownsRow base e size (.slice none 0 0) 0 [] := ⟨by simp, Or.inl ⟨rfl, rfl⟩⟩
set_option maxRecDepth 100000 in
theorem Tryd.infoInt : ∃ i, Tryd.prog.info? 3 = some i ∧ i.zero = some (.int .i64 0) ∧ i.size = 1 ∧ i.bytes = 8 := by
  obtain ⟨i, hi⟩ : ∃ i, Tryd.prog.info? 3 = some i := ⟨_, rfl⟩
  exact ⟨_, rfl, by kernel_rfl, by kernel_rfl, by kernel_rfl⟩
set_option maxHeartbeats 1600000 in
theorem copied_any (off jump : Int) (sv : Bool) (nm : ByteArray) (a : Option Addr) (cap : Nat) (zs : List Int) (w : World) (hz : IntsAt w a zs) (hn : nm.size ≤ 8000) (hl : zs.length ≤ 8000) :
    Calls Tryd.prog 20 #[.agg #[.int .i64 off, .bool sv, .string nm, .slice a zs.length cap, .int .i64 jump]] w fun e w' => ∃ a' cap', e = .returned (.agg #[.int .i64 off, .bool sv, .string nm, .slice a' zs.length cap', .int .i64 jump]) ∧ zs.length ≤ cap' ∧ NewAt w.heap.size a' ∧ IntsAt w' a' zs ∧ Gr w w' := by
  go_enter Tryd.func20, Tryd.ntmps20
  go_wp2_with fail
  refine (clone_any _ _ hn).mono ?_
  rintro e w1 ⟨rfl, hb⟩
  have hg1 : Gr w w1 := (((Gr.refl w).alloc _).alloc _).trans (Gr.ofBelow hb (Nat.le_refl _))
  have k1 := (hb.block w.heap.size (by simp; omega)).trans (heapB w _ _)
  have k2 := (hb.block (w.heap.size + 1) (by simp)).trans (heapC w _ _)
  have z1 : w.heap.size + 2 ≤ w1.heap.size := by have := hb.size; simp at this; omega
  have K1 : Hid _ := k1
  have K2 : Hid _ := k2
  obtain ⟨c1, f1⟩ := row_all k1
  obtain ⟨c2, f2⟩ := row_all k2
  clear hb k1 k2
  have hz1 := hz.gr hg1
  have hz0 := hz.cell
  clear hz
  rcases zs with _ | ⟨z0, zr⟩
  · rcases a with _ | a
    all_goals
      go_wp2
      refine bodyPost_ret (v := .agg #[.int .i64 off, .bool sv, .string nm, .slice none 0 0, .int .i64 jump]) (by simp [results, Tryd.results20, go_sem, c2]) rfl ⟨none, 0, rfl, Nat.le_refl _, NewAt.none _, IntsAt.nil _ _, ?_⟩
      repeat (with_reducible first | exact hg1 | refine Gr.setCell ?_ (by simp) _)
  · obtain ⟨b, o, rfl, hb, hc⟩ := hz0 0 z0 rfl
    clear hz0
    obtain ⟨i0, hi, hi1, hi2, hi3⟩ := Tryd.infoInt
    have k1' : (w1.setCell ⟨w.heap.size, 2, none⟩ (.string nm)).heap[w.heap.size]? = some (.cells #[.int .i64 off, .bool sv, .string nm, .slice (some ⟨b, o, none⟩) (zr.length + 1) cap, .int .i64 jump] 34) := by
      have := heap_setCell_same w1 w.heap.size 2 _ _ (.string nm) K1.out
      simpa using this
    have k2' : (w1.setCell ⟨w.heap.size, 2, none⟩ (.string nm)).heap[w.heap.size + 1]? = _ := (heap_setCell_other w1 ⟨w.heap.size, 2, none⟩ (w.heap.size + 1) (.string nm) (by simp)).trans K2.out
    have K1' : Hid _ := k1'
    have K2' : Hid _ := k2'
    clear k1' k2'
    have hne : b ≠ w.heap.size := by omega
    go_wp2_with (at_builtin; (refine wpList_append_lies _ rfl _ _ _ rfl w.heap.size 3 i0 _ 1 8 Tryd.underlying24 hi hi1 hi2 hi3 rfl (by decide) (.slice none 0 0) 0 [] (by rfl) (owns_nil _ _ _ _) ⟨b, o, none⟩ (zr.length + 1) cap (ints (z0 :: zr)) (by rfl) (by simp [ints]) (news_ints (hz1.set (by exact hne) _)) (one_cell _) (by omega) (by unfold maxLen; simp at hl; omega) (by simp at hl; omega) (by simp; omega) _ rfl ?_))
    intro g cap' w2 hown hgrow hat hlt
    obtain ⟨c1', f1'⟩ := row_all ((hgrow.block w.heap.size (by simp; omega) (by simp [Value.ownBlock])).trans K1'.out)
    obtain ⟨c2', f2'⟩ := row_all ((hgrow.block (w.heap.size + 1) (by simp; omega) (by simp [Value.ownBlock])).trans K2'.out)
    have hg2 : Gr w w2 := (hg1.setCell (p := ⟨w.heap.size, 2, none⟩) (Nat.le_refl _) (.string nm)).by_ hgrow (by simp [Value.ownBlock])
    have hgv : g = w1.heap.size := by
      rcases hat with h | h
      · simp [Value.ownBlock] at h
      · simpa using h
    have g1 : g ≠ w.heap.size := by omega
    have g2 : g ≠ w.heap.size + 1 := by omega
    have g3 : w.heap.size ≤ g := by omega
    have Hown : Hid _ := hown
    clear hown hgrow hat hlt c1 f1 c2 f2 hz1 hc hgv
    go_wp2
    obtain ⟨a', cap'', e1, e2, e3⟩ := owns_ints (zs := z0 :: zr) Hown.out
    cases e1
    refine bodyPost_ret (v := .agg #[.int .i64 off, .bool sv, .string nm, .slice (some ⟨g, 0, none⟩) (zr.length + 1) cap', .int .i64 jump]) (by simp [results, Tryd.results20, go_sem, c2']) rfl ⟨some ⟨g, 0, none⟩, cap', rfl, e2, ?_, ?_, ?_⟩
    · exact ⟨fun b o sp h => by cases h; exact g3⟩
    · repeat (with_reducible first | exact e3 | refine IntsAt.set ?_ (by first | exact g1 | exact g2) _)
    · repeat (with_reducible first | exact hg2 | refine Gr.setCell ?_ (by simp) _)
end Go.Proofs.YtcpmbjlhblkniaaDoor
