/- Contract: the bounds of a forest. -/
import Derived.Test.YtcpmbjlhblkniaaTreC
namespace Go.Proofs.Ytcpmbjlhblkniaa
open Go.ChangeShapes Go.WideShapes Go.ChangeAt Go.RowKit
set_option linter.unusedVariables false
def bnd (l : List Tre.Nod) : List Int := (l.filter fun n => !n.leaf).map fun n => n.bound
theorem bnd_leaf {l : List Tre.Nod} {k : Nat} {a b c d : Int} (h : l[k]? = some ⟨true, a, b, c, d⟩) : bnd (l.take (k + 1)) = bnd (l.take k) := by
  rw [List.take_add_one, h]; simp [bnd]
theorem bnd_node {l : List Tre.Nod} {k : Nat} {a b c d : Int} (h : l[k]? = some ⟨false, a, b, c, d⟩) : bnd (l.take (k + 1)) = bnd (l.take k) ++ [b] := by
  rw [List.take_add_one, h]; simp [bnd]
theorem bnd_len (l : List Tre.Nod) (k : Nat) (hk : k ≤ l.length) : (bnd (l.take k)).length ≤ k := by
  unfold bnd
  rw [List.length_map]
  have h1 := List.length_filter_le (fun n : Tre.Nod => !n.leaf) (l.take k)
  have h2 : (l.take k).length ≤ k := List.length_take_le _ _
  omega
theorem bnd_wf {l : List Tre.Nod} (h : ∀ n ∈ l, NodOk n) : ∀ z ∈ bnd l, (Lit.int .i64 z).wf = true := by
  intro z hz
  obtain ⟨n, hn, rfl⟩ := List.mem_map.1 hz
  exact (h n (List.mem_filter.1 hn).1).bound
theorem ints_app (a b : List Int) : ints (a ++ b) = ints a ++ ints b := by simp [ints]
set_option maxHeartbeats 1600000 in
theorem bounds_any (f : Fst) (w : World) (hf : FstOk w f) (hr : f.nodes.length * 40 ≤ 140737488351232) :
    Calls Try.prog 7 #[.agg f.cells.toArray] w fun e w' => ∃ a cap zs, e = .returned (.slice a zs.length cap) ∧ IntsAt w' a zs ∧ (∀ z ∈ zs, (Lit.int .i64 z).wf = true) ∧ zs = bnd f.nodes ∧ Gr w w' := by
  obtain ⟨na, ncap, nodes, aa, acap, answers⟩ := f
  have l1 := hf.nat.len
  unfold maxLen at l1
  have hwf := bnd_wf hf.nok
  simp only [Fst.cells] at l1 hr hwf ⊢
  have HW : Hid _ := hwf
  clear hwf
  go_enter Try.func7, Try.ntmps7
  go_wp2_with fail
  obtain ⟨w1, hw1⟩ : ∃ w1, w1 = w.alloc (Obj.cells #[.slice na nodes.length ncap, .slice aa answers.length acap] 25) := ⟨_, rfl⟩
  have hg1 : Gr w w1 := by rw [hw1]; exact (Gr.refl _).alloc _
  have k1 : w1.heap[w.heap.size]? = some (.cells #[.slice na nodes.length ncap, .slice aa answers.length acap] 25) := by rw [hw1]; exact heapA w _
  have z1 : w.heap.size + 1 ≤ w1.heap.size := by rw [hw1]; simp
  rw [← hw1]
  clear hw1
  have K1 : Hid _ := k1
  clear k1
  obtain ⟨i0, hi, hi1, hi2, hi3⟩ := Try.infoInt
  go_loopw [3, 4] (fun v t wr => ∃ k : Nat, k ≤ nodes.length ∧ t = .int .i64 k ∧ Gr w wr ∧ w.heap.size + 1 ≤ wr.heap.size ∧ wr.ownsRow (w.heap.size + 1) 3 1 v (bnd (nodes.take k)).length (ints (bnd (nodes.take k))) ∧ wr.heap[w.heap.size]? = some (.cells #[.slice na nodes.length ncap, .slice aa answers.length acap] 25)) (fun _ t _ => nodes.length - (intOf t).toNat)
  case atStart => exact ⟨0, Nat.zero_le _, rfl, hg1, z1, owns_nil _ _ _ _, K1.out⟩
  case round =>
    obtain ⟨k, hk, rfl, hgr, zr, hown, k1⟩ := hrel
    have R1 : Hid _ := k1
    have Hown : Hid _ := hown
    obtain ⟨c1, f1⟩ := row_all k1
    have hbl := bnd_len nodes k hk
    clear k1 hown
    by_cases hlt : k < nodes.length
    · obtain ⟨x, hx⟩ : ∃ x, nodes[k]? = some x := ⟨_, List.getElem?_eq_getElem hlt⟩
      obtain ⟨b, o, rfl, hb, hc⟩ := hf.nat.cell k x hx
      obtain ⟨q0, q1, q2, q3, q4⟩ := hc.gr hb hgr
      obtain ⟨leaf, a, bo, l, m⟩ := x
      simp [Nod.cells] at q0 q1 q2 q3 q4
      have Hx : Hid _ := hx
      have hne : b ≠ w.heap.size := by omega
      have hb' := Nat.lt_of_lt_of_le hb hgr.size
      clear hx hc q1 q3 q4
      cases leaf with
      | true =>
        have Hend : Hid _ := bnd_leaf Hx.out
        go_wp2
        go_roundw
        case rel => exact ⟨k + 1, by omega, by go_num, hgr, zr, by rw [Hend.out]; exact Hown.out, R1.out⟩
        case measure => simp [intOf]; omega
      | false =>
        have Hb : Hid _ := bnd_node Hx.out
        go_wp2_with (at_builtin; (refine wpList_append_lies _ rfl _ _ _ rfl (w.heap.size + 1) 3 i0 _ 1 8 Try.underlying27 hi hi1 hi2 hi3 rfl (by decide) _ (bnd (nodes.take k)).length (ints (bnd (nodes.take k))) (by rfl) (owns_gr Hown.out (by exact (Gr.refl _).alloc _)) ⟨_, 0, none⟩ 1 1 [.int .i64 bo] (by rfl) (by rfl) (World.news_of_block (cs := #[.int .i64 bo]) (heapA _ _)) (by simp [Value.oneCell']) (by omega) (by unfold maxLen; omega) (by omega) (by simp; omega) _ rfl ?_))
        intro g cap' w2 hown2 hgrow hat hlt2
        have hrow : ∀ x, Value.ownBlock _ = some x → w.heap.size + 1 ≤ x := fun x hx => (owns_lt Hown.out hx).1
        have h1 := (hgrow.block w.heap.size (by simp; omega) (fun e => by have := hrow _ e.symm; omega)).trans ((Below.heap_alloc _ _ _ (by omega)).trans R1.out)
        have hg2 : Gr w w2 := (hgr.alloc _).by_ hgrow (fun x hx => by have := hrow x hx; omega)
        have hs2 := hgrow.size
        simp at hs2
        have hown3 : w2.ownsRow (w.heap.size + 1) 3 1 (.slice (some ⟨g, 0, none⟩) ((bnd (nodes.take k)).length + 1) cap') (bnd (nodes.take (k + 1))).length (ints (bnd (nodes.take (k + 1)))) := by
          rw [Hb.out, ints_app, List.length_append]; exact hown2
        have Hend : Hid _ := And.intro hg2 (And.intro (show w.heap.size + 1 ≤ w2.heap.size by omega) (And.intro hown3 h1))
        clear hown2 hown3 hgrow hat hlt2 h1 hg2 hs2 hrow c1 f1
        go_wp2
        go_roundw
        case rel => exact ⟨k + 1, by omega, by go_num, Hend.out⟩
        case measure => simp [intOf]; omega
    · have hk' : k = nodes.length := by omega
      subst hk'
      have Ho := Hown.out
      rw [List.take_length] at Ho
      obtain ⟨a', cap', rfl, e2, e3⟩ := owns_ints Ho
      have E3 : Hid _ := e3
      clear Hown Ho R1 K1 e3
      go_wp2
      go_ret
      exact ⟨a', cap', _, rfl, E3.out, HW.out, rfl, hgr⟩
end Go.Proofs.Ytcpmbjlhblkniaa
