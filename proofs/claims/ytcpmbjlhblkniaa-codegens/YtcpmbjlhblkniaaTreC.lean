/- Contracts: an answer in memory of its own. -/
import Derived.Test.YtcpmbjlhblkniaaTreS
import Derived.Test.YtcpmbjlhblkniaaShelf
namespace Go.Proofs.Ytcpmbjlhblkniaa
open Go.ChangeShapes Go.WideShapes Go.ChangeAt Go.RowKit
set_option linter.unusedVariables false
theorem clone_any (s : ByteArray) (w : World) (hs : s.size ≤ 8000) :
    Calls Try.prog 33 #[.string s] w fun e w' => e = .returned (.string s) ∧ Below w.heap.size w w' := by
  have hc := Try.stringslite_Clone s w (by omega)
  go_enter Try.func33, Try.ntmps33
  go_wp2_with (go_at_call 34; refine hc.mono ?_; rintro e w1 ⟨rfl, hb1⟩)
  go_ret
  exact ⟨rfl, hb1⟩
theorem one_cell (zs : List Int) : ∀ u ∈ ints zs, u.oneCell' = true := by
  intro u hu
  obtain ⟨z, _, rfl⟩ := List.mem_map.1 hu
  rfl
theorem news_ints {w : World} {b o : Nat} {zs : List Int} (h : IntsAt w (some ⟨b, o, none⟩) zs) : ∀ j u, (ints zs)[j]? = some u → w.cell? ((⟨b, o, none⟩ : Addr).add j) = some u := by
  intro j u hu
  simp only [ints, List.getElem?_map, Option.map_eq_some_iff] at hu
  obtain ⟨z, hz, rfl⟩ := hu
  obtain ⟨b', o', e, _, hc⟩ := h.cell j z hz
  cases e
  rw [show (⟨b, o, none⟩ : Addr).add j = ⟨b, o + j, none⟩ from Go.WideShapes.add_plain ..]
  exact hc
theorem owns_nil (w : World) (base : Nat) (e : TypeId) (size : Nat) : w.ownsRow base e size (.slice none 0 0) 0 [] := ⟨by simp, Or.inl ⟨rfl, rfl⟩⟩
set_option maxRecDepth 100000 in
theorem Try.infoInt : ∃ i, Try.prog.info? 3 = some i ∧ i.zero = some (.int .i64 0) ∧ i.size = 1 ∧ i.bytes = 8 := by
  obtain ⟨i, hi⟩ : ∃ i, Try.prog.info? 3 = some i := ⟨_, rfl⟩
  exact ⟨_, rfl, by kernel_rfl, by kernel_rfl, by kernel_rfl⟩
set_option maxHeartbeats 1600000 in
theorem answerCopy_any (off jump : Int) (sv : Bool) (nm : ByteArray) (a : Option Addr) (cap : Nat) (zs : List Int) (w : World) (hz : IntsAt w a zs) (hl : zs.length ≤ 8000) :
    Calls Try.prog 18 #[.agg #[.int .i64 off, .bool sv, .string nm, .slice a zs.length cap, .int .i64 jump]] w fun e w' => ∃ a' cap', e = .returned (.agg #[.int .i64 off, .bool sv, .string nm, .slice a' zs.length cap', .int .i64 jump]) ∧ zs.length ≤ cap' ∧ NewAt w.heap.size a' ∧ IntsAt w' a' zs ∧ Gr w w' := by
  go_enter Try.func18, Try.ntmps18
  go_wp2_with fail
  obtain ⟨w1, hw1⟩ : ∃ w1, w1 = (w.alloc (Obj.cells #[.int .i64 off, .bool sv, .string nm, .slice a zs.length cap, .int .i64 jump] 39)).alloc (Obj.cells #[.int .i64 0, .bool false, .string ⟨#[]⟩, .slice none 0 0, .int .i64 0] 39) := ⟨_, rfl⟩
  have hg1 : Gr w w1 := by rw [hw1]; exact ((Gr.refl _).alloc _).alloc _
  have k1 : w1.heap[w.heap.size]? = some (.cells #[.int .i64 off, .bool sv, .string nm, .slice a zs.length cap, .int .i64 jump] 39) := by rw [hw1]; exact heapB w _ _
  have k2 : w1.heap[w.heap.size + 1]? = some (.cells #[.int .i64 0, .bool false, .string ⟨#[]⟩, .slice none 0 0, .int .i64 0] 39) := by rw [hw1]; exact heapC w _ _
  have z1 : w.heap.size + 2 ≤ w1.heap.size := by rw [hw1]; simp
  rw [← hw1]
  clear hw1
  have K1 : Hid _ := k1
  have K2 : Hid _ := k2
  clear k1 k2
  obtain ⟨i0, hi, hi1, hi2, hi3⟩ := Try.infoInt
  go_loopw [3, 4] (fun v t wr => ∃ k : Nat, k ≤ zs.length ∧ t = .int .i64 k ∧ Gr w wr ∧ w.heap.size + 2 ≤ wr.heap.size ∧ wr.ownsRow (w.heap.size + 2) 3 1 v k (ints (zs.take k)) ∧ wr.heap[w.heap.size]? = some (.cells #[.int .i64 off, .bool sv, .string nm, .slice a zs.length cap, .int .i64 jump] 39) ∧ wr.heap[w.heap.size + 1]? = some (.cells #[.int .i64 0, .bool false, .string ⟨#[]⟩, .slice none 0 0, .int .i64 0] 39)) (fun _ t _ => zs.length - (intOf t).toNat)
  case atStart => exact ⟨0, Nat.zero_le _, rfl, hg1, z1, owns_nil _ _ _ _, K1.out, K2.out⟩
  case round =>
    obtain ⟨k, hk, rfl, hgr, zr, hown, k1, k2⟩ := hrel
    have R1 : Hid _ := k1
    have R2 : Hid _ := k2
    have Hown : Hid _ := hown
    obtain ⟨c1, f1⟩ := row_all k1
    obtain ⟨c2, f2⟩ := row_all k2
    clear k1 k2 hown
    by_cases hlt : k < zs.length
    · obtain ⟨z, hz1⟩ : ∃ z, zs[k]? = some z := ⟨_, List.getElem?_eq_getElem hlt⟩
      obtain ⟨b, o, rfl, hb, hc⟩ := (hz.gr hgr).cell k z hz1
      have Hz : Hid _ := hz1
      clear hz1
      go_wp2_with (at_builtin; (refine wpList_append_lies _ rfl _ _ _ rfl (w.heap.size + 2) 3 i0 _ 1 8 Try.underlying27 hi hi1 hi2 hi3 rfl (by decide) _ k (ints (zs.take k)) (by rfl) (owns_gr Hown.out (by exact (Gr.refl _).alloc _)) ⟨_, 0, none⟩ 1 1 [.int .i64 z] (by rfl) (by rfl) (World.news_of_block (cs := #[.int .i64 z]) (heapA _ _)) (by simp [Value.oneCell']) (by omega) (by unfold maxLen; omega) (by omega) (by simp; omega) _ rfl ?_))
      intro g cap' w2 hown2 hgrow hat hlt2
      have hrow : ∀ x, Value.ownBlock _ = some x → w.heap.size + 2 ≤ x := fun x hx => (owns_lt Hown.out hx).1
      have h1 := (hgrow.block w.heap.size (by simp; omega) (fun e => by have := hrow _ e.symm; omega)).trans ((Below.heap_alloc _ _ _ (by omega)).trans R1.out)
      have h2 := (hgrow.block (w.heap.size + 1) (by simp; omega) (fun e => by have := hrow _ e.symm; omega)).trans ((Below.heap_alloc _ _ _ (by omega)).trans R2.out)
      have hg2 : Gr w w2 := (hgr.alloc _).by_ hgrow (fun x hx => by have := hrow x hx; omega)
      have hs2 := hgrow.size
      simp at hs2
      rw [← ints_snoc Hz.out] at hown2
      have Hend : Hid _ := And.intro hg2 (And.intro (show w.heap.size + 2 ≤ w2.heap.size by omega) (And.intro hown2 (And.intro h1 h2)))
      clear hown2 hgrow hat hlt2 h1 h2 hg2 hs2 hrow c1 f1 c2 f2 hc
      go_wp2
      go_roundw
      case rel => exact ⟨k + 1, by omega, by go_num, Hend.out⟩
      case measure => simp [intOf]; omega
    · have hk' : k = zs.length := by omega
      subst hk'
      have Ho := Hown.out
      rw [List.take_length] at Ho
      obtain ⟨a', cap', rfl, e2, e3⟩ := owns_ints Ho
      have hne : ∀ g, (Value.slice a' zs.length cap').ownBlock = some g → g ≠ w.heap.size ∧ g ≠ w.heap.size + 1 := fun g hg => by
        have := (owns_lt Ho hg).1
        omega
      have HQ : Hid (∀ g, (Value.slice a' zs.length cap').ownBlock = some g → w.heap.size ≤ g) := fun g hg => by
        have := (owns_lt Ho hg).1
        omega
      clear Hown Ho R1 R2 K1 K2
      have E3 : Hid _ := e3
      have HN : Hid _ := hne
      clear e3 hne
      go_wp2
      refine bodyPost_ret (v := .agg #[.int .i64 off, .bool sv, .string nm, .slice a' zs.length cap', .int .i64 jump]) (by simp [results, Try.results18, go_sem, c2]) rfl ⟨a', cap', rfl, e2, ?_, ?_, ?_⟩
      · exact ⟨fun b o sp h => by subst h; exact HQ.out b rfl⟩
      · rcases a' with _ | ⟨g, o, sp⟩
        · rcases zs with _ | ⟨z0, zt⟩
          · exact IntsAt.nil _ _
          · obtain ⟨b, o, e, _⟩ := E3.out.cell 0 z0 rfl
            cases e
        · have hn := HN.out g rfl
          rcases sp with _ | sp
          · repeat (with_reducible first | exact E3.out | refine IntsAt.set ?_ (by first | exact hn.1 | exact hn.2) _)
          · rcases zs with _ | ⟨z0, zt⟩
            · exact IntsAt.nil _ _
            · obtain ⟨b, o, e, _⟩ := E3.out.cell 0 z0 rfl
              cases e
      · repeat (with_reducible first | exact hgr | refine Gr.setCell ?_ (by simp) _)
end Go.Proofs.Ytcpmbjlhblkniaa
