/- Contracts: the document's clock of spans at an instant; numbers to ask for. -/
import Derived.Test.YtkgobfhabhimhaaFwM
import Derived.Test.YtkgobfhabhimhaaTreC
import Derived.Test.YtkgobfhabhimhaaYear
import Derived.Test.YtkgobfhabhimhaaSpnD
namespace Go.Proofs.Ytkgobfhabhimhaa
open Go.ChangeShapes Go.WideShapes Go.ChangeAt Go.RowKit
set_option linter.unusedVariables false
theorem spanV_take {l : List Spn} {k : Nat} {x : Spn} (h0 : 0 < k) (hx : l[k]? = some x) (t : Int) : spanV (l.take (k + 1)) t = if x.frm ≤ t then x.clk else spanV (l.take k) t := by
  rw [List.take_add_one, hx]
  cases l with
  | nil => simp at hx
  | cons y r =>
    obtain ⟨k, rfl⟩ : ∃ q, k = q + 1 := ⟨k - 1, by omega⟩
    simp only [List.take_succ_cons, Option.toList_some, List.cons_append, spanV, List.map_append, List.map_cons, List.map_nil]
    rw [lastV_snoc]
theorem spanV_one {l : List Spn} {x : Spn} (hx : l[0]? = some x) (t : Int) : spanV (l.take 1) t = x.clk := by
  cases l with
  | nil => simp at hx
  | cons y r => simp at hx; subst hx; rfl
theorem name_worldS {p : World → Prop} (w : World) (h : ∀ W, W = w → p W) : p w := h w rfl
set_option maxHeartbeats 1600000 in
theorem spanAt_any (a : Option Addr) (cap : Nat) (l : List Spn) (t : Int) (w : World) (hl : SpansAt w a l) (h0 : 0 < l.length) :
    Calls Try.prog 12 #[.slice a l.length cap, .int .i64 t] w fun e w' => e = .returned (.agg #[.int .i64 (spanV l t).1, .bool (spanV l t).2.1, .string (spanV l t).2.2]) ∧ Gr w w' := by
  have l1 := hl.len
  unfold maxLen at l1
  obtain ⟨x0, hx0⟩ : ∃ x, l[0]? = some x := ⟨_, List.getElem?_eq_getElem h0⟩
  obtain ⟨_, b, o, rfl, hb, d0, d1, d2, d3⟩ := hl.cell 0 x0 hx0
  have H1 : Hid _ := spanV_one hx0 t
  clear hx0
  rw [Nat.zero_mul, Nat.add_zero] at d0 d1 d2 d3
  obtain ⟨frm, off, sv, nm⟩ := x0
  simp only at d0 d1 d2 d3
  obtain ⟨cc, hcc⟩ : ∃ cc, spanV l t = cc := ⟨_, rfl⟩
  rw [hcc]
  have HCC : Hid _ := hcc
  clear hcc
  obtain ⟨s0, s1, s2⟩ := cc
  simp only at HCC ⊢
  go_enter Try.func12, Try.ntmps12
  go_wp2_with fail
  refine name_worldS (p := fun W => Code.wp _ _ _ _ W) _ (fun W hW => ?_)
  have hG : Gr w W := by rw [hW]; exact ((Gr.refl _).alloc _).alloc _
  have k1 : W.heap[w.heap.size]? = some (.cells #[.int .i64 0, .bool false, .string ⟨#[]⟩] 37) := by rw [hW]; exact heapB w _ _
  have k2 : W.heap[w.heap.size + 1]? = some (.cells #[.int .i64 (spanV (l.take 1) t).1, .bool (spanV (l.take 1) t).2.1, .string (spanV (l.take 1) t).2.2] 37) := by rw [hW, H1.out]; exact heapC w _ _
  clear hW
  have K1 : Hid _ := k1
  have K2 : Hid _ := k2
  clear k1 k2 d0 d1 d2 d3
  go_loopw [6] (fun s wr => ∃ k : Nat, 1 ≤ k ∧ k ≤ l.length ∧ s = .int .i64 k ∧ Gr w wr ∧ wr.heap[w.heap.size]? = some (.cells #[.int .i64 0, .bool false, .string ⟨#[]⟩] 37) ∧ wr.heap[w.heap.size + 1]? = some (.cells #[.int .i64 (spanV (l.take k) t).1, .bool (spanV (l.take k) t).2.1, .string (spanV (l.take k) t).2.2] 37)) (fun s _ => l.length - (intOf s).toNat)
  case atStart => exact ⟨1, Nat.le_refl _, h0, rfl, hG, K1.out, K2.out⟩
  case round =>
    obtain ⟨k, hk1, hk, rfl, hgr, k1, k2⟩ := hrel
    have R1 : Hid _ := k1
    have R2 : Hid _ := k2
    obtain ⟨c2, f2⟩ := row_all k2
    clear k1 k2
    have zr : w.heap.size + 1 < wr.heap.size := (Array.getElem?_eq_some_iff.1 R2.out).1
    by_cases hlt : k < l.length
    · obtain ⟨x, hx⟩ : ∃ x, l[k]? = some x := ⟨_, List.getElem?_eq_getElem hlt⟩
      obtain ⟨_, b', o', e, hb', d0, d1, d2, d3⟩ := (hl.gr hgr).cell k x hx
      cases e
      have HV : Hid _ := spanV_take (by omega) hx t
      obtain ⟨frm, off, sv, nm⟩ := x
      simp only at d0 d1 d2 d3
      clear hx
      by_cases hle : frm ≤ t
      · have hne : b ≠ w.heap.size + 1 := by omega
        go_wp2_with fail
        go_roundw
        case rel =>
          have h := heap_setCell_same _ (w.heap.size + 1) 2 _ _ (.string nm) (heap_setCell_same _ (w.heap.size + 1) 1 _ _ (.bool sv) (heap_setCell_same wr (w.heap.size + 1) 0 _ _ (.int .i64 off) R2.out))
          refine ⟨k + 1, by omega, by omega, by go_num, ?_, ?_, ?_⟩
          · repeat (with_reducible first | exact hgr | refine Gr.setCell ?_ (by simp) _)
          · rw [heap_setCell_other _ _ _ _ (by simp), heap_setCell_other _ _ _ _ (by simp), heap_setCell_other _ _ _ _ (by simp)]; exact R1.out
          · rw [HV.out, if_pos hle]; simpa [Spn.clk] using h
        case measure => simp [intOf]; omega
      · go_wp2_with fail
        go_roundw
        case rel => exact ⟨k + 1, by omega, by omega, by go_num, hgr, R1.out, by rw [HV.out, if_neg hle]; exact R2.out⟩
        case measure => simp [intOf]; omega
    · have hk' : k = l.length := by omega
      have h3 := R2.out
      rw [hk', List.take_length, HCC.out] at h3
      obtain ⟨c1, f1⟩ := row_all R1.out
      obtain ⟨c3, f3⟩ := row_all h3
      clear h3
      clear c2 f2
      go_wp2_with fail
      refine bodyPost_ret (v := .agg #[.int .i64 s0, .bool s1, .string s2]) (by simp [results, Try.results12, go_sem, c1]) rfl ⟨rfl, ?_⟩
      repeat (with_reducible first | exact hgr | refine Gr.setCell ?_ (by simp) _)
set_option maxHeartbeats 800000 in
theorem inside_any (t : Int) (w : World) : Calls Try.prog 9 #[.int .i64 t] w fun e w' => e = .returned (.bool (decide (-2208988800 ≤ t) && decide (t < 4102444800))) ∧ w' = w := by
  by_cases h1 : -2208988800 ≤ t
  · by_cases h2 : t < 4102444800
    · have e : (decide (-2208988800 ≤ t) && decide (t < 4102444800)) = true := by simp [h1, h2]
      rw [e]; clear e
      go_enter Try.func9, Try.ntmps9
      go_wp2_with (go_at_call 21; refine (windowOf_any _).mono ?_; rintro e v1 ⟨rfl, hw1⟩; subst v1)
      go_ret
      exact ⟨rfl, rfl⟩
    · have e : (decide (-2208988800 ≤ t) && decide (t < 4102444800)) = false := by simp [h1, h2]
      rw [e]; clear e
      go_enter Try.func9, Try.ntmps9
      go_wp2_with (go_at_call 21; refine (windowOf_any _).mono ?_; rintro e v1 ⟨rfl, hw1⟩; subst v1)
      go_ret
      exact ⟨ret_bool (by simpa using h2), rfl⟩
  · have e : (decide (-2208988800 ≤ t) && decide (t < 4102444800)) = false := by simp [h1]
    rw [e]; clear e
    go_enter Try.func9, Try.ntmps9
    go_wp2_with (go_at_call 21; refine (windowOf_any _).mono ?_; rintro e v1 ⟨rfl, hw1⟩; subst v1)
    go_ret
    exact ⟨rfl, rfl⟩
set_option maxHeartbeats 3200000 in
theorem edgesF_any (a : Option Addr) (cap : Nat) (l : List Spn) (w : World) (hl : SpansAt w a l) (hn : l.length ≤ 1000) :
    Calls Try.prog 8 #[.slice a l.length cap, .bool false] w fun e w' => ∃ a cap zs, e = .returned (.slice a zs.length cap) ∧ IntsAt w' a zs ∧ (∀ z ∈ zs, (Lit.int .i64 z).wf = true) ∧ Gr w w' := by
  obtain ⟨i0, hi, hi1, hi2, hi3⟩ := Try.infoInt
  go_enter Try.func8, Try.ntmps8
  go_wp2_with fail
  go_loopw [5, 6] (fun v s wr => ∃ (k : Nat) (zs : List Int), k ≤ l.length ∧ s = .int .i64 k ∧ zs.length = k ∧ (∀ z ∈ zs, (Lit.int .i64 z).wf = true) ∧ Gr w wr ∧ wr.ownsRow w.heap.size 3 1 v zs.length (ints zs)) (fun v s _ => l.length - (intOf s).toNat)
  case atStart => exact ⟨0, [], Nat.zero_le _, rfl, rfl, fun z hz => by simp at hz, Gr.refl _, owns_nil _ _ _ _⟩
  case round =>
    obtain ⟨k, zs, hk, rfl, hzk, hwz, hgr, hown⟩ := hrel
    have Hown : Hid _ := hown
    have HWZ : Hid _ := hwz
    clear hown hwz
    by_cases hlt : k < l.length
    · obtain ⟨x, hx⟩ : ∃ x, l[k]? = some x := ⟨_, List.getElem?_eq_getElem hlt⟩
      obtain ⟨⟨_, n2, _⟩, b, o, rfl, hb, d0, d1, d2, d3⟩ := (hl.gr hgr).cell k x hx
      obtain ⟨frm, off, sv, nm⟩ := x
      simp only at n2 d0 d1 d2 d3
      clear hx d1 d2 d3
      go_wp2_with (at_builtin; (refine wpList_append_lies _ rfl _ _ _ rfl w.heap.size 3 i0 _ 1 8 Try.underlying33 hi hi1 hi2 hi3 rfl (by decide) _ zs.length (ints zs) (by rfl) (owns_gr Hown.out (by exact (Gr.refl _).alloc _)) ⟨_, 0, none⟩ 1 1 [.int .i64 frm] (by rfl) (by rfl) (World.news_of_block (cs := #[.int .i64 frm]) (heapA _ _)) (by simp [Value.oneCell']) (by omega) (by unfold maxLen; omega) (by omega) (by have := hgr.size; simp; omega) _ rfl ?_))
      intro g cap' w2 hown2 hgrow hat hlt2
      have hrow : ∀ x, Value.ownBlock _ = some x → w.heap.size ≤ x := fun x hx => (owns_lt Hown.out hx).1
      have hg2 : Gr w w2 := (hgr.alloc _).by_ hgrow (fun x hx => hrow x hx)
      have hown3 : w2.ownsRow w.heap.size 3 1 (.slice (some ⟨g, 0, none⟩) (k + 1) cap') (zs ++ [frm]).length (ints (zs ++ [frm])) := by
        rw [show ints (zs ++ [frm]) = ints zs ++ [.int .i64 frm] by simp [ints], List.length_append, hzk]; exact hown2
      have Hend : Hid _ := And.intro hg2 hown3
      clear hown2 hown3 hgrow hat hlt2 hg2 hrow
      go_wp2
      go_roundw
      case rel => exact ⟨k + 1, zs ++ [frm], by omega, by go_num, by simp; omega, fun z hz => by
        rcases List.mem_append.1 hz with h | h
        · exact HWZ.out z h
        · rw [List.mem_singleton.1 h]; exact n2, Hend.out⟩
      case measure => simp [intOf]; omega
    · obtain ⟨a', cap', rfl, e2, e3⟩ := owns_ints Hown.out
      have E3 : Hid _ := e3
      clear Hown e3
      go_wp2
      go_ret
      exact ⟨a', cap', _, rfl, E3.out, HWZ.out, hgr⟩
end Go.Proofs.Ytkgobfhabhimhaa
