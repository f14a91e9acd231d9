/- Contracts: the document's clock of spans at an instant; numbers to ask for. -/
import Derived.Test.YthnbmeihaojfnaaFwM
import Derived.Test.YthnbmeihaojfnaaTreC
import Derived.Test.YthnbmeihaojfnaaYear
import Derived.Test.YthnbmeihaojfnaaSpnD
namespace Go.Proofs.Ythnbmeihaojfnaa
open Go.ChangeShapes Go.WideShapes Go.ChangeAt Go.RowKit
set_option linter.unusedVariables false
theorem spanV_take {l : List Spn} {k : Nat} {x : Spn} (h0 : 0 < k) (hx : l[k]? = some x) (t : Int) : spanV (l.take (k + 1)) t = if x.frm ≤ t then x.clk else spanV (l.take k) t := by
  rw [List.take_add_one, hx]
  cases l with
  | nil => simp at hx
  | cons y r =>
    obtain ⟨k, rfl⟩ : ∃ q, k = q + 1 := ⟨k - 1, by omega⟩
    simp only [List.take_succ_cons, Option.toList_some, List.cons_append, spanV, List.map_append, List.map_cons, List.map_nil]
    rw [lastV_snoc]
theorem spanV_one {l : List Spn} {x : Spn} (hx : l[0]? = some x) (t : Int) : spanV (l.take 1) t = x.clk := by
  cases l with
  | nil => simp at hx
  | cons y r => simp at hx; subst hx; rfl
theorem name_worldS {p : World → Prop} (w : World) (h : ∀ W, W = w → p W) : p w := h w rfl
set_option maxHeartbeats 3200000 in
theorem edgesF_any (a : Option Addr) (cap : Nat) (l : List Spn) (w : World) (hl : SpansAt w a l) (hn : l.length ≤ 1000) :
    Calls Try.prog 10 #[.slice a l.length cap, .bool false] w fun e w' => ∃ a cap zs, e = .returned (.slice a zs.length cap) ∧ IntsAt w' a zs ∧ (∀ z ∈ zs, (Lit.int .i64 z).wf = true) ∧ Gr w w' := by
  obtain ⟨i0, hi, hi1, hi2, hi3⟩ := Try.infoInt
  go_enter Try.func10, Try.ntmps10
  go_wp2_with fail
  go_loopw [5, 6] (fun v s wr => ∃ (k : Nat) (zs : List Int), k ≤ l.length ∧ s = .int .i64 k ∧ zs.length = k ∧ (∀ z ∈ zs, (Lit.int .i64 z).wf = true) ∧ Gr w wr ∧ wr.ownsRow w.heap.size 3 1 v zs.length (ints zs)) (fun v s _ => l.length - (intOf s).toNat)
  case atStart => exact ⟨0, [], Nat.zero_le _, rfl, rfl, fun z hz => by simp at hz, Gr.refl _, owns_nil _ _ _ _⟩
  case round =>
    obtain ⟨k, zs, hk, rfl, hzk, hwz, hgr, hown⟩ := hrel
    have Hown : Hid _ := hown
    have HWZ : Hid _ := hwz
    clear hown hwz
    by_cases hlt : k < l.length
    · obtain ⟨x, hx⟩ : ∃ x, l[k]? = some x := ⟨_, List.getElem?_eq_getElem hlt⟩
      obtain ⟨⟨_, n2, _⟩, b, o, rfl, hb, d0, d1, d2, d3⟩ := (hl.gr hgr).cell k x hx
      obtain ⟨frm, off, sv, nm⟩ := x
      simp only at n2 d0 d1 d2 d3
      clear hx d1 d2 d3
      go_wp2_with (at_builtin; (refine wpList_append_lies _ rfl _ _ _ rfl w.heap.size 3 i0 _ 1 8 Try.underlying34 hi hi1 hi2 hi3 rfl (by decide) _ zs.length (ints zs) (by rfl) (owns_gr Hown.out (by exact (Gr.refl _).alloc _)) ⟨_, 0, none⟩ 1 1 [.int .i64 frm] (by rfl) (by rfl) (World.news_of_block (cs := #[.int .i64 frm]) (heapA _ _)) (by simp [Value.oneCell']) (by omega) (by unfold maxLen; omega) (by omega) (by have := hgr.size; simp; omega) _ rfl ?_))
      intro g cap' w2 hown2 hgrow hat hlt2
      have hrow : ∀ x, Value.ownBlock _ = some x → w.heap.size ≤ x := fun x hx => (owns_lt Hown.out hx).1
      have hg2 : Gr w w2 := (hgr.alloc _).by_ hgrow (fun x hx => hrow x hx)
      have hown3 : w2.ownsRow w.heap.size 3 1 (.slice (some ⟨g, 0, none⟩) (k + 1) cap') (zs ++ [frm]).length (ints (zs ++ [frm])) := by
        rw [show ints (zs ++ [frm]) = ints zs ++ [.int .i64 frm] by simp [ints], List.length_append, hzk]; exact hown2
      have Hend : Hid _ := And.intro hg2 hown3
      clear hown2 hown3 hgrow hat hlt2 hg2 hrow
      go_wp2
      go_roundw
      case rel => exact ⟨k + 1, zs ++ [frm], by omega, by go_num, by simp; omega, fun z hz => by
        rcases List.mem_append.1 hz with h | h
        · exact HWZ.out z h
        · rw [List.mem_singleton.1 h]; exact n2, Hend.out⟩
      case measure => simp [intOf]; omega
    · obtain ⟨a', cap', rfl, e2, e3⟩ := owns_ints Hown.out
      have E3 : Hid _ := e3
      clear Hown e3
      go_wp2
      go_ret
      exact ⟨a', cap', _, rfl, E3.out, HWZ.out, hgr⟩
end Go.Proofs.Ythnbmeihaojfnaa
