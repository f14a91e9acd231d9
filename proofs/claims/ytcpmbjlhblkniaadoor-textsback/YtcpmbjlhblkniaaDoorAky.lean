/- Contract: an answer's key. -/
import Derived.Test.YtcpmbjlhblkniaaDoorAnsV
import Derived.Test.YtcpmbjlhblkniaaDoorGr
import Derived.Laws.CopyOwn
import Derived.Deep.RegionLaw
namespace Go.Proofs.YtcpmbjlhblkniaaDoor
open Go.ChangeShapes Go.WideShapes Go.ChangeAt Go.RowKit
set_option linter.unusedVariables false
def Ans.key (x : Ans) : List Value := [.int .i64 x.off, .bool x.sv, .string x.nm, .int .i64 x.zs.length, .int .i64 (x.zs.getD 0 0), .int .i64 (x.zs.getD 1 0), .int .i64 (x.zs.getD 2 0), .int .i64 (x.zs.getD 3 0), .int .i64 (x.zs.getD 4 0), .int .i64 (x.zs.getD 5 0), .int .i64 x.jump]
theorem splice_key {zs : List Int} (h : zs.length ≤ 6) (u0 u1 u2 u3 u4 : Value) : splice [u0, u1, u2, u3, .int .i64 0, .int .i64 0, .int .i64 0, .int .i64 0, .int .i64 0, .int .i64 0, u4] 4 (ints zs) = [u0, u1, u2, u3, .int .i64 (zs.getD 0 0), .int .i64 (zs.getD 1 0), .int .i64 (zs.getD 2 0), .int .i64 (zs.getD 3 0), .int .i64 (zs.getD 4 0), .int .i64 (zs.getD 5 0), u4] := by
  match zs, h with
  | [], _ => rfl
  | [_], _ => rfl
  | [_, _], _ => rfl
  | [_, _, _], _ => rfl
  | [_, _, _, _], _ => rfl
  | [_, _, _, _, _], _ => rfl
  | [_, _, _, _, _, _], _ => rfl
  | _ :: _ :: _ :: _ :: _ :: _ :: _ :: _, h => simp at h
theorem name_world {p : World → Prop} (w : World) (h : ∀ W, W = w → p W) : p w := h w rfl
theorem ints_src {w : World} {a : Option Addr} {zs : List Int} (h : IntsAt w a zs) (h0 : 0 < zs.length) : ∃ ad, a = some ad ∧ ∀ (j : Nat) v, (ints zs)[j]? = some v → w.cell? (ad.add j) = some v := by
  obtain ⟨z, hz⟩ : ∃ z, zs[0]? = some z := ⟨_, List.getElem?_eq_getElem h0⟩
  obtain ⟨b, o, e, hb, _⟩ := h.cell 0 z hz
  refine ⟨_, e, fun j v hv => ?_⟩
  simp only [ints, List.getElem?_map, Option.map_eq_some_iff] at hv
  obtain ⟨y, hy, rfl⟩ := hv
  obtain ⟨b', o', e', hb', hc⟩ := h.cell j y hy
  rw [e] at e'
  cases e'
  rw [show (⟨b, o, none⟩ : Addr).add j = ⟨b, o + j, none⟩ from Go.WideShapes.add_plain ..]
  exact hc
theorem ints_cellsK (zs : List Int) : ∀ v ∈ ints zs, v.oneCell' = true := by
  intro v hv
  simp only [ints, List.mem_map] at hv
  obtain ⟨z, _, rfl⟩ := hv
  rfl
theorem Tryd.sizeIntK : (Tryd.prog.info? 3).map (·.size) = some 1 := by kernel_rfl
set_option maxHeartbeats 3200000 in
theorem answerKeyOf_any (x : Ans) (w : World) (hx : AnsOk w x) (h6 : x.zs.length ≤ 6) :
    Calls Tryd.prog 55 #[.agg (Ans.cells x).toArray] w fun e w' => e = .returned (.agg (Ans.key x).toArray) ∧ Gr w w' := by
  obtain ⟨off, sv, nm, a, cap, zs, jump⟩ := x
  simp only [Ans.cells, Ans.key]
  have hcap := hx.cap
  simp only at hcap h6
  go_enter Tryd.func55, Tryd.ntmps55
  go_wp2_with fail
  refine name_world (p := fun W => Code.wp _ _ _ _ W) _ (fun W hW => ?_)
  have hz : W.heap.size = w.heap.size + 3 := by rw [hW]; simp
  have hB : Below w.heap.size w W := by rw [hW]; exact ((Below.refl _ _).alloc (Nat.le_refl _) _ |>.alloc (by simp) _).alloc (by simp; omega) _
  have hG : Gr w W := Gr.ofBelow hB (Nat.le_refl _)
  have h2 : W.heap[w.heap.size + 1 + 1]? = some (.cells (#[.int .i64 off, .bool sv, .string nm, .int .i64 zs.length, .int .i64 0, .int .i64 0, .int .i64 0, .int .i64 0, .int .i64 0, .int .i64 0, .int .i64 jump]) 121) := by rw [hW]; simpa using heapA ((w.alloc _).alloc _) _
  have h0 : W.heap[w.heap.size]? = some (.cells (#[.int .i64 off, .bool sv, .string nm, .slice a zs.length cap, .int .i64 jump]) 34) := by rw [hW, Below.heap_alloc _ _ _ (by simp; omega), Below.heap_alloc _ _ _ (by simp)]; exact heapA w _
  have h1 : W.heap[w.heap.size + 1]? = some (.cells (#[.int .i64 0, .bool false, .string ⟨#[]⟩, .int .i64 0, .int .i64 0, .int .i64 0, .int .i64 0, .int .i64 0, .int .i64 0, .int .i64 0, .int .i64 0]) 121) := by rw [hW, Below.heap_alloc _ _ _ (by simp)]; simpa using heapA (w.alloc _) _
  have hsrc : 0 < zs.length → ∃ ad, a = some ad ∧ ∀ (j : Nat) v, (ints zs)[j]? = some v → W.cell? (ad.add j) = some v := fun h => ints_src (hx.zs.gr hG) h
  clear hW
  obtain ⟨c0, f0⟩ := row_all h0
  have HB : Hid _ := fun (_ : Unit) => hB
  have H2 : Hid _ := h2
  have HS : Hid _ := fun (_ : Unit) => hsrc
  clear hsrc h2 hB h0
  go_region_law (refine step_copy_splice rfl (.tmp 13) (.tmp 15) 24 24 rfl 3 Tryd.underlying24 Tryd.sizeIntK (some ⟨w.heap.size + 1 + 1, 4, none⟩) a 6 6 zs.length cap (by simp [Act.eval]) (by simp [Act.eval]) (w.heap.size + 1 + 1) 4 [.int .i64 off, .bool sv, .string nm, .int .i64 zs.length, .int .i64 0, .int .i64 0, .int .i64 0, .int .i64 0, .int .i64 0, .int .i64 0, .int .i64 jump] 121 H2.out (ints zs) (by rw [ints_len]; show zs.length = min zs.length 6; omega) (fun h => ⟨rfl, (HS.out ()) (by rw [ints_len] at h; exact h)⟩) (by rw [ints_len]; show 4 + zs.length ≤ 11; omega) (ints_cellsK zs) (w.heap.size + 1 + 1) W (by repeat (with_reducible first | exact Below.refl _ _ | refine Below.drew ?_)) (Nat.le_refl _) ?_; intro w4 hg4 hb4)
  all_goals
    have h4 := hg4
    rw [splice_key h6] at h4
    have h5 := (hb4.block (w.heap.size + 1) (by omega)).trans h1
    obtain ⟨c4, f4⟩ := row_all h4
    obtain ⟨c5, f5⟩ := row_all h5
    have HG : Hid (Gr w w4) := ⟨hb4.os.trans hG.os, hb4.output.trans hG.out, by have := hb4.size; omega, fun k hk => (hb4.block k (by omega)).trans (hG.block k hk)⟩
  all_goals clear hg4 hb4 h4 H2 c0 f0 HS HB h1 h5
  go_wp2_with fail
  refine bodyPost_ret (v := .agg #[.int .i64 off, .bool sv, .string nm, .int .i64 zs.length, .int .i64 (zs.getD 0 0), .int .i64 (zs.getD 1 0), .int .i64 (zs.getD 2 0), .int .i64 (zs.getD 3 0), .int .i64 (zs.getD 4 0), .int .i64 (zs.getD 5 0), .int .i64 jump]) (by simp [results, Tryd.results55, go_sem, c5]) rfl ⟨rfl, ?_⟩
  repeat (with_reducible first | exact HG.out | refine Gr.setCell ?_ (by simp) _)
end Go.Proofs.YtcpmbjlhblkniaaDoor
