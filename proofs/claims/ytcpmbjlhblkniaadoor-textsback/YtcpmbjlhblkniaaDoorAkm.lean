/- Answers as keys of a map: what they hold tells them apart. -/
import Derived.Test.YtcpmbjlhblkniaaDoorAky
import Derived.Maps.OwnSet
import Derived.DeepKeys4
import Derived.MapViews
namespace Go.Proofs.YtcpmbjlhblkniaaDoor
open Go.ChangeShapes Go.WideShapes Go.ChangeAt Go.RowKit Go.Maps
set_option linter.unusedVariables false
set_option maxRecDepth 100000
theorem Tryd.laidOutK : laidOutB Tryd.prog = true := by kernel_rfl
theorem Tryd.rowKey : (121 : TypeId) < Tryd.prog.types.size := of_decide_eq_true (by kernel_rfl)
theorem Tryd.wideKey : (match Tryd.prog.underlying 121 with | some (.array _ _) | some (.struct _) => true | _ => false) = true := by kernel_rfl
theorem Tryd.deepKey : Tryd.prog.keyType 121 = true := by kernel_rfl
theorem lawKey : Keyed Tryd.prog 121 := Keyed.of_law (deep_law_laid Tryd.laidOutK (m := 5) (by omega) Tryd.rowKey (by kernel_rfl) Tryd.wideKey)
theorem Tryd.cKeyN : Tryd.prog.cellsOf 121 = 11 := by kernel_rfl
theorem Tryd.cClockN : Tryd.prog.cellsOf 32 = 3 := by kernel_rfl
theorem Tryd.cArrN : Tryd.prog.cellsOf 119 = 6 := by kernel_rfl
theorem Tryd.cIntK : Tryd.prog.cellsOf 3 = 1 := by kernel_rfl
theorem Tryd.cBoolK : Tryd.prog.cellsOf 4 = 1 := by kernel_rfl
theorem Tryd.cStrK : Tryd.prog.cellsOf 9 = 1 := by kernel_rfl
theorem Tryd.sizeK : ∃ q, Tryd.prog.types.size + 1 = q + 3 := ⟨_, by rfl⟩
theorem formedKey (x : Ans) : (Value.agg (Ans.key x).toArray).formed Tryd.prog 121 = true := by
  have h : (Ans.key x).toArray.size = 11 := rfl
  simp [Value.formed, Tryd.underlying121, Tryd.cKeyN, h]
structure KeyOk (x : Ans) : Prop where
  off : (Lit.int .i64 x.off).wf = true
  nm : x.nm.size ≤ maxLen
  z : ∀ i, (Lit.int .i64 (x.zs.getD i 0)).wf = true
  n : (Lit.int .i64 x.zs.length).wf = true
  jump : (Lit.int .i64 x.jump).wf = true
  n6 : x.zs.length ≤ 6
theorem AnsOk.key {w : World} {x : Ans} (h : AnsOk w x) (h6 : x.zs.length ≤ 6) : KeyOk x :=
  ⟨h.off, h.nm, fun i => by
    rw [List.getD_eq_getElem?_getD]
    cases e : x.zs[i]? with
    | none => show (Lit.int .i64 0).wf = true; decide
    | some z => exact h.wz z (List.mem_of_getElem? e), WalkArith.wf_i64 (by omega), h.jump, h6⟩
theorem keyLitsAns (q : Nat) (off n z0 z1 z2 z3 z4 z5 jump : Int) (sv : Bool) (nm : ByteArray) (h1 : (Lit.int .i64 off).wf = true) (h2 : nm.size ≤ maxLen) (h3 : (Lit.int .i64 n).wf = true) (h4 : (Lit.int .i64 z0).wf = true) (h5 : (Lit.int .i64 z1).wf = true) (h6 : (Lit.int .i64 z2).wf = true) (h7 : (Lit.int .i64 z3).wf = true) (h8 : (Lit.int .i64 z4).wf = true) (h9 : (Lit.int .i64 z5).wf = true) (h10 : (Lit.int .i64 jump).wf = true) :
    ∃ L, Tryd.prog.keyLits (q + 3) 121 [.int .i64 off, .bool sv, .string nm, .int .i64 n, .int .i64 z0, .int .i64 z1, .int .i64 z2, .int .i64 z3, .int .i64 z4, .int .i64 z5, .int .i64 jump] = some L := by
  rw [← Option.isSome_iff_exists]
  simp [-Array.all_eq_true, Program.keyLits, Tryd.underlying121, Tryd.underlying32, Tryd.underlying119, Tryd.underlying3, Tryd.underlying4, Tryd.underlying9, Tryd.cKeyN, Tryd.cClockN, Tryd.cArrN, Tryd.cIntK, Tryd.cBoolK, Tryd.cStrK, h1, h2, h3, h4, h5, h6, h7, h8, h9, h10, List.range, List.range.loop]
theorem keyAns {x : Ans} (h : KeyOk x) : ∃ l, keyOf Tryd.prog 121 (.agg (Ans.key x).toArray) = some l := by
  obtain ⟨q, hq⟩ := Tryd.sizeK
  have hz := h.z
  have hh : ∃ L, Tryd.prog.keyLits (Tryd.prog.types.size + 1) 121 (Ans.key x) = some L := by
    rw [hq]
    exact keyLitsAns q _ _ _ _ _ _ _ _ _ _ _ h.off h.nm h.n (hz 0) (hz 1) (hz 2) (hz 3) (hz 4) (hz 5) h.jump
  obtain ⟨L, hL⟩ := hh
  refine ⟨.string (keyBytes L), ?_⟩
  unfold keyOf
  rw [Tryd.underlying121]
  simp only [Tryd.deepKey, formedKey, Bool.and_self, if_true]
  rw [show (Value.agg (Ans.key x).toArray).cells.toList = Ans.key x from rfl, hL]
  rfl
theorem Tryd.tiledKey : Tryd.prog.tiled 5 121 = true := by kernel_rfl
theorem zs_of_pad {a b : List Int} (ha : a.length ≤ 6) (hl : a.length = b.length) (h : ∀ i, i < 6 → a.getD i 0 = b.getD i 0) : a = b := by
  apply List.ext_getElem hl
  intro i h1 h2
  have := h i (by omega)
  simpa [List.getD_eq_getElem?_getD, List.getElem?_eq_getElem h1, List.getElem?_eq_getElem h2] using this
theorem keyAns_inj {x y : Ans} {l : Lit} (h6 : x.zs.length ≤ 6) (hn : keyOf Tryd.prog 121 (.agg (Ans.key x).toArray) = some l) (hm : keyOf Tryd.prog 121 (.agg (Ans.key y).toArray) = some l) : x.val = y.val := by
  have h := keyOf_inj_deep Tryd.tiledKey Tryd.wideKey hn hm
  have h := congrArg (fun v : Value => v.cells.toList) h
  simp only [show ∀ z, (Value.agg (Ans.key z).toArray).cells.toList = Ans.key z from fun _ => rfl] at h
  simp only [Ans.key, List.cons.injEq, Value.int.injEq, Value.bool.injEq, Value.string.injEq, true_and, and_true] at h
  obtain ⟨h1, h2, h3, h4, z0, z1, z2, z3, z4, z5, h5⟩ := h
  have hz : x.zs = y.zs := zs_of_pad h6 (by omega) fun i hi => by
    match i, hi with
    | 0, _ => exact z0
    | 1, _ => exact z1
    | 2, _ => exact z2
    | 3, _ => exact z3
    | 4, _ => exact z4
    | 5, _ => exact z5
  simp [Ans.val, h1, h2, h3, hz, h5]
theorem keyAns_val {x y : Ans} (h : x.val = y.val) : Ans.key x = Ans.key y := by
  simp only [Ans.val, Prod.mk.injEq] at h
  obtain ⟨h1, h2, h3, h4, h5⟩ := h
  simp [Ans.key, h1, h2, h3, h4, h5]
end Go.Proofs.YtcpmbjlhblkniaaDoor
