/- Answers as keys of a map: what they hold tells them apart. -/
import Derived.Test.YthnbmeihaojfnaaAky
import Derived.Maps.OwnSet
import Derived.DeepKeys4
import Derived.MapViews
namespace Go.Proofs.Ythnbmeihaojfnaa
open Go.ChangeShapes Go.WideShapes Go.ChangeAt Go.RowKit Go.Maps
set_option linter.unusedVariables false
set_option maxRecDepth 100000
theorem Try.laidOutK : laidOutB Try.prog = true := by kernel_rfl
theorem Try.rowKey : (59 : TypeId) < Try.prog.types.size := of_decide_eq_true (by kernel_rfl)
theorem Try.wideKey : (match Try.prog.underlying 59 with | some (.array _ _) | some (.struct _) => true | _ => false) = true := by kernel_rfl
theorem Try.deepKey : Try.prog.keyType 59 = true := by kernel_rfl
theorem lawKey : Keyed Try.prog 59 := Keyed.of_law (deep_law_laid Try.laidOutK (m := 5) (by omega) Try.rowKey (by kernel_rfl) Try.wideKey)
theorem Try.cKeyN : Try.prog.cellsOf 59 = 11 := by kernel_rfl
theorem Try.cClockN : Try.prog.cellsOf 37 = 3 := by kernel_rfl
theorem Try.cArrN : Try.prog.cellsOf 57 = 6 := by kernel_rfl
theorem Try.cIntK : Try.prog.cellsOf 3 = 1 := by kernel_rfl
theorem Try.cBoolK : Try.prog.cellsOf 4 = 1 := by kernel_rfl
theorem Try.cStrK : Try.prog.cellsOf 9 = 1 := by kernel_rfl
theorem Try.sizeK : ∃ q, Try.prog.types.size + 1 = q + 3 := ⟨_, by rfl⟩
theorem formedKey (x : Ans) : (Value.agg (Ans.key x).toArray).formed Try.prog 59 = true := by
  have h : (Ans.key x).toArray.size = 11 := rfl
  simp [Value.formed, Try.underlying59, Try.cKeyN, h]
structure KeyOk (x : Ans) : Prop where
  off : (Lit.int .i64 x.off).wf = true
  nm : x.nm.size ≤ maxLen
  z : ∀ i, (Lit.int .i64 (x.zs.getD i 0)).wf = true
  n : (Lit.int .i64 x.zs.length).wf = true
  jump : (Lit.int .i64 x.jump).wf = true
  n6 : x.zs.length ≤ 6
theorem AnsOk.key {w : World} {x : Ans} (h : AnsOk w x) (h6 : x.zs.length ≤ 6) : KeyOk x :=
  ⟨h.off, h.nm, fun i => by
    rw [List.getD_eq_getElem?_getD]
    cases e : x.zs[i]? with
    | none => show (Lit.int .i64 0).wf = true; decide
    | some z => exact h.wz z (List.mem_of_getElem? e), WalkArith.wf_i64 (by omega), h.jump, h6⟩
theorem keyLitsAns (q : Nat) (off n z0 z1 z2 z3 z4 z5 jump : Int) (sv : Bool) (nm : ByteArray) (h1 : (Lit.int .i64 off).wf = true) (h2 : nm.size ≤ maxLen) (h3 : (Lit.int .i64 n).wf = true) (h4 : (Lit.int .i64 z0).wf = true) (h5 : (Lit.int .i64 z1).wf = true) (h6 : (Lit.int .i64 z2).wf = true) (h7 : (Lit.int .i64 z3).wf = true) (h8 : (Lit.int .i64 z4).wf = true) (h9 : (Lit.int .i64 z5).wf = true) (h10 : (Lit.int .i64 jump).wf = true) :
    ∃ L, Try.prog.keyLits (q + 3) 59 [.int .i64 off, .bool sv, .string nm, .int .i64 n, .int .i64 z0, .int .i64 z1, .int .i64 z2, .int .i64 z3, .int .i64 z4, .int .i64 z5, .int .i64 jump] = some L := by
  rw [← Option.isSome_iff_exists]
  simp [-Array.all_eq_true, Program.keyLits, Try.underlying59, Try.underlying37, Try.underlying57, Try.underlying3, Try.underlying4, Try.underlying9, Try.cKeyN, Try.cClockN, Try.cArrN, Try.cIntK, Try.cBoolK, Try.cStrK, h1, h2, h3, h4, h5, h6, h7, h8, h9, h10, List.range, List.range.loop]
theorem keyAns {x : Ans} (h : KeyOk x) : ∃ l, keyOf Try.prog 59 (.agg (Ans.key x).toArray) = some l := by
  obtain ⟨q, hq⟩ := Try.sizeK
  have hz := h.z
  have hh : ∃ L, Try.prog.keyLits (Try.prog.types.size + 1) 59 (Ans.key x) = some L := by
    rw [hq]
    exact keyLitsAns q _ _ _ _ _ _ _ _ _ _ _ h.off h.nm h.n (hz 0) (hz 1) (hz 2) (hz 3) (hz 4) (hz 5) h.jump
  obtain ⟨L, hL⟩ := hh
  refine ⟨.string (keyBytes L), ?_⟩
  unfold keyOf
  rw [Try.underlying59]
  simp only [Try.deepKey, formedKey, Bool.and_self, if_true]
  rw [show (Value.agg (Ans.key x).toArray).cells.toList = Ans.key x from rfl, hL]
  rfl
theorem Try.tiledKey : Try.prog.tiled 5 59 = true := by kernel_rfl
theorem zs_of_pad {a b : List Int} (ha : a.length ≤ 6) (hl : a.length = b.length) (h : ∀ i, i < 6 → a.getD i 0 = b.getD i 0) : a = b := by
  apply List.ext_getElem hl
  intro i h1 h2
  have := h i (by omega)
  simpa [List.getD_eq_getElem?_getD, List.getElem?_eq_getElem h1, List.getElem?_eq_getElem h2] using this
theorem keyAns_inj {x y : Ans} {l : Lit} (h6 : x.zs.length ≤ 6) (hn : keyOf Try.prog 59 (.agg (Ans.key x).toArray) = some l) (hm : keyOf Try.prog 59 (.agg (Ans.key y).toArray) = some l) : x.val = y.val := by
  have h := keyOf_inj_deep Try.tiledKey Try.wideKey hn hm
  have h := congrArg (fun v : Value => v.cells.toList) h
  simp only [show ∀ z, (Value.agg (Ans.key z).toArray).cells.toList = Ans.key z from fun _ => rfl] at h
  simp only [Ans.key, List.cons.injEq, Value.int.injEq, Value.bool.injEq, Value.string.injEq, true_and, and_true] at h
  obtain ⟨h1, h2, h3, h4, z0, z1, z2, z3, z4, z5, h5⟩ := h
  have hz : x.zs = y.zs := zs_of_pad h6 (by omega) fun i hi => by
    match i, hi with
    | 0, _ => exact z0
    | 1, _ => exact z1
    | 2, _ => exact z2
    | 3, _ => exact z3
    | 4, _ => exact z4
    | 5, _ => exact z5
  simp [Ans.val, h1, h2, h3, hz, h5]
theorem keyAns_val {x y : Ans} (h : x.val = y.val) : Ans.key x = Ans.key y := by
  simp only [Ans.val, Prod.mk.injEq] at h
  obtain ⟨h1, h2, h3, h4, h5⟩ := h
  simp [Ans.key, h1, h2, h3, h4, h5]
end Go.Proofs.Ythnbmeihaojfnaa
