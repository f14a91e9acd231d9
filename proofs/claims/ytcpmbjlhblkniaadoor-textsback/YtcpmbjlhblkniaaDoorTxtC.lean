/- Contracts: a line of code as text (P5.7), by the program. -/
import Derived.Test.YtcpmbjlhblkniaaDoorBldC
import Derived.Lib.ItoaNum
import Derived.Lib.ItoaLen
namespace Go.Proofs.YtcpmbjlhblkniaaDoor
open Go.ChangeShapes Go.WideShapes Go.ChangeAt Go.RowKit
set_option linter.unusedVariables false
set_option maxRecDepth 100000
namespace Txl
def nm (op : Int) : List UInt8 := if op = 1 then [97, 114, 103] else if op = 2 then [112, 117, 115, 104] else if op = 3 then [108, 101, 115, 115] else if op = 4 then [115, 107, 105, 112] else if op = 5 then [103, 111] else [116, 101, 108, 108]
theorem opName_nm (op : Int) : opName op = ⟨(nm op).toArray⟩ := by
  unfold opName nm
  repeat (split; rfl)
  rfl
theorem nm_len (op : Int) : (nm op).length ≤ 4 := by
  unfold nm
  repeat (split; decide)
  decide
def line (x : Ins) : List UInt8 := if numbered x.op = true then nm x.op ++ [32] ++ Lib.itoa x.n ++ [10] else nm x.op ++ [10]
def lineE (x : Ins) : Int := if Ver.isOp x.op = true then (if 0 ≤ x.n ∧ x.n ≤ (if numbered x.op = true then 8000 else 0) then 0 else 2) else 3
theorem lineE_kind {x : Ins} (h : Ver.isOp x.op = false) : lineE x = 3 := by unfold lineE; rw [if_neg (by rw [h]; decide)]
theorem lineE_op {x : Ins} (h : Ver.isOp x.op = true) : lineE x = if 0 ≤ x.n ∧ x.n ≤ (if numbered x.op = true then 8000 else 0) then 0 else 2 := by unfold lineE; rw [if_pos h]
end Txl
def Pow (w : World) : Prop := Lib.TabIs Tryd.prog w "internal/strconv.uint64pow10" .u64 Lib.pow10Tab
theorem powG : Tryd.prog.globalNamed "internal/strconv.uint64pow10" = some 4 := by kernel_rfl
structure Po (w : World) : Prop where
  is : Pow w
theorem Po.gr {w w' : World} (h : Po w) (hg : Gr w w') : Po w' := by
  have h := h.is
  refine ⟨?_⟩
  have hlt : 4 < w.heap.size := by
    unfold Pow Lib.TabIs World.var? at h
    rw [powG] at h
    rcases Nat.lt_or_ge 4 w.heap.size with k | k
    · exact k
    · have n : w.heap[4]? = none := Array.getElem?_eq_none k
      simp [n] at h
  unfold Pow Lib.TabIs World.var? at h ⊢
  rw [powG] at h ⊢
  simp only [Option.bind_some] at h ⊢
  rw [hg.block _ hlt]; exact h
theorem grG (w : World) (k : Nat) (os : Array Obj) : Gr w (Go.Sort.grow (w.drewN k) os) :=
  ⟨rfl, rfl, by simp [Go.Sort.grow], fun b hb => by
    show ((w.drewN k).heap ++ os)[b]? = w.heap[b]?
    have hb' : b < (w.drewN k).heap.size := hb
    rw [Array.getElem?_append_left hb']; rfl⟩
theorem itoa_gr (n : Int) (w : World) (h : Po w) (h0 : 0 ≤ n) (h1 : n ≤ 8000) :
    Calls Tryd.prog 50 #[.int .i64 n] w fun e w' => e = .returned (.string ⟨(Lib.itoa n).toArray⟩) ∧ Gr w w' := by
  refine (Tryd.strconv_Itoa n (by omega) (by omega) w h.is).mono ?_
  rintro e w' ⟨rfl, k, os, rfl⟩
  exact ⟨rfl, grG _ _ _⟩
theorem field_num (s : ByteArray) (a b : Int) (c : Bool) (W : World) : (Instr.field 107 (.agg #[.string s, .int .i64 a, .int .i64 b, .bool c]) 3).run Tryd.prog W = .ok (.bool c) W := by
  kernel_rfl
set_option maxHeartbeats 1600000 in
theorem checkLine_any (x : Ins) (w : World) (hT : Opr w) :
    Calls Tryd.prog 24 #[.agg #[.int .i64 x.op, .int .i64 x.n]] w fun e w' => e = .returned (.int .i64 (Txl.lineE x)) ∧ Gr w w' := by
  obtain ⟨op, n⟩ := x
  simp only
  cases ho : Ver.isOp op with
  | false =>
    have E : Hid _ := Txl.lineE_kind (x := ⟨op, n⟩) ho
    go_enter Tryd.func24, Tryd.ntmps24
    go_wp2_with (go_at_call 43; refine (isOperator_any op _).mono ?_; rintro e w1 ⟨rfl, hw1⟩; subst w1; rw [ho])
    go_ret
    exact ⟨by rw [E.out]; rfl, (Gr.refl _).alloc _⟩
  | true =>
    have h16 : 1 ≤ op ∧ op ≤ 6 := by simpa [Ver.isOp] using ho
    have HO : Hid _ := fun W (h : Opr W) => operatorOf_any op W h h16.1 h16.2
    obtain ⟨cw, fw⟩ := row_all (heapA w (Obj.cells #[.int .i64 op, .int .i64 n] 54))
    cases hn : numbered op with
    | false =>
      have E : Hid (Txl.lineE ⟨op, n⟩ = if 0 ≤ n ∧ n ≤ 0 then 0 else 2) := by
        show Txl.lineE ⟨op, n⟩ = _
        rw [Txl.lineE_op ho]
        show (if 0 ≤ n ∧ n ≤ (if numbered op = true then 8000 else 0) then (0 : Int) else 2) = _
        rw [hn]
        rfl
      go_enter Tryd.func24, Tryd.ntmps24
      go_upto_region 4 with (go_at_call 43; refine (isOperator_any op _).mono ?_; rintro e w1 ⟨rfl, hw1⟩; subst w1; rw [ho])
      go_upto_region 6 with (go_at_call 46; refine (HO.out _ (hT.gr (by exact (Gr.refl _).alloc _))).mono ?_; rintro e w2 ⟨rfl, hg2⟩; have c2 := (row_all ((hg2.block w.heap.size (by simp)).trans (heapA w _))).1; have f2 := field_num (opName op) (Ver.takes op) (Ver.lays op) (numbered op) w2; rw [hn] at f2; rw [hn])
      have gw2 : Gr w w2 := ((Gr.refl _).alloc _).trans hg2
      clear cw fw HO f2 hg2
      go_wp2
      all_goals
        go_ret
        refine ⟨?_, gw2⟩
        rw [E.out]
        first | rw [if_pos (by omega)]; rfl | rw [if_neg (by omega)]; rfl
    | true =>
      have E : Hid (Txl.lineE ⟨op, n⟩ = if 0 ≤ n ∧ n ≤ 8000 then 0 else 2) := by
        show Txl.lineE ⟨op, n⟩ = _
        rw [Txl.lineE_op ho]
        show (if 0 ≤ n ∧ n ≤ (if numbered op = true then 8000 else 0) then (0 : Int) else 2) = _
        rw [hn]
        rfl
      go_enter Tryd.func24, Tryd.ntmps24
      go_upto_region 4 with (go_at_call 43; refine (isOperator_any op _).mono ?_; rintro e w1 ⟨rfl, hw1⟩; subst w1; rw [ho])
      go_upto_region 6 with (go_at_call 46; refine (HO.out _ (hT.gr (by exact (Gr.refl _).alloc _))).mono ?_; rintro e w2 ⟨rfl, hg2⟩; have c2 := (row_all ((hg2.block w.heap.size (by simp)).trans (heapA w _))).1; have f2 := field_num (opName op) (Ver.takes op) (Ver.lays op) (numbered op) w2; rw [hn] at f2; rw [hn])
      have gw2 : Gr w w2 := ((Gr.refl _).alloc _).trans hg2
      clear cw fw HO f2 hg2
      go_wp2
      all_goals
        go_ret
        refine ⟨?_, gw2⟩
        rw [E.out]
        first | rw [if_pos (by omega)]; rfl | rw [if_neg (by omega)]; rfl
theorem step_callD {w : World} {ops : Array Oper} {a : Act} {K : Act → World → Prop} {Q : Exit → Act → World → Prop} {E : Prop} {d : Option Tmp} {ty : TypeId} {pos : String} {after : Array Edge} {args : Array Operand} {ats : Array TypeId} {vs : Array Value} {f : Nat} {R : Ending → World → Prop} (hf : ∀ vs w, (callFunc f vs).run Tryd.prog w = .ok (.enter f vs) w) (ha : args.map a.eval = vs) (hc : Calls Tryd.prog f vs w R) (hK : ∀ e w', R e w' → ∃ v, e = .returned v ∧ K (a.put d v) w') :
    if Region.wanted ⟨d, .call { callee := .value (.func f), args := args, argTypes := ats }, ty, pos, after, none⟩ (yielded ops a.tmps) = true then Oper.wp Tryd.prog ⟨d, .call { callee := .value (.func f), args := args, argTypes := ats }, ty, pos, after, none⟩ a w K Q else E := by
  have hw : Region.wanted ⟨d, .call { callee := .value (.func f), args := args, argTypes := ats }, ty, pos, after, none⟩ (yielded ops a.tmps) = true := by simp [Region.wanted]
  rw [if_pos hw]
  unfold Oper.wp
  have hfun : a.eval (.func f) = .func (.func f) #[] #[] := rfl
  generalize a.eval = ev at *
  simp only [execOp, resolve, ha, hfun]
  simp [go_sem, hf]
  refine hc.mono ?_
  intro e w' h
  obtain ⟨v, rfl, hk⟩ := hK e w' h
  exact hk
theorem run_itoaF (vs : Array Value) (w : World) : (callFunc 50 vs).run Tryd.prog w = .ok (.enter 50 vs) w := by
  have h1 : (Tryd.f50.name == "runtime.NumGoroutine") = false := by kernel_rfl
  have h2 : Tryd.f50.body.isNone = false := by kernel_rfl
  have h1' : ¬ Tryd.f50.name = "runtime.NumGoroutine" := by simpa using h1
  have h2' : ¬ Tryd.f50.body = none := by intro h; rw [h] at h2; cases h2
  simp [callFunc, go_sem, Tryd.func50, h1', h2']
theorem app_arrT (a b : List UInt8) : (⟨a.toArray⟩ : ByteArray) ++ ⟨b.toArray⟩ = ⟨(a ++ b).toArray⟩ := by
  show ByteArray.mk _ = _
  simp
set_option maxHeartbeats 1600000 in
theorem line_any (x : Ins) (w : World) (hT : Opr w) (hP : Po w) (h16 : 1 ≤ x.op ∧ x.op ≤ 6) (hn0 : 0 ≤ x.n) (hn1 : x.n ≤ 8000) :
    Calls Tryd.prog 26 #[.agg #[.int .i64 x.op, .int .i64 x.n]] w fun e w' => e = .returned (.string ⟨(Txl.line x).toArray⟩) ∧ Gr w w' := by
  obtain ⟨op, n⟩ := x
  simp only at h16 hn0 hn1 ⊢
  have HO : Hid _ := fun W (h : Opr W) => operatorOf_any op W h h16.1 h16.2
  have hnl := Txl.nm_len op
  have hil := Lib.itoa_length_le n (by omega) (by omega)
  have en := Txl.opName_nm op
  rw [en] at HO
  clear en
  cases hn : numbered op with
  | false =>
    have E : Hid (Txl.line ⟨op, n⟩ = Txl.nm op ++ [10]) := by
      show Txl.line ⟨op, n⟩ = _
      exact if_neg (by show ¬ numbered op = true; rw [hn]; decide)
    go_enter Tryd.func26, Tryd.ntmps26
    go_upto_region 2 with (go_at_call 46; refine (HO.out _ (hT.gr (by exact (Gr.refl _).alloc _))).mono ?_; rintro e w2 ⟨rfl, hg2⟩; rw [hn])
    have gw2 : Gr w w2 := ((Gr.refl _).alloc _).trans hg2
    clear HO hg2
    go_wp2
    go_ret
    refine ⟨?_, gw2.alloc _⟩
    rw [E.out, ← app_arrT]
    rfl
  | true =>
    have E : Hid (Txl.line ⟨op, n⟩ = Txl.nm op ++ [32] ++ Lib.itoa n ++ [10]) := by
      show Txl.line ⟨op, n⟩ = _
      exact if_pos hn
    have HI : Hid _ := fun W (h : Po W) => itoa_gr n W h hn0 hn1
    go_enter Tryd.func26, Tryd.ntmps26
    go_upto_region 2 with (go_at_call 46; refine (HO.out _ (hT.gr (by exact (Gr.refl _).alloc _))).mono ?_; rintro e w2 ⟨rfl, hg2⟩; rw [hn])
    have gw2 : Gr w w2 := ((Gr.refl _).alloc _).trans hg2
    have k1 := (hg2.block w.heap.size (by simp)).trans (heapA w (Obj.cells #[.int .i64 op, .int .i64 n] 54))
    clear HO hg2
    go_upto_region 4 with fail
    obtain ⟨X, hX⟩ : ∃ X, X = w2.alloc (Obj.cells #[.string ⟨(Txl.nm op).toArray⟩, .int .i64 (Ver.takes op), .int .i64 (Ver.lays op), .bool true] 107) := ⟨_, rfl⟩
    have gX : Gr w2 X := by rw [hX]; exact (Gr.refl _).alloc _
    have kX : X.heap[w2.heap.size]? = some (Obj.cells #[.string ⟨(Txl.nm op).toArray⟩, .int .i64 (Ver.takes op), .int .i64 (Ver.lays op), .bool true] 107) := by rw [hX]; exact heapA _ _
    have k2 := (gX.block w.heap.size (Array.getElem?_eq_some_iff.1 k1).1).trans k1
    have gwX := gw2.trans gX
    have pX := hP.gr gwX
    have z1 := (Array.getElem?_eq_some_iff.1 k2).1
    have z2 := (Array.getElem?_eq_some_iff.1 kX).1
    rw [← hX]
    clear hX gX k1 gw2
    obtain ⟨cx, fx⟩ := row_all kX
    obtain ⟨cy, fy⟩ := row_all k2
    have HK : Hid _ := And.intro kX (And.intro k2 (And.intro pX gwX))
    clear kX k2 pX gwX
    have b1 : ¬ 9223372036854775807 < (Txl.nm op).length + 1 := by omega
    have b2 : ¬ 9223372036854775807 < (Txl.nm op).length + 1 + (Lib.itoa n).length := by omega
    have b3 : ¬ 9223372036854775807 < (Txl.nm op).length + 1 + (Lib.itoa n).length + 1 := by omega
    go_region_law (refine step_callD (vs := #[.int .i64 n]) run_itoaF (by first | (simp [Act.eval]; done) | (simp [Act.eval, Act.put]; done)) (HI.out _ (HK.out.2.2.1.gr (by repeat (with_reducible first | exact Gr.refl _ | refine Gr.drew ?_ | refine Gr.drewN ?_ _)))) ?_; intro en w5 hpost5; obtain ⟨rfl, hg5⟩ := hpost5; refine ⟨_, rfl, ?_⟩; have cx5 := (row_all ((hg5.block w2.heap.size z2).trans HK.out.1)).1)
    all_goals
      have gE : Gr w w5 := (HK.out.2.2.2.drew).trans hg5
      clear hg5
      go_wp2
      go_ret
      refine ⟨?_, gE⟩
      rw [E.out, ← app_arrT, ← app_arrT, ← app_arrT]
      rfl
end Go.Proofs.YtcpmbjlhblkniaaDoor
