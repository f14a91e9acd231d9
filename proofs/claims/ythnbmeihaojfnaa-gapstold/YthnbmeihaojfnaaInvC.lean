/- Contract: the edges of spans. -/
import Derived.Test.YthnbmeihaojfnaaEdgM
import Derived.Test.YthnbmeihaojfnaaInvA
import Derived.Test.YthnbmeihaojfnaaTreC
import Derived.Deep.RegionHeld3
import Derived.Deep.AppendLies
import Derived.Lib.RowBridge
import Derived.Deep.DeepCutAuto
import Derived.Deep.CutBlock
namespace Go.Proofs.Ythnbmeihaojfnaa
open Go.ChangeShapes Go.WideShapes Go.ChangeAt Go.RowKit
set_option linter.unusedVariables false
set_option maxRecDepth 100000
/-- The edges of the first k spans, as they lie. -/
def edgK (l : List Spn) : Nat → List Int
  | 0 => []
  | k + 1 => edgK l k ++ (match l[k]? with | some x => [x.frm + x.off, nextF (l.drop (k + 1)) + x.off] | none => [])
theorem edgK_len (l : List Spn) : ∀ k, (edgK l k).length ≤ 2 * k
  | 0 => Nat.le_refl _
  | k + 1 => by
    have := edgK_len l k
    unfold edgK
    cases l[k]? <;> simp <;> omega
theorem edgK_drop (l : List Spn) : ∀ k, k ≤ l.length → edgR l = edgK l k ++ edgR (l.drop k)
  | 0, _ => rfl
  | k + 1, hk => by
    have ih := edgK_drop l k (by omega)
    rw [ih, edgK, List.getElem?_eq_getElem (by omega : k < l.length), List.drop_eq_getElem_cons (by omega : k < l.length)]
    simp [edgR]
theorem edgK_all (l : List Spn) : edgK l l.length = edgR l := by
  have := edgK_drop l l.length (Nat.le_refl _)
  rw [List.drop_length] at this
  simpa [edgR] using this.symm
theorem run_endOf (vs : Array Value) (w : World) : (callFunc 41 vs).run Try.prog w = .ok (.enter 41 vs) w := by
  have h1 : (Try.f41.name == "runtime.NumGoroutine") = false := by kernel_rfl
  have h2 : Try.f41.body.isNone = false := by kernel_rfl
  have h1' : ¬ Try.f41.name = "runtime.NumGoroutine" := by simpa using h1
  have h2' : ¬ Try.f41.body = none := by intro h; rw [h] at h2; cases h2
  simp [callFunc, go_sem, Try.func41, h1', h2']
theorem step_callE {w : World} {ops : Array Oper} {a : Act} {K : Act → World → Prop} {Q : Exit → Act → World → Prop} {E : Prop} {d : Option Tmp} {ty : TypeId} {pos : String} {after : Array Edge} {args : Array Operand} {ats : Array TypeId} {vs : Array Value} {f : Nat} {R : Ending → World → Prop} (hf : ∀ vs w, (callFunc f vs).run Try.prog w = .ok (.enter f vs) w) (ha : args.map a.eval = vs) (hc : Calls Try.prog f vs w R) (hK : ∀ e w', R e w' → ∃ v, e = .returned v ∧ K (a.put d v) w') :
    if Region.wanted ⟨d, .call { callee := .value (.func f), args := args, argTypes := ats }, ty, pos, after, none⟩ (yielded ops a.tmps) = true then Oper.wp Try.prog ⟨d, .call { callee := .value (.func f), args := args, argTypes := ats }, ty, pos, after, none⟩ a w K Q else E := by
  have hw : Region.wanted ⟨d, .call { callee := .value (.func f), args := args, argTypes := ats }, ty, pos, after, none⟩ (yielded ops a.tmps) = true := by simp [Region.wanted]
  rw [if_pos hw]
  unfold Oper.wp
  have hfun : a.eval (.func f) = .func (.func f) #[] #[] := rfl
  generalize a.eval = ev at *
  simp only [execOp, resolve, ha, hfun]
  simp [go_sem, hf]
  refine hc.mono ?_
  intro e w' h
  obtain ⟨v, rfl, hk⟩ := hK e w' h
  exact hk
open Go.Sort in
theorem gr_put {a w : World} (h : Gr a w) {enc : Int → Value} {blk off : Nat} {d : Array Int} (hb : a.heap.size ≤ blk) : Gr a (Go.Sort.putRow enc w blk off d) :=
  ⟨h.os, h.out, by rw [size_putRow]; exact h.size, fun b hlt => by
    rw [← h.block b hlt]
    have hne : blk ≠ b := by omega
    simp [putRow, mapBlock, Array.getElem?_modify, hne]⟩
open Go.Sort in
theorem gr_grow {a w : World} (h : Gr a w) (os : Array Obj) : Gr a (Go.Sort.grow w os) :=
  ⟨h.os, h.out, by rw [Go.Sort.size_grow]; have := h.size; omega, fun b hlt => (show (Go.Sort.grow w os).heap[b]? = w.heap[b]? by have hlw := Nat.lt_of_lt_of_le hlt h.size; simp [Go.Sort.grow, Array.getElem?_append, hlw]).trans (h.block b hlt)⟩
open Go.Sort in
theorem gr_ahead {a w : World} (h : Gr a w) (n : Nat) : Gr a (Go.Sort.ahead w n) := ⟨h.os, h.out, h.size, h.block⟩
open Go.Sort in
theorem holds_ints {w : World} {g : Nat} {zs : List Int} (h : Holds (Value.int .i64) w g 0 zs.toArray) (hg : g < w.heap.size) (n : Nat) (hn : n ≤ zs.length) (h8 : n ≤ 100000) : IntsAt w (some ⟨g, 0, none⟩) (zs.take n) :=
  ⟨by unfold maxLen; rw [List.length_take]; omega, fun i z hz => by
    have hi := (List.getElem?_eq_some_iff.1 hz).1
    rw [List.length_take] at hi
    rw [List.getElem?_take_of_lt (by omega)] at hz
    have hc := (h i (by simp; omega)).1
    refine ⟨g, 0, rfl, hg, ?_⟩
    rw [hc]
    have hi2 := (List.getElem?_eq_some_iff.1 hz)
    obtain ⟨h1, h2⟩ := hi2
    simp [h1, h2]⟩
theorem ints_appC (a b : List Int) : ints (a ++ b) = ints a ++ ints b := by simp [ints]
set_option maxHeartbeats 3200000 in
theorem edges_any (a : Option Addr) (cap : Nat) (l : List Spn) (w : World) (hs : SpansAt w a l) (h0 : 0 < l.length) (h1 : l.length ≤ 1000) (hg : ∀ x ∈ l, SpnGood x) :
    Calls Try.prog 22 #[.slice a l.length cap] w fun e w' => ∃ (va : Option Addr) (vcap : Nat), e = .returned (.slice va (edges l).length vcap) ∧ IntsAt w' va (edges l) ∧ Gr w w' := by
  have HSP : Hid _ := hs
  have HEO : Hid _ := fun i W (hi : i < l.length) (hgr : Gr w W) => endOf_any a cap l i W (hs.gr hgr) h1 hi
  have HGD : Hid _ := hg
  obtain ⟨i0, hi, hi1, hi2, hi3⟩ := Try.infoInt
  clear hs hg
  go_enter Try.func22, Try.ntmps22
  go_wp2_with fail
  refine (window_any _).mono ?_
  rintro e w1 ⟨rfl, rfl⟩
  go_upto_block 0 with fail
  obtain ⟨W1, hW1⟩ : ∃ W, W = w1.alloc (Obj.cells #[.int .i64 (-2209161601)] 3) := ⟨_, rfl⟩
  have gW1 : Gr w1 W1 := by rw [hW1]; exact (Gr.refl _).alloc _
  have hO1 : W1.ownsRow w1.heap.size 3 1 (.slice (some ⟨w1.heap.size, 0, none⟩) 1 1) (-2209161601 :: edgK l 0).length (ints (-2209161601 :: edgK l 0)) := by
    rw [hW1]
    exact ⟨rfl, Or.inr ⟨w1.heap.size, 1, _, rfl, Nat.le_refl _, heapA _ _, Nat.le_refl _, by unfold maxLen; omega, rfl, rfl⟩⟩
  have HO1 : Hid _ := And.intro hO1 gW1
  rw [← hW1]
  clear hW1 gW1 hO1
  go_cut [5] (fun v wx => wx.ownsRow w1.heap.size 3 1 v (-2209161601 :: edgK l l.length).length (ints (-2209161601 :: edgK l l.length)) ∧ Gr w1 wx)
  case first =>
    go_wp2_with fail
    go_loopw [5, 18] (fun v t wr => ∃ k : Nat, k ≤ l.length ∧ t = .int .i64 k ∧ wr.ownsRow w1.heap.size 3 1 v (-2209161601 :: edgK l k).length (ints (-2209161601 :: edgK l k)) ∧ Gr w1 wr) (fun _ t _ => l.length - (intOf t).toNat)
    case atStart => exact ⟨0, Nat.zero_le _, rfl, HO1.out⟩
    case round =>
      obtain ⟨k, hk, rfl, hown, hgr⟩ := hrel
      have HOWN : Hid _ := hown
      have HGR : Hid _ := hgr
      clear hown hgr
      by_cases hlt : k < l.length
      · obtain ⟨x, hx⟩ : ∃ x, l[k]? = some x := ⟨_, List.getElem?_eq_getElem hlt⟩
        obtain ⟨_, b, o, e, hb, q0, q1, q2, q3⟩ := (HSP.out.gr HGR.out).cell k x hx
        subst e
        have g := HGD.out x (List.mem_of_getElem? hx)
        have g1 := g.lo
        have g2 := g.hi
        have g3 := g.olo
        have g4 := g.ohi
        have j1 : (k : Int) < (l.length : Int) := by omega
        obtain ⟨R, hR⟩ : ∃ R, nextF (l.drop (k + 1)) = R := ⟨_, rfl⟩
        have hRb : -2208988800 ≤ R ∧ R ≤ 4102444800 := by rw [← hR]; exact next_bd (fun y hy => HGD.out y (List.mem_of_mem_drop hy))
        have HEK : Hid _ := fun W (hgr : Gr w1 W) => HEO.out k W hlt hgr
        simp only [hR] at HEK
        have HK1 : Hid _ := (show edgK l (k + 1) = edgK l k ++ [x.frm + x.off, R + x.off] by rw [edgK, hx, hR])
        obtain ⟨frm, off, sv, nm⟩ := x
        simp only at q0 q1 q2 q3 g1 g2 g3 g4 HK1
        have w2a : IntKind.i64.wrap (frm + off) = frm + off := IntWalk.i64_in _ ⟨by omega, by omega⟩
        have w3a : IntKind.i64.wrap (R + off) = R + off := IntWalk.i64_in _ ⟨by omega, by omega⟩
        obtain ⟨va, vcap, rfl, hvc, hza⟩ := owns_ints HOWN.out
        obtain ⟨ne, hne⟩ : ∃ ne, ne = (-2209161601 :: edgK l k).length := ⟨_, rfl⟩
        have hne2 : ne ≤ 3000 := by rw [hne]; have := edgK_len l k; simp; omega
        have HOW : Hid _ := (show wr.ownsRow w1.heap.size 3 1 (.slice va ne vcap) ne (ints (-2209161601 :: edgK l k)) by rw [hne]; exact HOWN.out)
        have HNE : Hid _ := hne
        rw [← hne]
        rw [← hne] at hvc
        clear hx g hR hza hne HOWN
        go_upto_region 6 with fail
        obtain ⟨W, hW⟩ : ∃ W, W = wr.alloc (Obj.cells #[.int .i64 frm, .int .i64 off, .bool sv, .string nm] 50) := ⟨_, rfl⟩
        rw [← hW]
        have gW : Gr wr W := by rw [hW]; exact (Gr.refl _).alloc _
        have kW : W.heap[wr.heap.size]? = some (.cells #[.int .i64 frm, .int .i64 off, .bool sv, .string nm] 50) := by rw [hW]; exact heapA _ _
        have c0 := (row_all kW).1 0
        have c1 := (row_all kW).1 1
        simp at c0 c1
        have HGW : Hid _ := HGR.out.trans gW
        have HOW2 : Hid _ := owns_gr HOW.out gW
        have zb : w1.heap.size ≤ W.heap.size := HGW.out.size
        clear hW gW kW q0 q1 q2 q3
        go_region_law (first
          | (refine step_callE (vs := #[.slice (some ⟨b, o, none⟩) l.length cap, .int .i64 k]) run_endOf (by simp [Act.eval, Act.put]) (HEK.out _ (by repeat (with_reducible first | exact HGW.out | refine Gr.drew ?_ | refine Gr.drewN ?_ _))) ?_; intro en w5 hpost; obtain ⟨rfl, hw5⟩ := hpost; subst w5; refine ⟨_, rfl, ?_⟩)
          | (refine step_append_lies _ (by rfl) _ _ _ (by rfl) w1.heap.size 3 i0 _ 1 8 Try.underlying34 hi hi1 hi2 hi3 rfl (by decide) (.slice va ne vcap) ne (ints (-2209161601 :: edgK l k)) (by rfl) (owns_gr HOW2.out (by repeat (with_reducible first | exact Gr.refl _ | refine Gr.drew ?_ | refine Gr.drewN ?_ _ | refine Gr.alloc ?_ _))) ⟨W.heap.size, 0, none⟩ 2 2 [.int .i64 (frm + off), .int .i64 (R + off)] (by rfl) (by rfl) (World.news_of_block (cs := #[.int .i64 (frm + off), .int .i64 (R + off)]) (t := 3) (fr := (0, 0)) (heapA W _)) (by simp [Value.oneCell']) (by omega) (by unfold maxLen; omega) (by omega) (by simp; omega) (W.heap.size + 1) (by simp) ?_; intro g6 cap6 w6 hown6 hgrow6 hat6 hlt6
             have HE : Hid _ := And.intro hown6 (show Gr w1 w6 from (Gr.by_ (by repeat (with_reducible first | exact HGW.out | refine Gr.drew ?_ | refine Gr.drewN ?_ _ | refine Gr.alloc ?_ _)) hgrow6 (fun x hx => (owns_lt HOW2.out hx).1)))
             clear hown6 hgrow6 hat6 hlt6))
        all_goals
          go_wp2
          go_roundw
          case rel =>
            refine ⟨k + 1, by omega, by go_num, ?_, HE.out.2⟩
            have h7 := HE.out.1
            rw [HK1.out, ← List.cons_append, ints_appC, List.length_append, ← HNE.out]
            exact h7
          case measure => simp [intOf]; omega
      · have hk' : k = l.length := by omega
        subst hk'
        go_wp2_with fail
        go_meet
        case rel => exact ⟨HOWN.out, HGR.out⟩
  case rest =>
    obtain ⟨hown, hgx⟩ := hcut
    rw [edgK_all] at hown
    obtain ⟨es, hes⟩ : ∃ es, -2209161601 :: edgR l = es := ⟨_, rfl⟩
    have HED : Hid _ := (show edges l = Go.Lib.compact (sortE es) by unfold edges; rw [hes])
    have hel : es.length = 2 * l.length + 1 := by rw [← hes, List.length_cons, edgR_len]
    rw [hes] at hown
    have hown2 := hown
    rcases hown.2 with ⟨_, e'⟩ | ⟨g, cap', cur, rfl, hb, hrow, hn1, hn2, hn3⟩
    · omega
    have hgl : g < wc.heap.size := (Array.getElem?_eq_some_iff.1 hrow).1
    have hH : Go.Sort.Holds (Value.int .i64) wc g 0 es.toArray := fun j hj => by
      have hj' : j < es.length := by simpa using hj
      obtain ⟨a', c', e1, _, hz⟩ := owns_ints hown2
      cases e1
      obtain ⟨b2, o2, e2, _, hc2⟩ := hz.cell j es[j] (List.getElem?_eq_getElem hj')
      cases e2
      refine ⟨?_, (row_all hrow).2 _⟩
      rw [hc2]
      simp [hj']
    have HSO : Hid _ := fun (_ : Unit) => Try.slices_Sort_int g 0 cap' es wc hH hgl (by omega)
    have hsl : (sortE es).length = es.length := (sortE_perm es).length_eq
    have HH : Hid _ := fun n os => (show Go.Sort.Holds (Value.int .i64) (Go.Sort.grow (Go.Sort.putRow (Value.int .i64) (Go.Sort.ahead wc n) g 0 (sortE es).toArray) os) g 0 (sortE es).toArray from Go.Sort.holds_grow _ _ _ _ _ _ (by simpa using hgl) (Go.Sort.holds_putRow _ _ _ _ es.toArray _ (Go.Sort.holds_ahead _ _ _ _ _ _ hH) (by simp [hsl])))
    have HG : Hid _ := fun n os => gr_grow (gr_put (gr_ahead hgx n) (enc := Value.int .i64) (off := 0) (d := (sortE es).toArray) hb) os
    have HEL : Hid _ := hel
    have HSL : Hid _ := hsl
    have hel9 : es.length ≤ 3000 := by omega
    clear hown hown2 hrow hH hgx hes hel hsl hn3
    go_wp2_with fail
    refine (HSO.out ()).mono ?_
    rintro e w2 ⟨rfl, n2, os2, rfl⟩
    obtain ⟨W2, hW2⟩ : ∃ W, W = Go.Sort.grow (Go.Sort.putRow (Value.int .i64) (Go.Sort.ahead wc n2) g 0 (sortE es).toArray) os2 := ⟨_, rfl⟩
    have hH2 := HH.out n2 os2
    have hG2 := HG.out n2 os2
    have hgl2 : g < W2.heap.size := by rw [hW2]; simp; omega
    rw [← hW2] at hH2 hG2
    have hW2' : Go.Sort.grow (Go.Sort.putRow (Value.int .i64) (Go.Sort.ahead wc n2) g 0 (es.mergeSort fun x y => decide (x ≤ y)).toArray) os2 = W2 := hW2.symm
    rw [hW2']
    have hco := Try.slices_Compact_int g 0 cap' (sortE es) W2 hH2 (by rw [HSL.out]; omega) (by rw [HSL.out]; omega)
    rw [HSL.out] at hco
    have HCO : Hid _ := fun (_ : Unit) => hco
    have HCL : Hid _ := Go.Lib.compact_length_le (sortE es)
    clear hW2 hW2' hco
    go_wp2_with fail
    refine (HCO.out ()).mono ?_
    rintro e w3 ⟨rfl, n3, rfl⟩
    go_wp2_with fail
    go_ret
    have hcl := HCL.out
    have hsl := HSL.out
    have hcp : (edges l).length = (Go.Lib.compact (sortE es)).length := by rw [HED.out]
    refine ⟨some ⟨g, 0, none⟩, cap', by rw [hcp]; rfl, ?_, gr_put (gr_ahead hG2 n3) hb⟩
    have hH3 := Go.Sort.holds_putRow (Value.int .i64) (Go.Sort.ahead W2 n3) g 0 (sortE es).toArray (Go.Lib.compact (sortE es) ++ List.replicate (es.length - (Go.Lib.compact (sortE es)).length) 0).toArray (Go.Sort.holds_ahead _ _ _ _ _ _ hH2) (by simp; omega)
    have := holds_ints hH3 (by simpa using hgl2) (Go.Lib.compact (sortE es)).length (by simp) (by omega)
    rw [List.take_left] at this
    rw [HED.out]
    exact this
end Go.Proofs.Ythnbmeihaojfnaa
