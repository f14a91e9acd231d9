/- The last loops of the law OptLess: no node twice, and not deep. -/
import Derived.Test.YthlahmabcbbhjaaAskK
import Derived.Test.YthlahmabcbbhjaaCts
import Derived.Test.YthlahmabcbbhjaaFinP
import Derived.Test.YthlahmabcbbhjaaFiA
import Derived.Deep.DeepCutAuto
import Derived.Deep.CutBlock
namespace Go.Proofs.Ythlahmabcbbhjaa
open Go.ChangeShapes Go.WideShapes Go.ChangeAt Go.RowKit Go.Maps
set_option linter.unusedVariables false
def NavO : Nat → Option Code → Option Code
  | 0, o => o
  | n + 1, some (.seq _ b) => NavO n (some b)
  | _ + 1, _ => none
theorem navO_wp {P : Program} {o : Option Code} {c : Code} {Q : Exit → Act → World → Prop} {a : Act} {w : World} (h : o = some c) (hw : Code.wp P c Q a w) : ∀ c', o = some c' → Code.wp P c' Q a w := by
  intro c' h'
  rw [h] at h'
  cases h'
  exact hw
theorem plainElem_bool_inv {H : Type} {P : Program} {e : TypeId} (he : P.underlying e = some .bool) {v : Value} {ps : List MemPlace} {x : Bool} (h : plainElem (H := H) P e v = some (.lit (.bool x), ps)) : v = .bool x := by
  unfold plainElem at h
  rw [he] at h
  split at h <;> simp_all
/-- 'm[k]' where k is not in the map, the elements being Booleans: false. -/
theorem wpList_lookup_none {H : Type} {P : Program} (w : World) {ops : Array Oper} {rest : List Oper} {o : Oper} {a : Act} {Q : Exit → Act → World → Prop}
    (hg : o.guard = none) (m x : Operand) (t : TypeId) (hop : o.op = Op.lookup t m x false)
    (k e : TypeId) (K : Keyed P k) (ht : P.underlying t = some (.map k e)) (he : P.underlying e = some .bool) (hz : (zeroValue e).run P w = .ok (.bool false) w) (b n : Nat) (D : DataW H)
    (hm : a.eval m = .map (some b)) (hown : w.ownsMap P k (plainElem P e) b n D) (key : Value) (kl : Lit) (hx : a.eval x = key) (hkey : keyOf P k key = some kl) (hno : Maps.has D kl = false)
    (hK : wpList P ops Q rest (a.put o.dst (.bool false)) w) :
    wpList P ops Q (o :: rest) a w := by
  refine wpList_plain hg fun K' hK' => ?_
  obtain ⟨v, ps, hrun, hv⟩ := hown.lookup K ht hz (plainElem_bool he false) hkey
  rw [atKey_of_not_has hno] at hv
  obtain rfl := plainElem_bool_inv he hv
  unfold Oper.wp
  simp [execOp, hop, hm, hx, hrun, Result.andThen]
  exact hK' _ _ hK
theorem zeroBoolO (w : World) : (zeroValue 4).run Try.prog w = .ok (.bool false) w := by kernel_rfl
set_option maxRecDepth 100000 in
set_option maxHeartbeats 6400000 in
theorem optLess_end {w wd : World} {u0 u1 u2 u3 u4 u5 u6 u7 u8 u9 u10 u12 u14 u16 u17 u19 u20 u21 u22 u23 u24 u25 u26 u27 u28 u29 u30 u31 u32 u33 u34 u35 u36 u37 u38 u39 u40 u41 u42 u43 u44 u45 u46 u47 u48 u49 u50 u51 u52 u53 u54 u55 u56 u57 u58 u59 u60 u61 u62 u63 u64 u65 u66 u67 u68 u69 u70 u71 u72 u73 u74 u75 u76 u77 u78 u79 u80 u81 u82 u83 u84 u85 u86 u87 u88 u89 u90 u91 u92 u93 u94 u95 u96 u97 u98 u99 u100 u101 u102 u103 u104 u105 u106 u107 u108 u109 u110 u111 u112 u113 u114 u115 u116 u117 u118 u119 u120 u121 u122 u123 u124 u125 u126 u127 u128 u129 u130 u131 u132 u133 u134 u135 u136 u137 u138 u139 u140 u141 u142 u143 u144 u145 u146 u147 u148 : Value} {b5 b6 zcap j : Nat} {za : Option Addr} {zs : List Int} {g5 g6 : Fst} (h5 : FstOk wd g5) (k5 : wd.heap[b5]? = some (.cells g5.cells.toArray 25)) (n5 : g5.nodes.Nodup) (G5 : Good g5) (h6 : FstOk wd g6) (k6 : wd.heap[b6]? = some (.cells g6.cells.toArray 25)) (G6 : Good g6) (hz : IntsAt wd za zs) (hwf : ∀ z ∈ zs, (Lit.int .i64 z).wf = true) (hz8 : zs.length ≤ 8000) (hzc : zs.length ≤ zcap) (hd : ∀ t, askN g6.nodes t g6.nodes.length (g6.nodes.length - 1) ≤ j) (hj : j ≤ 14) (hgr : Gr w wd) :
    ∀ c, NavO 12 Try.f5.body = some c → Code.wp Try.prog c (bodyPost Try.prog Try.f5 (fun e w' => e = .returned (.bool true) ∧ Gr w w')) { tmps := #[u0, u1, u2, u3, u4, u5, u6, u7, u8, u9, u10, .pointer (some ⟨b5, 0, none⟩), u12, .pointer (some ⟨b6, 0, none⟩), u14, .slice za zs.length zcap, u16, u17, .int .i64 (j : Int), u19, u20, u21, u22, u23, u24, u25, u26, u27, u28, u29, u30, u31, u32, u33, u34, u35, u36, u37, u38, u39, u40, u41, u42, u43, u44, u45, u46, u47, u48, u49, u50, u51, u52, u53, u54, u55, u56, u57, u58, u59, u60, u61, u62, u63, u64, u65, u66, u67, u68, u69, u70, u71, u72, u73, u74, u75, u76, u77, u78, u79, u80, u81, u82, u83, u84, u85, u86, u87, u88, u89, u90, u91, u92, u93, u94, u95, u96, u97, u98, u99, u100, u101, u102, u103, u104, u105, u106, u107, u108, u109, u110, u111, u112, u113, u114, u115, u116, u117, u118, u119, u120, u121, u122, u123, u124, u125, u126, u127, u128, u129, u130, u131, u132, u133, u134, u135, u136, u137, u138, u139, u140, u141, u142, u143, u144, u145, u146, u147, u148], defers := [] } wd := by
  refine navO_wp rfl ?_
  have hmm := @run_makeMap Try.prog
  obtain ⟨na5, nc5, nodes5, aa5, ac5, ans5⟩ := g5
  obtain ⟨na6, nc6, nodes6, aa6, ac6, ans6⟩ := g6
  simp only [Fst.cells] at k5 k6
  have b8 := G5.n8
  have nc5' := h5.ncap
  simp only at b8 nc5' n5
  have HAK : Hid _ := (show ∀ (t : Int) (W : World), Gr wd W → Calls Try.prog 19 #[.agg #[.slice na6 nodes6.length nc6, .slice aa6 ans6.length ac6], .int .i64 t] W (fun e w' => ∃ A : Nat, e = .returned (.int .i64 (A : Int)) ∧ A ≤ j ∧ Gr W w') from fun t W hg => (askedK_any ⟨na6, nc6, nodes6, aa6, ac6, ans6⟩ t W (h6.gr hg) G6).mono fun e w' h => ⟨_, h.1, hd t, h.2⟩)
  have HN : Hid _ := n5
  have HZ : Hid _ := hz
  have HWF : Hid _ := hwf
  have HG : Hid _ := hgr
  have H5 : Hid _ := h5
  have K6 : Hid _ := k6
  have z5 : b5 < wd.heap.size := (Array.getElem?_eq_some_iff.1 k5).1
  have z6 : b6 < wd.heap.size := (Array.getElem?_eq_some_iff.1 k6).1
  obtain ⟨c5, f5⟩ := row_all k5
  clear hd n5 hz hwf hgr h5 h6 k6 G5 G6
  go_upto_region 20 with fail
  obtain ⟨W0, hW0⟩ : ∃ W0, W0 = wd.alloc (Obj.map #[] 0) := ⟨_, rfl⟩
  rw [← hW0]
  have g0 : Gr wd W0 := by rw [hW0]; exact (Gr.refl _).alloc _
  have hM0 : W0.ownsMap Try.prog 47 (plainElem (H := Unit) Try.prog 4) wd.heap.size 0 (.map []) := by rw [hW0]; exact World.ownsMap_made wd Try.prog 47 (plainElem Try.prog 4)
  clear hW0 hmm
  have k50 := (g0.block _ z5).trans k5
  clear c5 f5 k5
  obtain ⟨c5, f5⟩ := row_all k50
  have zM : wd.heap.size < W0.heap.size := by
    obtain ⟨es, cl, h1, _⟩ := hM0
    exact (Array.getElem?_eq_some_iff.1 h1).1
  go_upto_block 4 with fail
  clear c5 f5 k50
  go_cut [4] (fun v4 wx => Gr wd wx)
  case first =>
    go_wp2_with fail
    go_loopw [119] (fun t wr => ∃ (k n : Nat) (D : DataW Unit), k ≤ nodes5.length ∧ n ≤ k ∧ t = .int .i64 k ∧ wr.ownsMap Try.prog 47 (plainElem Try.prog 4) wd.heap.size n D ∧ IsMap D ∧ (∀ nd l, keyOf Try.prog 47 (.agg (Nod.cells nd).toArray) = some l → (Maps.has D l = true ↔ nd ∈ nodes5.take k)) ∧ Gr wd wr ∧ wd.heap.size < wr.heap.size) (fun t _ => nodes5.length - (intOf t).toNat)
    case atStart => exact ⟨0, 0, _, Nat.zero_le _, Nat.le_refl _, rfl, hM0, isMap_empty, fun nd l _ => by simp [Maps.has], g0, zM⟩
    case round =>
      obtain ⟨k, n, D, hk, hnk, rfl, hM, hIM, hH, hgr, hzr⟩ := hrel
      by_cases hlt : k < nodes5.length
      · obtain ⟨nd, hnd⟩ : ∃ x, nodes5[k]? = some x := ⟨_, List.getElem?_eq_getElem hlt⟩
        obtain ⟨b, o, e, hb, hcc⟩ := (H5.out.nat.gr hgr).cell k nd hnd
        simp only at e
        subst e
        obtain ⟨q0, q1, q2, q3, q4⟩ := hcc
        have hno := H5.out.nok nd (List.mem_of_getElem? hnd)
        obtain ⟨kl, hkey⟩ := keyNode wr hno
        have hkl : WideAt.IsKeyLit kl := by
          obtain ⟨xs, L, _, _, rfl⟩ := keyOf_top Try.wideNode hkey
          trivial
        have hnot : Maps.has D kl = false := by
          cases h : Maps.has D kl with
          | false => rfl
          | true =>
            have hm := (hH nd kl hkey).1 h
            obtain ⟨i, hi⟩ := List.getElem?_of_mem hm
            have hil := (List.getElem?_eq_some_iff.1 hi).1
            rw [List.length_take] at hil
            rw [List.getElem?_take_of_lt (by omega)] at hi
            have := (List.getElem?_inj (List.getElem?_eq_some_iff.1 hi).1 HN.out).1 (hi.trans hnd.symm)
            omega
        have HND : Hid _ := hnd
        have HKEY : Hid _ := hkey
        have HH : Hid _ := hH
        have HIM : Hid _ := hIM
        have HKL : Hid _ := hkl
        have HGR : Hid _ := hgr
        have i1 : (k : Int) < (nodes5.length : Int) := by omega
        obtain ⟨leaf, an, bo, le, mo⟩ := nd
        simp [Nod.cells] at q0 q1 q2 q3 q4
        simp only [Nod.cells] at hkey
        clear hnd hH hIM hkl hgr hno
        go_wp2_with (first
          | (at_lookup; refine wpList_lookup_none _ rfl _ _ 49 rfl 47 4 lawNode Try.underlying49 Try.underlying4 (zeroBoolO _) wd.heap.size n D rfl (hM.alloc _) _ kl rfl hkey hnot ?_)
          | (at_mapUpdate; refine wpList_mapUpdate_own _ rfl _ _ _ 49 rfl 47 4 lawNode Try.underlying49 _ wd.heap.size n _ rfl (hM.alloc _) (by unfold maxLen; omega) _ _ _ rfl rfl hkey _ [] (plainElem_bool Try.underlying4 true) ?_; intro w3 hown3 hgrow3
             have HE : Hid _ := And.intro hown3 (And.intro ((HGR.out.alloc _).by_ hgrow3 (fun x hx => by cases hx; exact Nat.le_refl _)) hgrow3.size)
             clear hown3 hgrow3))
        go_roundw
        case rel =>
          refine ⟨k + 1, n + 1, _, by omega, by omega, by go_num, HE.out.1, IsMap.put HIM.out _ _, fun nd' l hl => ?_, HE.out.2.1, by have := HE.out.2.2; simp at this; omega⟩
          by_cases e : l = kl
          · subst e
            have := keyNode_inj hl HKEY.out
            subst this
            rw [has_put_same HIM.out HKL.out]
            exact ⟨fun _ => List.mem_of_getElem? (i := k) (by rw [List.getElem?_take_of_lt (by omega)]; exact HND.out), fun _ => rfl⟩
          · rw [has_put_other e, HH.out nd' l hl, List.take_add_one, HND.out]
            constructor
            · intro h; exact List.mem_append_left _ h
            · intro h
              rcases List.mem_append.1 h with h | h
              · exact h
              · have h2 : nd' = _ := List.mem_singleton.1 (by simpa using h)
                rw [h2, HKEY.out] at hl
                cases hl
                exact absurd rfl e
        case measure => simp [intOf]; omega
      · go_wp2_with fail
        go_meet
        case rel => exact hgr
  case rest =>
    have HGX : Hid _ := hcut
    have HZ2 : Hid _ := HZ.out.gr hcut
    have K61 : Hid _ := (hcut.block _ z6).trans K6.out
    have z61 : b6 < wc.heap.size := (Array.getElem?_eq_some_iff.1 K61.out).1
    clear hcut
    go_wp2_with fail
    go_loopw [131] (fun t wr => ∃ k : Nat, k ≤ zs.length ∧ t = .int .i64 k ∧ Gr wc wr) (fun t _ => zs.length - (intOf t).toNat)
    case atStart => exact ⟨0, Nat.zero_le _, rfl, Gr.refl _⟩
    case round =>
      obtain ⟨k, hk, rfl, hgr⟩ := hrel
      by_cases hlt : k < zs.length
      · obtain ⟨z, hzk⟩ : ∃ z, zs[k]? = some z := ⟨_, List.getElem?_eq_getElem hlt⟩
        obtain ⟨b, o, e, hb, hc⟩ := (HZ2.out.gr hgr).cell k z hzk
        subst e
        have i1 : (k : Int) < (zs.length : Int) := by omega
        have k6 := (hgr.block _ z61).trans K61.out
        have c6 := (row_all k6).1
        have K62 : Hid _ := k6
        have z62 : b6 < wr.heap.size := (Array.getElem?_eq_some_iff.1 k6).1
        have HGR : Hid _ := hgr
        clear hzk hgr k6
        go_wp2_with fail
        refine (HAK.out _ _ (HGX.out.trans HGR.out)).mono ?_
        rintro e w2 ⟨A1, rfl, hA1, hg2⟩
        have b1 : decide ((j : Int) < (A1 : Int)) = false := by rw [decide_eq_false_iff_not]; omega
        have b1n : A1 ≤ j := hA1
        have b1m : ¬ j < A1 := by omega
        have k7 := (hg2.block _ z62).trans K62.out
        have c7 := (row_all k7).1
        have HG2 : Hid _ := hg2
        clear c6 k7 hg2 hc
        go_wp2_with fail
        refine (HAK.out _ _ (HGX.out.trans (HGR.out.trans HG2.out))).mono ?_
        rintro e w3 ⟨A2, rfl, hA2, hg3⟩
        have b2 : decide ((j : Int) < (A2 : Int)) = false := by rw [decide_eq_false_iff_not]; omega
        have b2n : A2 ≤ j := hA2
        have b2m : ¬ j < A2 := by omega
        have HG3 : Hid _ := HGR.out.trans (HG2.out.trans hg3)
        clear hg3 c7
        go_wp2_with fail
        go_roundw
        case rel => exact ⟨k + 1, by omega, by go_num, HG3.out⟩
        case measure => simp [intOf]; omega
      · go_wp2
        go_ret
        exact ⟨rfl, (HG.out.trans HGX.out).trans hgr⟩
end Go.Proofs.Ythlahmabcbbhjaa
