/- Contract: a forest shared. -/
import Derived.Test.YthlahmabcbbhjaaAsk
import Derived.Test.YthlahmabcbbhjaaFinF
import Derived.Test.YthlahmabcbbhjaaFiC
import Derived.Test.YthlahmabcbbhjaaFlat
import Derived.Test.YthlahmabcbbhjaaFstB
namespace Go.Proofs.Ythlahmabcbbhjaa
open Go.ChangeShapes Go.WideShapes Go.ChangeAt Go.RowKit Go.Maps
set_option linter.unusedVariables false
theorem FinN.cg {w w' : World} {kb mb lb M base pb : Nat} {v : Value} {ns : List Tre.Nod} {D : DataW Unit} {cs : Array Value} (h : FinN w kb mb lb M base v ns D) (hc : Cg pb w w') (ht : w.heap[pb]? = some (.cells cs 3)) : FinN w' kb mb lb M base v ns D := by
  have hs := h.size
  have hlt : ∀ {b o}, w.heap[b]? = some o → b < w.heap.size := fun e => (Array.getElem?_eq_some_iff.1 e).1
  have hk : kb ≠ pb := fun e => by have := h.kbox; rw [e, ht] at this; cases this
  have hm : mb ≠ pb := fun e => by have := h.mbox; rw [e, ht] at this; cases this
  have hl : lb ≠ pb := fun e => by have := h.lbox; rw [e, ht] at this; cases this
  have hM : M ≠ pb := fun e => by
    obtain ⟨es, cl, h1, _⟩ := h.map
    rw [e, ht] at h1; cases h1
  refine ⟨(hc.block kb (hlt h.kbox) hk).trans h.kbox, (hc.block mb (hlt h.mbox) hm).trans h.mbox, (hc.block lb (hlt h.lbox) hl).trans h.lbox, owns_same h.row fun g hg => hc.block g (owns_lt h.row hg).2 (fun e => ?_), owns_map_sameA h.map (hc.block M (by have := h.M1; omega) hM), h.isMap, h.ok, h.has, h.at_, h.nodup, h.k1, h.m1, h.l1, h.M1, h.ne1, h.ne2, Nat.le_trans hs hc.size⟩
  obtain ⟨cur, hr⟩ := owns_typed h.row hg
  rw [e, ht] at hr; cases hr
theorem FinN.rebase2 {w : World} {kb mb lb M base b2 : Nat} {D : DataW Unit} (h : FinN w kb mb lb M base (.slice none 0 0) [] D) (h1 : base ≤ b2) (h2 : b2 ≤ w.heap.size) : FinN w kb mb lb M b2 (.slice none 0 0) [] D :=
  ⟨h.kbox, h.mbox, h.lbox, ⟨h.row.1, Or.inl ⟨rfl, rfl⟩⟩, h.map, h.isMap, h.ok, h.has, h.at_, h.nodup, Nat.lt_of_lt_of_le h.k1 h1, Nat.lt_of_lt_of_le h.m1 h1, Nat.lt_of_lt_of_le h.l1 h1, Nat.lt_of_lt_of_le h.M1 h1, h.ne1, h.ne2, h2⟩
theorem Gr.fgN {base M lb : Nat} {w1 w w' : World} (h : Gr w1 w) (g : Fg base M lb w w') (h1 : w1.heap.size ≤ base) (h2 : w1.heap.size ≤ M) (h3 : w1.heap.size ≤ lb) : Gr w1 w' :=
  ⟨g.os.trans h.os, g.out.trans h.out, Nat.le_trans h.size g.size, fun b hb => (g.block b (by omega) (by omega) (by omega)).trans (h.block b hb)⟩
theorem name_exit {C : Exit → Act → World → Prop} {x : Exit} {a : Act} (w : World) (h : ∀ W, W = w → C x a W) : C x a w := h w rfl
def intC (zs : List Int) : Array Value := (zs.map fun z => Value.int .i64 z).toArray
theorem intC_at {zs : List Int} {i : Nat} {z : Int} (h : zs[i]? = some z) : (intC zs)[i]? = some (.int .i64 z) := by simp [intC, h]
theorem intC_set (zs : List Int) (i : Nat) (z : Int) : (intC zs).setIfInBounds i (.int .i64 z) = intC (zs.set i z) := by
  simp [intC, List.map_set]
theorem Try.infoIntS : ∃ i, Try.prog.info? 3 = some i ∧ i.zero = some (.int .i64 0) ∧ i.size = 1 ∧ i.bytes = 8 :=
  ⟨_, rfl, by kernel_rfl, by kernel_rfl, by kernel_rfl⟩
set_option maxHeartbeats 3200000 in
theorem share_any (f : Fst) (w : World) (hf : FstOk w f) (hG : Good f) :
    Calls Try.prog 22 #[.agg f.cells.toArray] w fun e w' => ∃ g : Fst, e = .returned (.agg g.cells.toArray) ∧ Made false true false f g w w' := by
  have hfa := hf.acap
  have hfn := hf.ncap
  have HFO : Hid _ := hf
  have HG : Hid _ := hG
  have g1 := hG.ne
  have g2 := hG.n8
  have g3 := hG.a2
  have HF : Hid _ := fun W => finder_any W
  have HAS : Hid _ := fun W (hg : Gr w W) => askedOf_any f.na f.ncap f.nodes W (hf.nat.gr hg) hG.ne hG.n8 hf.ncap hG.down hf.nok
  clear hG hf
  obtain ⟨na, ncap, nodes, aa, acap, answers⟩ := f
  simp only at g1 g2 g3 hfa hfn HAS
  obtain ⟨i0, hi, hi1, hi2, hi3⟩ := Try.infoIntS
  have hmk : ∀ W : World, (Instr.makeSlice 32 (.int .i64 (nodes.length : Int)) (.int .i64 (nodes.length : Int))).run Try.prog W = .ok (.slice (some ⟨W.heap.size, 0, none⟩) nodes.length nodes.length) (W.alloc (.cells (intC (List.replicate nodes.length 0)) 3)) := fun W => by
    have := run_makeSlice (P := Try.prog) W 32 3 i0 _ Try.underlying32 hi hi1 .i64 .i64 (nodes.length : Int) (nodes.length : Int) (by omega) (Int.le_refl _) (by rw [hi2]; simp; omega) (by rw [hi3]; omega) (by omega)
    rw [hi2] at this
    rw [show intC (List.replicate nodes.length 0) = madeCells #[.int .i64 0] nodes.length from by
      apply Array.ext
      · simp [intC, madeCells]
      · intro i h1 h2
        simp [intC, madeCells, Nat.mod_one]]
    simpa [Value.cells] using this
  simp only [Fst.cells]
  go_enter Try.func22, Try.ntmps22
  go_wp2_with fail
  refine (HAS.out _ (by repeat (with_reducible first | exact Gr.refl _ | refine Gr.drew ?_ | refine Gr.alloc ?_ _))).mono ?_
  rintro e w1 ⟨ab, bs, rfl, hbs, hab, hA, hg1⟩
  have hgw1 : Gr w w1 := (((Gr.refl _).alloc _).alloc _).trans hg1
  have k1 : w1.heap[w.heap.size]? = some (.cells #[.slice na nodes.length ncap, .slice aa answers.length acap] 25) := (hg1.block w.heap.size (by simp; omega)).trans (heapB w _ _)
  have k2 : w1.heap[w.heap.size + 1]? = some (.cells #[.slice none 0 0, .slice none 0 0] 25) := (hg1.block (w.heap.size + 1) (by simp)).trans (heapC w _ _)
  have zab : ab < w1.heap.size := (Array.getElem?_eq_some_iff.1 hbs).1
  have z1 : w.heap.size + 1 < w1.heap.size := (Array.getElem?_eq_some_iff.1 k2).1
  clear hg1 hab
  go_wp2_with fail
  refine (HF.out _).mono ?_
  rintro e w2 ⟨kb, mb, lb, M, base, rfl, hFA, hkb, hlb, hM, hbase, hg2⟩
  have K1 : Hid _ := (hg2.block _ (by omega)).trans k1
  have K2 : Hid _ := (hg2.block _ z1).trans k2
  have HGW : Hid _ := hgw1.trans hg2
  have KB : Hid _ := (hg2.block _ zab).trans hbs
  have HA : Hid _ := hA
  have z2 := hg2.size
  obtain ⟨c1, f1⟩ := row_all K1.out
  have HGW1 : Hid _ := hgw1
  have HBS : Hid _ := hbs
  have K11 : Hid _ := k1
  have K12 : Hid _ := k2
  clear k1 k2 hbs hA hgw1
  go_upto_region 4 with fail
  obtain ⟨W0, hW0⟩ : ∃ W0, W0 = w2.alloc (.cells (intC (List.replicate nodes.length 0)) 3) := ⟨_, rfl⟩
  rw [← hW0]
  have gA2 : Gr w2 W0 := by rw [hW0]; exact (Gr.refl _).alloc _
  have KP : Hid _ := (show W0.heap[w2.heap.size]? = some (.cells (intC (List.replicate nodes.length 0)) 3) from by rw [hW0]; exact heapA _ _)
  have zW0 : W0.heap.size = w2.heap.size + 1 := by rw [hW0]; simp
  clear hW0 hmk c1 f1
  have zf : w.heap.size < w2.heap.size := (Array.getElem?_eq_some_iff.1 K1.out).1
  obtain ⟨c1, f1⟩ := row_all ((gA2.block _ zf).trans K1.out)
  have ST : Hid _ := (hFA.gr gA2).rebase2 (by omega) (by omega : w2.heap.size + 1 ≤ W0.heap.size)
  have HG0 : Hid _ := hg2.trans gA2
  go_wp2_with fail
  have hM2 : M < w2.heap.size := Nat.lt_of_lt_of_le hFA.M1 hbase
  have hl2 : lb < w2.heap.size := Nat.lt_of_lt_of_le hFA.l1 hbase
  clear c1 f1 hFA
  go_loopw [23] (fun t wr => ∃ (k : Nat) (zs : List Int) (v : Value) (ns : List Tre.Nod) (D : DataW Unit), k ≤ nodes.length ∧ t = .int .i64 k ∧ Gr w1 wr ∧ FinN wr kb mb lb M (w2.heap.size + 1) v ns D ∧ wr.heap[w2.heap.size]? = some (.cells (intC zs) 3) ∧ Shr nodes bs answers.length k zs ns) (fun t _ => nodes.length - (intOf t).toNat)
  case atStart => exact ⟨0, _, _, [], _, Nat.zero_le _, rfl, HG0.out, ST.out, KP.out, Shr.start⟩
  case round =>
    obtain ⟨k, zs, v, ns, D, hk, rfl, hgr, hF, hrow, hS⟩ := hrel
    by_cases hlt : k < nodes.length
    · obtain ⟨nd, hnd⟩ : ∃ x, nodes[k]? = some x := ⟨_, List.getElem?_eq_getElem hlt⟩
      obtain ⟨bk, hbk⟩ : ∃ x, bs[k]? = some x := ⟨_, List.getElem?_eq_getElem (by rw [HA.out.len]; omega)⟩
      have hgw : Gr w wr := HGW1.out.trans hgr
      obtain ⟨b, o, rfl, hb, hcc⟩ := (HFO.out.nat.gr hgw).cell k nd hnd
      obtain ⟨q0, q1, q2, q3, q4⟩ := hcc
      have hno := HFO.out.nok nd (List.mem_of_getElem? hnd)
      have kas := (hgr.block ab zab).trans HBS.out
      have cas := (row_all kas).1 k
      have fas := (row_all kas).2
      rw [boolC_at hbk] at cas
      have zr : w2.heap.size < wr.heap.size := (Array.getElem?_eq_some_iff.1 hrow).1
      have i6 : (k : Int) < (nodes.length : Int) := by omega
      have HND : Hid _ := hnd
      have HBK : Hid _ := hbk
      have HGR : Hid _ := hgr
      have HFF : Hid _ := hF
      have HROW : Hid _ := hrow
      have HS : Hid _ := hS
      have HNO : Hid _ := hno
      have hzl := hS.zl
      have hnl := hS.len
      obtain ⟨leaf, an, bo, le, mo⟩ := nd
      simp [Nod.cells] at q0 q1 q2 q3 q4
      have z3 : ab < wr.heap.size := Nat.lt_of_lt_of_le zab hgr.size
      clear hnd hbk hgr hF hrow hS hno kas hgw
      cases bk with
      | false =>
        go_wp2_with fail
        go_roundw
        case rel => exact ⟨k + 1, zs, v, ns, D, by omega, by go_num, HGR.out.alloc _, HFF.out.gr ((Gr.refl _).alloc _), (((Gr.refl wr).alloc _).block _ zr).trans HROW.out, HS.out.skip (by rw [HBK.out]; simp)⟩
        case measure => simp [intOf]; omega
      | true =>
        cases leaf with
        | true =>
          obtain ⟨zk, hzk⟩ : ∃ x, zs[k]? = some x := ⟨_, List.getElem?_eq_getElem (by omega)⟩
          have HPL : Hid _ := fun W (h : FinN W kb mb lb M (w2.heap.size + 1) v ns D) => place_any kb mb lb M (w2.heap.size + 1) v ns D ⟨true, an, bo, le, mo⟩ W h HNO.out (by omega)
          simp only [Nod.cells] at HPL
          go_upto_region 8 with fail
          obtain ⟨WX, hWX⟩ : ∃ WX, WX = wr.alloc (Obj.cells #[.bool true, .int .i64 an, .int .i64 bo, .int .i64 le, .int .i64 mo] 47) := ⟨_, rfl⟩
          rw [← hWX]
          have kn : WX.heap[wr.heap.size]? = some (.cells #[.bool true, .int .i64 an, .int .i64 bo, .int .i64 le, .int .i64 mo] 47) := by rw [hWX]; exact heapA _ _
          have gX : Gr wr WX := by rw [hWX]; exact (Gr.refl _).alloc _
          clear hWX cas fas
          have KX := (gX.block _ zr).trans HROW.out
          have HGX : Hid _ := gX
          obtain ⟨cn, fn⟩ := row_all kn
          clear gX kn
          go_wp2_with (go_at_call 53; refine (HPL.out _ (HFF.out.gr (by exact HGX.out))).mono ?_; rintro e w5 ⟨i5, v5, n5, D5, rfl, hi5, hor5, hF5, hg5⟩; have k5 := (hg5.block w2.heap.size (by omega) (by omega) (by omega)).trans KX; have c5 := (row_all k5).1 k; have f5 := (row_all k5).2; rw [intC_at hzk] at c5)
          go_roundw
          case rel =>
            have hg5' : Fg (w2.heap.size + 1) M lb WX w5 := ⟨hg5.os, hg5.out, hg5.size, hg5.block⟩
            have cg5 : Cg w2.heap.size w5 (w5.setCell ⟨w2.heap.size, k, none⟩ (.int .i64 (i5 : Int))) := (Cg.ofGr (Gr.refl _)).setCell _ _
            have k6 := heap_setCell_same w5 w2.heap.size k _ _ (.int .i64 (i5 : Int)) k5
            rw [intC_set] at k6
            exact ⟨k + 1, _, v5, n5, D5, by omega, by go_num, ((HGR.out.trans HGX.out).fgN hg5' (by omega) hM hlb).setCell z2 _, hF5.cg cg5 k5, k6, HS.out.step HA.out HG.out.ng HND.out HBK.out (hi5) (hor5) hF5.nodup⟩
          case measure => simp [intOf]; omega
        | false =>
          obtain ⟨zk, hzk⟩ : ∃ x, zs[k]? = some x := ⟨_, List.getElem?_eq_getElem (by omega)⟩
          have hin := HG.out.ng.down.less k _ HND.out rfl
          simp only at hin
          obtain ⟨hnf, hpq⟩ := HS.out.fits HA.out HG.out.ng HND.out HBK.out
          obtain ⟨p, q, hp, hq, lp, lq, hren⟩ := hpq rfl
          simp only at hp hq hren
          have h4 := HG.out.n8
          simp only at h4
          have HNR : Hid _ := (show NodOk ⟨false, an, bo, p, q⟩ from ⟨HNO.out.ans, HNO.out.bound, WalkArith.wf_i64 ⟨by simp only; omega, by simp only; omega⟩, WalkArith.wf_i64 ⟨by simp only; omega, by simp only; omega⟩⟩)
          have HPL : Hid _ := fun W (h : FinN W kb mb lb M (w2.heap.size + 1) v ns D) => place_any kb mb lb M (w2.heap.size + 1) v ns D ⟨false, an, bo, p, q⟩ W h HNR.out (by omega)
          simp only [Nod.cells] at HPL
          have HREN : Hid _ := hren
          have j1 : le < (nodes.length : Int) := by omega
          have j2 : mo < (nodes.length : Int) := by omega
          have j3 : (0 : Int) ≤ le := hin.1
          have j4 : (0 : Int) ≤ mo := hin.2.2.1
          have j5 : le.toNat < nodes.length := by omega
          have j6 : mo.toNat < nodes.length := by omega
          go_upto_region 9 with fail
          obtain ⟨WX, hWX⟩ : ∃ WX, WX = wr.alloc (Obj.cells #[.bool false, .int .i64 an, .int .i64 bo, .int .i64 le, .int .i64 mo] 47) := ⟨_, rfl⟩
          rw [← hWX]
          have kn : WX.heap[wr.heap.size]? = some (.cells #[.bool false, .int .i64 an, .int .i64 bo, .int .i64 le, .int .i64 mo] 47) := by rw [hWX]; exact heapA _ _
          have gX : Gr wr WX := by rw [hWX]; exact (Gr.refl _).alloc _
          clear hWX cas fas hin hpq hren
          have KX := (gX.block _ zr).trans HROW.out
          have HGX : Hid _ := gX
          have HKN : Hid _ := kn
          obtain ⟨cn, fn⟩ := row_all kn
          have cp := (row_all KX).1 le.toNat
          have cq := (row_all KX).1 mo.toNat
          have hne : wr.heap.size ≠ w2.heap.size := by omega
          rw [intC_at hp] at cp
          rw [intC_at hq] at cq
          have cn3 := cn 3
          have cn4 := cn 4
          simp at cn3 cn4
          clear gX cn
          have kn2 := heap_setCell_same _ wr.heap.size 4 _ _ (.int .i64 (q : Int)) (heap_setCell_same WX wr.heap.size 3 _ _ (.int .i64 (p : Int)) kn)
          simp at kn2
          have KN2 : Hid _ := kn2
          clear kn2 kn
          go_region
          refine name_exit _ (fun WY hWY => ?_)
          have gY : Gr wr WY := by rw [hWY]; exact ((HGX.out.setCell (p := ⟨wr.heap.size, 3, none⟩) (Nat.le_refl _) _).setCell (p := ⟨wr.heap.size, 4, none⟩) (Nat.le_refl _) _).drew
          have kY : WY.heap[wr.heap.size]? = some (.cells #[.bool false, .int .i64 an, .int .i64 bo, .int .i64 p, .int .i64 q] 47) := by rw [hWY]; exact KN2.out
          have HGY : Hid _ := gY
          have KY := (gY.block _ zr).trans HROW.out
          have cY := (row_all kY).1
          clear hWY KX cp cq cn3 cn4 fn kY gY
          go_wp2_with (go_at_call 53; refine (HPL.out _ (HFF.out.gr (by exact HGY.out))).mono ?_; rintro e w5 ⟨i5, v5, n5, D5, rfl, hi5, hor5, hF5, hg5⟩; have k5 := (hg5.block w2.heap.size (by omega) (by omega) (by omega)).trans KY; have c5 := (row_all k5).1 k; have f5 := (row_all k5).2; rw [intC_at hzk] at c5)
          go_roundw
          case rel =>
            have hg5' : Fg (w2.heap.size + 1) M lb WY w5 := ⟨hg5.os, hg5.out, hg5.size, hg5.block⟩
            have cg5 : Cg w2.heap.size w5 (w5.setCell ⟨w2.heap.size, k, none⟩ (.int .i64 (i5 : Int))) := (Cg.ofGr (Gr.refl _)).setCell _ _
            have k6 := heap_setCell_same w5 w2.heap.size k _ _ (.int .i64 (i5 : Int)) k5
            rw [intC_set] at k6
            exact ⟨k + 1, _, v5, n5, D5, by omega, by go_num, ((HGR.out.trans HGY.out).fgN hg5' (by omega) hM hlb).setCell z2 _, hF5.cg cg5 k5, k6, HS.out.step HA.out HG.out.ng HND.out HBK.out (by rw [HREN.out]; exact hi5) (by rw [HREN.out]; exact hor5) hF5.nodup⟩
          case measure => simp [intOf]; omega
    · have hk' : k = nodes.length := by omega
      have hgw := HGW1.out.trans hgr
      have hnl := hS.len
      obtain ⟨nga, ngcap, hav⟩ : ∃ a c, v = .slice a ns.length c := row_form hF.row
      subst hav
      have K6 := (hgr.block _ z1).trans K12.out
      have kf := (hgr.block _ (by omega : w.heap.size < w1.heap.size)).trans K11.out
      have hO : wr.cell? ⟨w.heap.size, 1, none⟩ = some (.slice aa answers.length acap) := (row_all kf).1 1
      have z4 : w.heap.size + 1 < wr.heap.size := Nat.lt_of_lt_of_le z1 hgr.size
      have HCO : Hid _ := fun W (hg : Gr wr W) => copies_any aa acap answers W ((HFO.out.aat.gr hgw).gr hg) (fun y hy => ⟨((HFO.out.aok y hy).gr hgw).gr hg, by have := (fault_small (HG.out.ans y hy)).1; omega, by have := (fault_small (HG.out.ans y hy)).2; omega⟩) (by omega)
      have HFE : Hid _ := hF
      have HS : Hid _ := hS
      have HGWE : Hid _ := hgw
      have HK6 : Hid _ := K6
      have HK' : Hid _ := hk'
      clear hF hS hgw hgr hrow K6 kf hk'
      go_upto_region 12 with fail
      go_region_held3 (fun w' => w'.cell? ⟨w.heap.size, 1, none⟩ = some (.slice aa answers.length acap)) (first | with_reducible exact hO | (simpa [go_sem] using hO))
        (first
          | (go_at_call 54; refine (listed_any kb mb lb M (w2.heap.size + 1) _ ns D _ (HFE.out.gr (by repeat (with_reducible first | exact Gr.refl _ | refine Gr.drew ?_)))).mono ?_; rintro e w4 ⟨rfl, hw4⟩; subst w4)
          | (go_at_call 24; refine (HCO.out _ (by repeat (with_reducible first | exact Gr.refl _ | refine Gr.drew ?_))).mono ?_; rintro e w6 ⟨ob, ys, rfl, hyl, hyv, hyf, hyok, hob, hg6x⟩
             have hg6 : Gr wr w6 := ⟨hg6x.os, hg6x.out, hg6x.size, hg6x.block⟩
             replace hO : w6.cell? ⟨w.heap.size, 1, none⟩ = some (.slice aa answers.length acap) := (hg6.cell _ _ (by omega)).trans hO
             have k6 := (hg6.block (w.heap.size + 1) z4).trans HK6.out
             have c6 := (row_all k6).1
             have f6 := (row_all k6).2
             clear hg6x))
      have hgr6 := HGWE.out.trans hg6
      have HY : Hid _ := fun (_ : Unit) => And.intro hyv (And.intro hyf (And.intro hyok (And.intro hg6 hgr6)))
      have HYL : Hid _ := hyl
      clear hyv hyf hyok hg6 hgr6 hyl
      go_wp2_with fail
      obtain ⟨hyv, hyf, hyok, hg6, hgr6⟩ := HY.out ()
      have hyl := HYL.out
      have hS := HS.out
      rw [HK'.out] at hS
      obtain ⟨na', ncap', hne, hncap, hnmx, hnfive⟩ := owns_fivesV (fun _ => rfl) (owns_gr HFE.out.row hg6)
      cases hne
      obtain ⟨fg1, fg2⟩ := Shr.same (f := ⟨na, ncap, nodes, aa, acap, answers⟩) HG.out hS HA.out hyv (na := nga) (ncap := ngcap) (aa := some ⟨ob, 0, none⟩) (acap := answers.length)
      have hfst : FstOk w6 ⟨nga, ngcap, ns, some ⟨ob, 0, none⟩, answers.length, ys⟩ := ⟨hncap, by show ys.length ≤ answers.length; omega, hnfive, HFE.out.ok, hyf, hyok⟩
      refine bodyPost_ret (v := .agg (Fst.cells ⟨nga, ngcap, ns, some ⟨ob, 0, none⟩, answers.length, ys⟩).toArray) (by simp [results, Try.results22, go_sem, c6, Fst.cells, hyl]) rfl ⟨_, rfl, hfst.but ⟨⟨_, k6⟩⟩ (but2 _ _ _ _), fg1, fg2, ?_, fun h => (by cases h), fun h => (by cases h), fun _ => HFE.out.nodup, fun h => (by cases h)⟩
      repeat (with_reducible first | exact hgr6 | refine Gr.setCell ?_ (by simp) _)
end Go.Proofs.Ythlahmabcbbhjaa
