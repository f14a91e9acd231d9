/- Contract: which nodes the root leads to. -/
import Derived.Test.YthlahmabcbbhjaaShrM
import Derived.Test.YthlahmabcbbhjaaCop
import Derived.Deep.RegionHeld3
import Derived.Deep.Cut
namespace Go.Proofs.Ythlahmabcbbhjaa
open Go.ChangeShapes Go.WideShapes Go.ChangeAt Go.RowKit Go.Maps
set_option linter.unusedVariables false
def boolC (bs : List Bool) : Array Value := (bs.map Value.bool).toArray
theorem boolC_at {bs : List Bool} {i : Nat} {b : Bool} (h : bs[i]? = some b) : (boolC bs)[i]? = some (.bool b) := by simp [boolC, h]
theorem boolC_set (bs : List Bool) (i : Nat) : (boolC bs).setIfInBounds i (.bool true) = boolC (bs.set i true) := by
  simp [boolC, List.map_set]
theorem Try.infoBool : ∃ i, Try.prog.info? 4 = some i ∧ i.zero = some (.bool false) ∧ i.size = 1 ∧ i.bytes = 1 :=
  ⟨_, rfl, by kernel_rfl, by kernel_rfl, by kernel_rfl⟩
set_option maxHeartbeats 3200000 in
theorem askedOf_any (a : Option Addr) (cap : Nat) (nodes : List Tre.Nod) (w : World) (hN : FivesAt w a nodes Nod.cells) (h0 : 0 < nodes.length) (h8 : nodes.length ≤ 8000) (hc : nodes.length ≤ cap) (hD : Down nodes) (hok : ∀ n ∈ nodes, NodOk n) :
    Calls Try.prog 41 #[.slice a nodes.length cap] w fun e w' => ∃ (ab : Nat) (bs : List Bool), e = .returned (.slice (some ⟨ab, 0, none⟩) nodes.length nodes.length) ∧ w'.heap[ab]? = some (.cells (boolC bs) 4) ∧ w.heap.size ≤ ab ∧ AskK nodes bs 0 ∧ Gr w w' := by
  obtain ⟨i0, hi, hi1, hi2, hi3⟩ := Try.infoBool
  have hmk : ∀ W : World, (Instr.makeSlice 75 (.int .i64 (nodes.length : Int)) (.int .i64 (nodes.length : Int))).run Try.prog W = .ok (.slice (some ⟨W.heap.size, 0, none⟩) nodes.length nodes.length) (W.alloc (.cells (boolC (List.replicate nodes.length false)) 4)) := fun W => by
    have := run_makeSlice (P := Try.prog) W 75 4 i0 _ Try.underlying75 hi hi1 .i64 .i64 (nodes.length : Int) (nodes.length : Int) (by omega) (Int.le_refl _) (by rw [hi2]; simp; omega) (by rw [hi3]; omega) (by omega)
    rw [hi2] at this
    rw [show boolC (List.replicate nodes.length false) = madeCells #[.bool false] nodes.length from by
      apply Array.ext
      · simp [boolC, madeCells]
      · intro i h1 h2
        simp [boolC, madeCells, Nat.mod_one]]
    simpa [Value.cells] using this
  have HD : Hid _ := hD
  have hwr : IntKind.i64.wrap ((nodes.length : Int) - 1) = (nodes.length : Int) - 1 := IntWalk.i64_in _ ⟨by omega, by omega⟩
  have i3 : ((nodes.length : Int) - 1).toNat = nodes.length - 1 := by omega
  have i1 : (nodes.length : Int) - 1 < (nodes.length : Int) := by omega
  have i2 : (0 : Int) ≤ (nodes.length : Int) - 1 := by omega
  have i5 : nodes.length - 1 < nodes.length := by omega
  go_enter Try.func41, Try.ntmps41
  go_upto_region 2 with fail
  obtain ⟨W0, hW0⟩ : ∃ W0, W0 = w.alloc (.cells (boolC (List.replicate nodes.length false)) 4) := ⟨_, rfl⟩
  rw [← hW0]
  have r0 : W0.heap[w.heap.size]? = some (.cells (boolC (List.replicate nodes.length false)) 4) := by rw [hW0]; exact heapA _ _
  have g0 : Gr w W0 := by rw [hW0]; exact (Gr.refl w).alloc _
  have z0 : w.heap.size < W0.heap.size := by rw [hW0]; simp
  clear hW0 hmk
  have c0 := (row_all r0).1 (nodes.length - 1)
  have f0 := (row_all r0).2
  rw [boolC_at (b := false) (by rw [List.getElem?_replicate, if_pos i5])] at c0
  have r1 := heap_setCell_same W0 w.heap.size (nodes.length - 1) _ _ (.bool true) r0
  rw [boolC_set] at r1
  have g1 : Gr w (W0.setCell ⟨w.heap.size, nodes.length - 1, none⟩ (.bool true)) := g0.setCell (Nat.le_refl _) _
  have R1 : Hid _ := r1
  have G1 : Hid _ := g1
  clear r0 g0 r1 g1
  go_wp2_with fail
  go_loopw [4] (fun t wr => ∃ (k : Nat) (bs : List Bool), k ≤ nodes.length ∧ t = .int .i64 ((k : Int) - 1) ∧ AskK nodes bs k ∧ wr.heap[w.heap.size]? = some (.cells (boolC bs) 4) ∧ Gr w wr) (fun t _ => (intOf t + 1).toNat)
  case atStart => exact ⟨nodes.length, _, Nat.le_refl _, rfl, AskK.start h0, R1.out, G1.out⟩
  case round =>
    obtain ⟨k, bs, hk, rfl, hA, hrow, hgr⟩ := hrel
    match k with
    | 0 =>
      go_wp2
      go_ret
      exact ⟨w.heap.size, bs, rfl, hrow, Nat.le_refl _, hA, hgr⟩
    | k + 1 =>
      have hk1 : ((k + 1 : Nat) : Int) - 1 = (k : Int) := by omega
      obtain ⟨nd, hnd⟩ : ∃ x, nodes[k]? = some x := ⟨_, List.getElem?_eq_getElem (by omega)⟩
      obtain ⟨bk, hbk⟩ : ∃ x, bs[k]? = some x := ⟨_, List.getElem?_eq_getElem (by rw [hA.len]; omega)⟩
      have hno := hok _ (List.mem_of_getElem? hnd)
      obtain ⟨b, o, rfl, hb, hcc⟩ := (hN.gr hgr).cell k nd hnd
      obtain ⟨q0, q1, q2, q3, q4⟩ := hcc
      have HND : Hid _ := hnd
      have HBK : Hid _ := hbk
      have hz := hA.len
      have zr : w.heap.size < wr.heap.size := (Array.getElem?_eq_some_iff.1 hrow).1
      have ck := (row_all hrow).1 k
      have fr := (row_all hrow).2
      rw [boolC_at hbk] at ck
      have i6 : (k : Int) < (nodes.length : Int) := by omega
      have i7 : k < nodes.length := by omega
      have hwk : IntKind.i64.wrap ((k : Int) - 1) = (k : Int) - 1 := IntWalk.i64_in _ ⟨by omega, by omega⟩
      have HA : Hid _ := hA
      have HROW : Hid _ := hrow
      have HGR : Hid _ := hgr
      have HNO : Hid _ := hno
      rw [hk1]
      obtain ⟨leaf, an, bo, le, mo⟩ := nd
      simp [Nod.cells] at q0 q1 q2 q3 q4
      clear hnd hbk hA hrow hgr hno
      cases bk with
      | false =>
        go_wp2_with fail
        go_roundw
        case rel => exact ⟨k, bs, by omega, rfl, HA.out.skip HND.out (Or.inl HBK.out), (((Gr.refl wr).alloc _).block _ zr).trans HROW.out, HGR.out.alloc _⟩
        case measure => simp [intOf]
      | true =>
        cases leaf with
        | true =>
          go_wp2_with fail
          go_roundw
          case rel => exact ⟨k, bs, by omega, rfl, HA.out.skip HND.out (Or.inr rfl), (((Gr.refl wr).alloc _).block _ zr).trans HROW.out, HGR.out.alloc _⟩
          case measure => simp [intOf]
        | false =>
          have hin := HD.out.less k _ HND.out rfl
          simp only at hin
          have j1 : le < (nodes.length : Int) := by omega
          have j2 : mo < (nodes.length : Int) := by omega
          have j3 : (0 : Int) ≤ le := hin.1
          have j4 : (0 : Int) ≤ mo := hin.2.2.1
          have j5 : le.toNat < nodes.length := by omega
          have j6 : mo.toNat < nodes.length := by omega
          obtain ⟨vl, hvl⟩ : ∃ x, bs[le.toNat]? = some x := ⟨_, List.getElem?_eq_getElem (by omega)⟩
          obtain ⟨vm, hvm⟩ : ∃ x, bs[mo.toNat]? = some x := ⟨_, List.getElem?_eq_getElem (by omega)⟩
          go_upto_region 8 with fail
          obtain ⟨W, hW⟩ : ∃ W, W = wr.alloc (Obj.cells #[.bool false, .int .i64 an, .int .i64 bo, .int .i64 le, .int .i64 mo] 47) := ⟨_, rfl⟩
          rw [← hW]
          have kn : W.heap[wr.heap.size]? = some (.cells #[.bool false, .int .i64 an, .int .i64 bo, .int .i64 le, .int .i64 mo] 47) := by rw [hW]; exact heapA _ _
          have gW : Gr wr W := by rw [hW]; exact (Gr.refl _).alloc _
          clear hW fr ck
          have kr := (gW.block _ zr).trans HROW.out
          have cl := (row_all kr).1 le.toNat
          have cm := (row_all kr).1 mo.toNat
          have fr := (row_all kr).2
          rw [boolC_at hvl] at cl
          rw [boolC_at hvm] at cm
          have hne : w.heap.size ≠ wr.heap.size := by omega
          have HKR : Hid _ := kr
          have HGW : Hid _ := gW
          have hO : W.cell? ⟨wr.heap.size, 3, none⟩ = some (.int .i64 le) ∧ W.cell? ⟨wr.heap.size, 4, none⟩ = some (.int .i64 mo) := ⟨(row_all kn).1 3, (row_all kn).1 4⟩
          clear kr gW kn hvl hvm hin
          have hfin : ∀ W' : World, (∀ x : Nat, W'.heap[x]? = ((W.setCell ⟨w.heap.size, le.toNat, none⟩ (.bool true)).setCell ⟨w.heap.size, mo.toNat, none⟩ (.bool true)).heap[x]?) → W'.heap[w.heap.size]? = some (.cells (boolC ((bs.set le.toNat true).set mo.toNat true)) 4) := fun W' hW' => by
            have k1 := heap_setCell_same _ w.heap.size mo.toNat _ _ (.bool true) (heap_setCell_same W w.heap.size le.toNat _ _ (.bool true) HKR.out)
            rw [boolC_set, boolC_set] at k1
            rw [hW']; exact k1
          have HFIN : Hid _ := hfin
          clear hfin
          by_cases hlm : le = mo
          · subst hlm
            clear cm
            go_region_held3 (fun w' => w'.cell? ⟨wr.heap.size, 3, none⟩ = some (.int .i64 le) ∧ w'.cell? ⟨wr.heap.size, 4, none⟩ = some (.int .i64 le)) (first | with_reducible exact hO | (simpa [go_sem, hne, Ne.symm hne] using hO)) (fail)
            go_wp2_with fail
            go_roundw
            case rel => exact ⟨k, _, by omega, rfl, HA.out.step HD.out HND.out HBK.out rfl, HFIN.out _ (fun _ => rfl), by repeat (with_reducible first | exact HGR.out.trans HGW.out | refine Gr.drew ?_ | refine Gr.setCell ?_ (Nat.le_refl _) _)⟩
            case measure => simp [intOf]
          · have hne2 : le.toNat ≠ mo.toNat := by omega
            go_region_held3 (fun w' => w'.cell? ⟨wr.heap.size, 3, none⟩ = some (.int .i64 le) ∧ w'.cell? ⟨wr.heap.size, 4, none⟩ = some (.int .i64 mo)) (first | with_reducible exact hO | (simpa [go_sem, hne, Ne.symm hne] using hO)) (fail)
            go_wp2_with fail
            go_roundw
            case rel => exact ⟨k, _, by omega, rfl, HA.out.step HD.out HND.out HBK.out rfl, HFIN.out _ (fun _ => rfl), by repeat (with_reducible first | exact HGR.out.trans HGW.out | refine Gr.drew ?_ | refine Gr.setCell ?_ (Nat.le_refl _) _)⟩
            case measure => simp [intOf]
end Go.Proofs.Ythlahmabcbbhjaa
