/- Contracts: add, away, number of Gen's writer. -/
import Derived.Test.YtcpmbjlhblkniaaDoorGenW
namespace Go.Proofs.YtcpmbjlhblkniaaDoor
open Go.ChangeShapes Go.WideShapes Go.ChangeAt Go.RowKit Go.Maps
set_option linter.unusedVariables false
set_option maxRecDepth 100000
/-- Behind an append of an instruction, and the store of the new slice. -/
theorem GW.addc {w0 w W w6 : World} {base wb lb M : Nat} {na : Option Addr} {ncap : Nat} {nodes : List Tre.Nod} {s : Gn.GS} {cv pv v' : Value} {cs : Array Value} {D : DataW Unit} {op n : Int} (h : GW w0 w base wb lb M na ncap nodes s cv pv cs D)
    (g : Gr w W) (hgrow : W.grownBy w6 cv.ownBlock) (hown : w6.ownsRow base 54 2 v' (s.code.length + 1) (insG s.code.reverse ++ [.int .i64 op, .int .i64 n])) :
    GW w0 (w6.setCell ⟨wb, 1, none⟩ v') base wb lb M na ncap nodes (Gn.add s op n) v' pv cs D ∧ Kp wb w (w6.setCell ⟨wb, 1, none⟩ v') := by
  have hW := h.gr_ g
  obtain ⟨n1, n2, n3⟩ := h.ne
  have hge : ∀ x, cv.ownBlock = some x → base ≤ x := fun x hx => (owns_lt hW.code hx).1
  have hbl : ∀ x, x < base → w6.heap[x]? = W.heap[x]? := fun x hx => hgrow.block x (Nat.lt_of_lt_of_le hx hW.base) (fun e => by have := hge x e.symm; omega)
  have ho : ∀ x, x ≠ wb → (w6.setCell ⟨wb, 1, none⟩ v').heap[x]? = w6.heap[x]? := fun x hne => heap_setCell_other w6 ⟨wb, 1, none⟩ x _ hne
  have hb1 := hW.b1
  refine ⟨⟨?_, ?_, ?_, hW.lsize, hW.lat, ?_, ?_, ?_, hW.ns, hW.nok, hW.b0, hW.l0, hW.m0, hW.b1, hW.l1, hW.m1, ?_⟩, ⟨?_, ?_⟩⟩
  · have := heap_setCell_same w6 wb 1 _ _ v' ((hbl wb hW.b1).trans hW.box)
    simpa using this
  · have e : insG (Gn.add s op n).code.reverse = insG s.code.reverse ++ [.int .i64 op, .int .i64 n] := by
      show insG (⟨op, n⟩ :: s.code).reverse = _
      rw [List.reverse_cons, insG_app]; rfl
    rw [e]
    exact owns_same hown fun x hx => ho x (by have := (owns_lt hown hx).1; omega)
  · rw [ho lb (Ne.symm n1), hbl lb hW.l1]; exact hW.lens
  · have h2 := owns_otherG hW.pool hW.code (by decide) hgrow
    exact owns_same h2 fun x hx => ho x (by have := (owns_lt h2 hx).1; omega)
  · exact hW.map.same ((ho M (Ne.symm n2)).trans (hbl M hW.m1))
  · refine Gr.setCell (hW.gr.by_ hgrow fun x hx => ?_) hW.b0 _
    have := hge x hx
    have := hW.b0
    omega
  · have := hgrow.size
    have := hW.base
    simp [World.setCell]
    omega
  · have := hgrow.size
    have := g.size
    simp [World.setCell]
    omega
  · intro b c t hb ht1 ht2 hne
    have hbW := (g.block b (Array.getElem?_eq_some_iff.1 hb).1).trans hb
    rw [ho b hne, hgrow.block b (Array.getElem?_eq_some_iff.1 hbW).1 (fun e => by
      obtain ⟨c', hc'⟩ := owns_type hW.code e.symm
      rw [hbW] at hc'
      injection hc' with hc'
      injection hc' with _ h5
      exact ht1 h5)]
    exact hbW
set_option maxHeartbeats 3200000 in
theorem add_any {w0 : World} {base wb lb M : Nat} {na : Option Addr} {ncap : Nat} {nodes : List Tre.Nod} {s : Gn.GS} (op n : Int) (w : World) (h : GM w0 base wb lb M na ncap nodes s w) (hs : s.code.length ≤ 100000) :
    Calls Tryd.prog 63 #[.pointer (some ⟨wb, 0, none⟩), .int .i64 op, .int .i64 n] w fun e w' => e = .returned (.tuple #[]) ∧ GM w0 base wb lb M na ncap nodes (Gn.add s op n) w' ∧ Kp wb w w' := by
  obtain ⟨cv, pv, cs, D, hG⟩ := h.ex
  obtain ⟨i0, hi, hi1, hi2, hi3⟩ := Tryd.infoInsG
  obtain ⟨ca, ccap, rfl⟩ := row_formG hG.code
  obtain ⟨c, f⟩ := row_all hG.box
  have HG : Hid _ := hG
  have hb1 := hG.b1
  have hbs := hG.base
  obtain ⟨ln, hln⟩ : ∃ ln, ln = s.code.length := ⟨_, rfl⟩
  have HC : Hid _ := (show w.ownsRow base 54 2 (.slice ca ln ccap) ln (insG s.code.reverse) by rw [hln]; exact hG.code)
  have HL : Hid _ := hln
  rw [← hln] at c hs
  have hne : wb ≠ w.heap.size := by omega
  clear hG hln h
  go_enter Tryd.func63, Tryd.ntmps63
  go_wp2_with (at_builtin; (refine wpList_append_lies _ rfl _ _ _ rfl base 54 i0 _ 2 16 Tryd.underlying23 hi hi1 hi2 hi3 rfl (by decide) _ ln (insG s.code.reverse) (by rfl) (owns_gr HC.out (by exact (Gr.refl _).alloc _)) ⟨w.heap.size, 0, none⟩ 1 1 [.int .i64 op, .int .i64 n] (by rfl) (by rfl) (World.news_of_block (cs := #[.int .i64 op, .int .i64 n]) (heapA _ _)) (by simp [Value.oneCell']) (by omega) (by unfold maxLen; omega) (by omega) (by simp; omega) _ rfl ?_))
  intro g cap' w6 hown6 hgrow hat hlt
  have HEND : Hid _ := HG.out.addc (op := op) (n := n) ((Gr.refl w).alloc _) (by rw [HL.out] at hgrow; exact hgrow) (by rw [← HL.out]; exact hown6)
  have kb6 := (hgrow.block wb (by simp; omega) (fun e => by have := (owns_lt HC.out e.symm).1; omega)).trans (((Gr.refl w).alloc (.cells #[.int .i64 op, .int .i64 n] 54)).block wb (by omega) |>.trans HG.out.box)
  obtain ⟨c6, f6⟩ := row_all kb6
  clear hown6 hgrow hat hlt kb6 c f
  go_wp2
  go_end0
  exact ⟨rfl, ⟨_, _, _, _, HEND.out.1⟩, HEND.out.2⟩
set_option maxHeartbeats 3200000 in
theorem away_any {w0 : World} {base wb lb M : Nat} {na : Option Addr} {ncap : Nat} {nodes : List Tre.Nod} {s : Gn.GS} (i : Nat) (w : World) (h : GM w0 base wb lb M na ncap nodes s w) (hs : s.code.length ≤ 100000) (hl : s.len i ≤ 100000) (hi : i < nodes.length) (hn : nodes.length ≤ 100000) :
    Calls Tryd.prog 81 #[.pointer (some ⟨wb, 0, none⟩), .int .i64 i] w fun e w' => e = .returned (.int .i64 (Gn.away s i)) ∧ Gr w w' := by
  obtain ⟨cv, pv, cs, D, hG⟩ := h.ex
  obtain ⟨ca, ccap, rfl⟩ := row_formG hG.code
  obtain ⟨c, f⟩ := row_all hG.box
  obtain ⟨c2, f2⟩ := row_all hG.lens
  have hat := (c2 i).trans (hG.lat i hi)
  have hj : (i : Int) < (nodes.length : Int) := by omega
  have w1 : IntKind.i64.wrap ((s.code.length : Int) - (s.len i : Int)) = Gn.away s i := IntWalk.i64_in _ ⟨by omega, by omega⟩
  have hO : w.cell? ⟨wb, 1, none⟩ = some (.slice ca s.code.length ccap) ∧ w.cell? ⟨wb, 2, none⟩ = some (.slice (some ⟨lb, 0, none⟩) nodes.length nodes.length) ∧ w.cell? ⟨lb, 0 + i, none⟩ = some (.int .i64 (s.len i)) := ⟨c 1, c 2, by rw [Nat.zero_add]; exact hat⟩
  rw [Nat.zero_add] at hO
  clear c f c2 f2 hat hG h
  go_enter Tryd.func81, Tryd.ntmps81
  go_upto_region 1 with fail
  go_region_held3 (fun w' => w'.cell? ⟨wb, 1, none⟩ = some (.slice ca s.code.length ccap) ∧ w'.cell? ⟨wb, 2, none⟩ = some (.slice (some ⟨lb, 0, none⟩) nodes.length nodes.length) ∧ w'.cell? ⟨lb, i, none⟩ = some (.int .i64 (s.len i))) (first | with_reducible exact hO | (simpa [go_sem] using hO)) (fail)
  go_wp2_with fail
  go_ret
  exact ⟨rfl, (Gr.refl _).drew⟩
/-- Behind a store into the map, an append to the pool and the store of the new slice. -/
theorem GW.addp {w0 w w3 W4 w5 : World} {base wb lb M : Nat} {na : Option Addr} {ncap : Nat} {nodes : List Tre.Nod} {s : Gn.GS} {cv pv v' : Value} {cs : Array Value} {D D' : DataW Unit} {z : Int} (h : GW w0 w base wb lb M na ncap nodes s cv pv cs D)
    (hm : MapZ w3 M D' (s.pool ++ [z])) (hg3 : w.grownBy w3 (some M)) (hg4 : Gr w3 W4) (hg5 : W4.grownBy w5 pv.ownBlock) (hown : w5.ownsRow base 3 1 v' (s.pool.length + 1) (ints s.pool ++ [.int .i64 z])) :
    GW w0 (w5.setCell ⟨wb, 3, none⟩ v') base wb lb M na ncap nodes ⟨s.code, s.len, s.pool ++ [z]⟩ cv v' cs D' ∧ Kp wb w (w5.setCell ⟨wb, 3, none⟩ v') := by
  obtain ⟨n1, n2, n3⟩ := h.ne
  have b1 := h.b1
  have m1 := h.m1
  have l1 := h.l1
  have bs := h.base
  have s3 := hg3.size
  have s4 := hg4.size
  have s5 := hg5.size
  have hsame3 : ∀ x, x < w.heap.size → x ≠ M → w3.heap[x]? = w.heap[x]? := fun x hx hne => hg3.block x hx (fun e => hne (by simpa using e))
  have hrow3 : ∀ {e : TypeId} {size : Nat} {v : Value} {n : Nat} {xs : List Value}, w.ownsRow base e size v n xs → w3.ownsRow base e size v n xs := fun hr => owns_same hr fun x hx => by
    have := owns_lt hr hx
    exact hsame3 x this.2 (by omega)
  have hp4 := owns_gr (hrow3 h.pool) hg4
  have hc4 := owns_gr (hrow3 h.code) hg4
  have hge : ∀ x, pv.ownBlock = some x → base ≤ x := fun x hx => (owns_lt h.pool hx).1
  have hbl : ∀ x, x < base → x ≠ M → w5.heap[x]? = w.heap[x]? := fun x hx hne => by
    rw [hg5.block x (by omega) (fun e => by have := hge x e.symm; omega), hg4.block x (by omega), hsame3 x (by omega) hne]
  have ho : ∀ x, x ≠ wb → (w5.setCell ⟨wb, 3, none⟩ v').heap[x]? = w5.heap[x]? := fun x hne => heap_setCell_other w5 ⟨wb, 3, none⟩ x _ hne
  have hbM : w5.heap[M]? = w3.heap[M]? := by
    rw [hg5.block M (by omega) (fun e => by have := hge M e.symm; omega), hg4.block M (by omega)]
  refine ⟨⟨?_, ?_, ?_, h.lsize, h.lat, ?_, ?_, ?_, h.ns, h.nok, h.b0, h.l0, h.m0, h.b1, h.l1, h.m1, ?_⟩, ⟨?_, ?_⟩⟩
  · have := heap_setCell_same w5 wb 3 _ _ v' ((hbl wb b1 n2).trans h.box)
    simpa using this
  · have h2 := owns_otherG hc4 hp4 (by decide) hg5
    exact owns_same h2 fun x hx => ho x (by have := (owns_lt h2 hx).1; omega)
  · rw [ho lb (Ne.symm n1), hbl lb l1 n3]; exact h.lens
  · have e : ints (s.pool ++ [z]) = ints s.pool ++ [.int .i64 z] := by simp [ints]
    show (w5.setCell ⟨wb, 3, none⟩ v').ownsRow base 3 1 v' (s.pool ++ [z]).length (ints (s.pool ++ [z]))
    rw [e, List.length_append]
    exact owns_same hown fun x hx => ho x (by have := (owns_lt hown hx).1; omega)
  · exact hm.same ((ho M (Ne.symm n2)).trans hbM)
  · refine Gr.setCell (Gr.by_ (Gr.trans (h.gr.by_ hg3 fun x hx => ?_) hg4) hg5 fun x hx => ?_) h.b0 _
    · have : M = x := by simpa using hx
      rw [← this]; exact h.m0
    · have := hge x hx
      have := h.b0
      omega
  · simp [World.setCell]; omega
  · simp [World.setCell]; omega
  · intro b c t hb ht1 ht2 hne
    have hlt := (Array.getElem?_eq_some_iff.1 hb).1
    have hbM' : b ≠ M := fun e => by
      obtain ⟨es, cl, h3, _⟩ := h.map.own
      rw [e, h3] at hb; cases hb
    have hb4 : W4.heap[b]? = some (.cells c t) := by rw [hg4.block b (by omega), hsame3 b hlt hbM']; exact hb
    rw [ho b hne, hg5.block b (by omega) (fun e => by
      obtain ⟨c', hc'⟩ := owns_type hp4 e.symm
      rw [hb4] at hc'
      injection hc' with hc'
      injection hc' with _ h5
      exact ht2 h5)]
    exact hb4
theorem Tryd.infoIntG : ∃ i, Tryd.prog.info? 3 = some i ∧ i.zero = some (.int .i64 0) ∧ i.size = 1 ∧ i.bytes = 8 :=
  ⟨_, rfl, by kernel_rfl, by kernel_rfl, by kernel_rfl⟩
set_option maxHeartbeats 3200000 in
theorem number_any {w0 : World} {base wb lb M : Nat} {na : Option Addr} {ncap : Nat} {nodes : List Tre.Nod} {s : Gn.GS} (z : Int) (w : World) (h : GM w0 base wb lb M na ncap nodes s w) (hz : (Lit.int .i64 z).wf = true) (hs : s.pool.length ≤ 100000) :
    Calls Tryd.prog 83 #[.pointer (some ⟨wb, 0, none⟩), .int .i64 z] w fun e w' => e = .returned (.int .i64 (Gn.place s.pool z : Nat)) ∧ GM w0 base wb lb M na ncap nodes ⟨s.code, s.len, Gn.laid s.pool z⟩ w' ∧ Kp wb w w' := by
  obtain ⟨cv, pv, cs, D, hG⟩ := h.ex
  obtain ⟨ca, ccap, rfl⟩ := row_formG hG.code
  obtain ⟨pa, pcap, rfl⟩ := row_formG hG.pool
  obtain ⟨c, f⟩ := row_all hG.box
  have HG : Hid _ := hG
  have HZ : Hid _ := hG.map
  have hb1 := hG.b1
  have hm1 := hG.m1
  have hbs := hG.base
  obtain ⟨n1, n2, n3⟩ := hG.ne
  have hkl : WideAt.IsKeyLit (.int .i64 z) := trivial
  have hhs := hG.map.has z
  by_cases hm : z ∈ s.pool
  · have hhas : Maps.has D (.int .i64 z) = true := by rw [hhs]; simpa using hm
    have HE : Hid _ := (show Gn.laid s.pool z = s.pool by unfold Gn.laid; rw [if_pos hm])
    have HAT : Hid _ := hG.map.at_ z hm
    clear hG hhs hm n1 n3 h
    go_enter Tryd.func83, Tryd.ntmps83
    go_wp2_with (at_lookup; refine wpList_lookup_own_ok_int _ rfl _ _ 89 rfl 3 3 .i64 lawIntG Tryd.underlying89 Tryd.underlying3 (zeroG _) M s.pool.length D rfl HZ.out.own _ (.int .i64 z) rfl (keyZ hz) ?_; intro v hat hwc)
    go_ret
    have hc := HAT.out
    rw [hat] at hc
    have hc' : v = (Gn.place s.pool z : Nat) := by simpa using hc
    exact ⟨ret_int hc', ⟨_, _, _, _, by rw [HE.out]; exact HG.out⟩, Kp.ofGr (Gr.refl _)⟩
  · have hhas : Maps.has D (.int .i64 z) = false := by rw [hhs]; simpa using hm
    have HM : Hid _ := hm
    have HE : Hid _ := (show Gn.laid s.pool z = s.pool ++ [z] by unfold Gn.laid; rw [if_neg hm])
    have HP : Hid _ := (show Gn.place s.pool z = s.pool.length from List.idxOf_eq_length hm)
    obtain ⟨i0, hi, hi1, hi2, hi3⟩ := Tryd.infoIntG
    clear hhs hm hG h
    go_enter Tryd.func83, Tryd.ntmps83
    go_wp2_with (first
      | (at_lookup; refine wpList_lookup_own_ok_int _ rfl _ _ 89 rfl 3 3 .i64 lawIntG Tryd.underlying89 Tryd.underlying3 (zeroG _) M s.pool.length D rfl HZ.out.own _ (.int .i64 z) rfl (keyZ hz) ?_; intro v hat hwc; clear hat hwc)
      | (at_mapUpdate; refine wpList_mapUpdate_own _ rfl _ _ _ 89 rfl 3 3 lawIntG Tryd.underlying89 _ M s.pool.length _ rfl HZ.out.own (by unfold maxLen; omega) _ _ _ rfl rfl (keyZ hz) _ [] (plainElem_int Tryd.underlying3 (WalkArith.wf_i64 (by omega))) ?_; intro w3 hown3 hgrow3
         have kb3 := (hgrow3.block wb (by omega) (fun e => n2 (by simpa using e))).trans HG.out.box
         have c3 := (row_all kb3).1
         have f3 := (row_all kb3).2
         have HZ3 : Hid _ := HZ.out.put HM.out hown3
         have HG3 : Hid _ := hgrow3
         have OW3 : Hid _ := fun (_ : Unit) => owns_same (w' := w3) HG.out.pool (fun x hx => by
           have h1 := owns_lt HG.out.pool hx
           exact hgrow3.block x h1.2 (fun e => by have : x = M := by simpa using e
                                                  omega))
         have hz3 := hgrow3.size
         have KB3 : Hid _ := kb3
         clear kb3 hown3 hgrow3)
      | (at_builtin; refine wpList_append_lies _ rfl _ _ _ rfl base 3 i0 _ 1 8 Tryd.underlying24 hi hi1 hi2 hi3 rfl (by decide) _ s.pool.length (ints s.pool) (by rfl) (owns_gr (OW3.out ()) (by exact (Gr.refl _).alloc _)) ⟨_, 0, none⟩ 1 1 [.int .i64 z] (by rfl) (by rfl) (World.news_of_block (heapA _ _)) (by simp [Value.oneCell']) (by omega) (by unfold maxLen; omega) (by omega) (by simp; omega) _ rfl ?_; intro g cap w5 hown5 hgrow5 hat5 hlt5
         have kb5 := (hgrow5.block wb (by simp; omega) (fun e => by have := (owns_lt HG.out.pool e.symm).1; omega)).trans ((Below.heap_alloc _ _ _ (by omega)).trans KB3.out)
         have c7 := (row_all kb5).1
         have f7 := (row_all kb5).2
         have HEND : Hid _ := HG.out.addp HZ3.out HG3.out ((Gr.refl _).alloc _) hgrow5 hown5
         clear kb5 hown5 hgrow5 hat5 hlt5 c3 f3))
    go_ret
    exact ⟨by rw [HP.out]; rfl, ⟨_, _, _, _, by rw [HE.out]; exact HEND.out.1⟩, HEND.out.2⟩
end Go.Proofs.YtcpmbjlhblkniaaDoor
