/- Contract: a finder of nodes tells a node's place. -/
import Derived.Test.YtcpmbjlhblkniaaDoorFin
namespace Go.Proofs.YtcpmbjlhblkniaaDoor
open Go.ChangeShapes Go.WideShapes Go.ChangeAt Go.RowKit Go.Maps
set_option linter.unusedVariables false
set_option maxRecDepth 100000
theorem owns_map_same {w w' : World} {P : Program} {k : TypeId} {R : Value → Option (DataW Unit × List MemPlace)} {b n : Nat} {D : DataW Unit} (h : w.ownsMap P k R b n D) (hs : w'.heap[b]? = w.heap[b]?) : w'.ownsMap P k R b n D := by
  obtain ⟨es, clock, h1, h2⟩ := h
  exact ⟨es, clock, hs.trans h1, h2⟩
theorem FinN.gr {w w' : World} {kb mb lb M base : Nat} {v : Value} {ns : List Tre.Nod} {D : DataW Unit} (h : FinN w kb mb lb M base v ns D) (hg : Gr w w') : FinN w' kb mb lb M base v ns D :=
  have hs := h.size
  have b := fun x (hx : x < base) => hg.block x (Nat.lt_of_lt_of_le hx hs)
  ⟨(b kb h.k1).trans h.kbox, (b mb h.m1).trans h.mbox, (b lb h.l1).trans h.lbox, owns_gr h.row hg, owns_map_same h.map (b M h.M1), h.isMap, h.ok, h.has, h.at_, h.nodup, h.k1, h.m1, h.l1, h.M1, h.ne1, h.ne2, Nat.le_trans hs hg.size⟩
theorem row_form {w : World} {base n size : Nat} {t : TypeId} {v : Value} {xs : List Value} (h : w.ownsRow base t size v n xs) : ∃ a cap, v = .slice a n cap := by
  rcases h.2 with ⟨e, e'⟩ | ⟨g, cap, cur, e, _⟩
  · exact ⟨none, 0, by rw [e, e']⟩
  · exact ⟨_, _, e⟩
theorem zeroInt (w : World) : (zeroValue 3).run Tryd.prog w = .ok (.int .i64 0) w := by kernel_rfl
theorem Tryd.infoNodeF : ∃ i, Tryd.prog.info? 65 = some i ∧ i.zero = some (.agg #[.bool false, .int .i64 0, .int .i64 0, .int .i64 0, .int .i64 0]) ∧ i.size = 5 ∧ i.bytes = 40 :=
  ⟨_, rfl, by kernel_rfl, by kernel_rfl, by kernel_rfl⟩
theorem nod_cellF (x : Tre.Nod) : ∀ u ∈ Nod.cells x, u.oneCell' = true := by
  intro u hu
  simp [Nod.cells] at hu
  rcases hu with rfl | rfl | rfl | rfl | rfl <;> rfl
theorem Fg.ofGr {base M lb : Nat} {w w' : World} (h : Gr w w') (hb : base ≤ w.heap.size) : Fg base M lb w w' := ⟨h.os, h.out, h.size, fun b hlt _ _ => h.block b (Nat.lt_of_lt_of_le hlt hb)⟩
theorem nodL_snoc (l : List Tre.Nod) (x : Tre.Nod) : nodL (l ++ [x]) = nodL l ++ Nod.cells x := by simp [nodL]
/-- Behind a store into the map, an append and the store of the new list. -/
theorem FinN.step {w W2 w3 W4 w5 : World} {kb mb lb M base g cap vcap : Nat} {va : Option Addr} {ns : List Tre.Nod} {D : DataW Unit} {nd : Tre.Nod} {kl : Lit} (hF : FinN w kb mb lb M base (.slice va ns.length vcap) ns D) (hn : NodOk nd) (hnot : nd ∉ ns) (hkey : keyOf Tryd.prog 65 (.agg (Nod.cells nd).toArray) = some kl) (hkl : WideAt.IsKeyLit kl)
    (hg2 : Gr w W2) (hown3 : w3.ownsMap Tryd.prog 65 (plainElem Tryd.prog 3) M (ns.length + 1) (D.put kl (.lit (.int .i64 ns.length)))) (hgrow3 : W2.grownBy w3 (some M)) (hg4 : Gr w3 W4)
    (hgrow5 : W4.grownBy w5 (Value.slice va ns.length vcap).ownBlock) (hown5 : w5.ownsRow base 65 5 (.slice (some ⟨g, 0, none⟩) (ns.length + 1) cap) (ns.length + 1) (nodL ns ++ Nod.cells nd)) :
    FinN (w5.setCell ⟨lb, 0, none⟩ (.slice (some ⟨g, 0, none⟩) (ns.length + 1) cap)) kb mb lb M base (.slice (some ⟨g, 0, none⟩) (ns.length + 1) cap) (ns ++ [nd]) (D.put kl (.lit (.int .i64 ns.length))) ∧
    Fg base M lb w (w5.setCell ⟨lb, 0, none⟩ (.slice (some ⟨g, 0, none⟩) (ns.length + 1) cap)) := by
  have hs := hF.size
  have s2 := hg2.size
  have s3 := hgrow3.size
  have s4 := hg4.size
  have s5 := hgrow5.size
  have hrow : ∀ x, (Value.slice va ns.length vcap).ownBlock = some x → base ≤ x := fun x hx => (owns_lt hF.row hx).1
  have hMl : lb ≠ M := fun e => by
    obtain ⟨es, cl, h1, _⟩ := hF.map
    have h2 := hF.lbox
    rw [e, h1] at h2; cases h2
  have hMk : kb ≠ M := fun e => by
    obtain ⟨es, cl, h1, _⟩ := hF.map
    have h2 := hF.kbox
    rw [e, h1] at h2; cases h2
  have hMm : mb ≠ M := fun e => by
    obtain ⟨es, cl, h1, _⟩ := hF.map
    have h2 := hF.mbox
    rw [e, h1] at h2; cases h2
  have hb : ∀ x, x < base → x ≠ M → w5.heap[x]? = w.heap[x]? := fun x hx hne => by
    rw [hgrow5.block x (by omega) (fun e => by have := hrow _ e.symm; omega), hg4.block x (by omega), hgrow3.block x (by omega) (fun e => hne (by simpa using e)), hg2.block x (by omega)]
  have hbM : w5.heap[M]? = w3.heap[M]? := by
    have := hF.M1
    rw [hgrow5.block M (by omega) (fun e => by have := hrow _ e.symm; omega), hg4.block M (by omega)]
  have ho : ∀ x, x ≠ lb → (w5.setCell ⟨lb, 0, none⟩ (.slice (some ⟨g, 0, none⟩) (ns.length + 1) cap)).heap[x]? = w5.heap[x]? := fun x hne => heap_setCell_other w5 ⟨lb, 0, none⟩ x _ hne
  have hg := (owns_lt hown5 rfl).1
  refine ⟨⟨?_, ?_, ?_, ?_, ?_, hF.isMap.put _ _, ?_, ?_, ?_, ?_, hF.k1, hF.m1, hF.l1, hF.M1, hF.ne1, hF.ne2, ?_⟩, ⟨?_, ?_, ?_, ?_⟩⟩
  · rw [ho _ (Ne.symm hF.ne1), hb _ hF.k1 hMk]; exact hF.kbox
  · rw [ho _ (Ne.symm hF.ne2), hb _ hF.m1 hMm]; exact hF.mbox
  · have := heap_setCell_same w5 lb 0 _ _ (.slice (some ⟨g, 0, none⟩) (ns.length + 1) cap) ((hb lb hF.l1 hMl).trans hF.lbox)
    simpa using this
  · rw [nodL_snoc, List.length_append]
    refine owns_same hown5 fun x hx => ho x ?_
    have := (owns_lt hown5 hx).1
    have := hF.l1
    omega
  · rw [List.length_append]
    exact owns_map_same hown3 ((ho M (Ne.symm hMl)).trans hbM)
  · intro x hx
    rcases List.mem_append.1 hx with h | h
    · exact hF.ok x h
    · rw [List.mem_singleton.1 h]; exact hn
  · intro x l hl
    by_cases e : l = kl
    · subst e
      have := keyNode_inj hl hkey
      subst this
      simp [has_put_same hF.isMap hkl]
    · rw [has_put_other e, hF.has x l hl]
      constructor
      · intro h; exact List.mem_append_left _ h
      · intro h
        rcases List.mem_append.1 h with h | h
        · exact h
        · rw [List.mem_singleton.1 h, hkey] at hl; cases hl; exact absurd rfl e
  · intro i x l hi hl
    rcases Nat.lt_or_ge i ns.length with h | h
    · rw [List.getElem?_append_left h] at hi
      have e : l ≠ kl := fun e => by
        subst e
        have := keyNode_inj hl hkey
        subst this
        exact hnot (List.mem_of_getElem? hi)
      rw [atKey_put_other e]; exact hF.at_ i x l hi hl
    · rw [List.getElem?_append_right h] at hi
      have hi0 : i - ns.length = 0 := by
        have := (List.getElem?_eq_some_iff.1 hi).1
        simp at this; omega
      rw [hi0] at hi
      simp at hi
      subst hi
      rw [hkey] at hl
      cases hl
      rw [atKey_put_same hF.isMap hkl, show i = ns.length by omega]
  · rw [List.nodup_append]
    refine ⟨hF.nodup, by simp, fun x hx y hy e => ?_⟩
    rw [List.mem_singleton] at hy
    subst hy e
    exact hnot hx
  · simp [World.setCell]; omega
  · exact (hgrow5.os.trans (hg4.os.trans (hgrow3.os.trans hg2.os)))
  · exact (hgrow5.output.trans (hg4.out.trans (hgrow3.output.trans hg2.out)))
  · simp [World.setCell]; omega
  · intro x hx h1 h2
    rw [ho x h2, hb x hx h1]
set_option maxHeartbeats 1600000 in
theorem place_any (kb mb lb M base : Nat) (v : Value) (ns : List Tre.Nod) (D : DataW Unit) (nd : Tre.Nod) (w : World) (hF : FinN w kb mb lb M base v ns D) (hn : NodOk nd) (hlen : ns.length ≤ 100000) :
    Calls Tryd.prog 79 #[.agg (Nod.cells nd).toArray, .pointer (some ⟨kb, 0, none⟩), .pointer (some ⟨mb, 0, none⟩), .pointer (some ⟨lb, 0, none⟩)] w fun e w' =>
      ∃ (i : Nat) (v' : Value) (ns' : List Tre.Nod) (D' : DataW Unit), e = .returned (.int .i64 i) ∧ ns'[i]? = some nd ∧ (ns' = ns ∨ ns' = ns ++ [nd]) ∧ FinN w' kb mb lb M base v' ns' D' ∧ Fg base M lb w w' := by
  obtain ⟨kl, hkey⟩ := keyNode w hn
  have HK : Hid _ := fun W => nodeKey_any nd W
  obtain ⟨leaf, a, b, l, m⟩ := nd
  obtain ⟨va, vcap, rfl⟩ := row_form hF.row
  simp only [Nod.cells] at HK hkey ⊢
  have hz := hF.size
  have z1 := hF.k1
  have z2 := hF.m1
  have z3 := hF.l1
  have hk0 : kb < w.heap.size := by omega
  obtain ⟨c1, _⟩ := row_all hF.kbox
  go_enter Tryd.func79, Tryd.ntmps79
  go_wp2_with fail
  refine (HK.out _).mono ?_
  rintro e w1 ⟨rfl, hg1⟩
  have hgw : Gr w w1 := ((Gr.refl _).alloc _).trans hg1
  have F1 := hF.gr hgw
  have kx := (hg1.block w.heap.size (by simp)).trans (heapA w _)
  have zx : w.heap.size < w1.heap.size := by have := hg1.size; simp at this; omega
  obtain ⟨c2, _⟩ := row_all F1.mbox
  obtain ⟨c3, f3⟩ := row_all F1.lbox
  obtain ⟨c4, _⟩ := row_all kx
  have KX : Hid _ := kx
  clear c1 kx hg1
  have hm1 : mb < w1.heap.size := by omega
  have hl1 : lb < w1.heap.size := by omega
  cases hhas : Maps.has D kl with
  | true =>
    go_wp2_with (at_lookup; refine wpList_lookup_own_ok_int _ rfl _ _ 151 rfl 65 3 .i64 lawNode Tryd.underlying151 Tryd.underlying3 (zeroInt _) M ns.length D rfl (F1.map.alloc _) _ kl rfl hkey ?_; intro c hat hwc)
    go_ret
    have hm := (hF.has ⟨leaf, a, b, l, m⟩ kl hkey).1 hhas
    obtain ⟨i, hi⟩ := List.getElem?_of_mem hm
    have hc := hF.at_ i ⟨leaf, a, b, l, m⟩ kl hi hkey
    rw [hat] at hc
    have hc' : c = i := by simpa using hc
    exact ⟨i, _, ns, D, ret_int hc', hi, Or.inl rfl, hF.gr (hgw.alloc _), Fg.ofGr (hgw.alloc _) hz⟩
  | false =>
    have hnot : (⟨leaf, a, b, l, m⟩ : Tre.Nod) ∉ ns := fun h => by
      rw [(hF.has ⟨leaf, a, b, l, m⟩ kl hkey).2 h] at hhas; cases hhas
    have hkl : WideAt.IsKeyLit kl := by
      obtain ⟨xs, L, _, _, rfl⟩ := keyOf_top Tryd.wideNode hkey
      trivial
    obtain ⟨i0, hi, hi1, hi2, hi3⟩ := Tryd.infoNodeF
    have hMl : lb ≠ M := fun e => by
      obtain ⟨es, cl, h1, _⟩ := hF.map
      have h2 := hF.lbox
      rw [e, h1] at h2; cases h2
    go_wp2_with (first
      | (at_lookup; refine wpList_lookup_own_ok_int _ rfl _ _ 151 rfl 65 3 .i64 lawNode Tryd.underlying151 Tryd.underlying3 (zeroInt _) M ns.length D rfl (F1.map.alloc _) _ kl rfl hkey ?_; intro c hat hwc; clear hat hwc)
      | (at_mapUpdate; refine wpList_mapUpdate_own _ rfl _ _ _ 151 rfl 65 3 lawNode Tryd.underlying151 _ M ns.length _ rfl (F1.map.alloc _) (by unfold maxLen; omega) _ _ _ rfl rfl hkey _ [] (plainElem_int Tryd.underlying3 (WalkArith.wf_i64 (by omega))) ?_; intro w3 hown3 hgrow3
         have kl3 := (hgrow3.block lb (by simp; omega) (fun e => by have : lb = M := by simpa using e
                                                                    exact hMl this)).trans ((Below.heap_alloc _ _ _ hl1).trans F1.lbox)
         have kx3 := (hgrow3.block w.heap.size (by simp; omega) (fun e => by have : w.heap.size = M := by simpa using e
                                                                             have := hF.M1; omega)).trans ((Below.heap_alloc _ _ _ zx).trans KX.out)
         have OW3 : Hid _ := fun (_ : Unit) => owns_same (w' := w3) hF.row (fun x hx => by
           have h1 := owns_lt hF.row hx
           have h2 := hF.M1
           have h3 := hgw.size
           rw [hgrow3.block x (by simp; omega) (fun e => by have : x = M := by simpa using e
                                                            omega), Below.heap_alloc _ _ _ (by omega), hgw.block x h1.2])
         have c5 := (row_all kl3).1
         have f5 := (row_all kl3).2
         have c6 := (row_all kx3).1
         have KL3 : Hid _ := kl3
         have G3 : Hid _ := And.intro hown3 hgrow3
         have hz3 := hgrow3.size
         simp at hz3
         clear kl3 kx3 hown3 hgrow3)
      | (at_builtin; refine wpList_append_lies _ rfl _ _ _ rfl base 65 i0 _ 5 40 Tryd.underlying40 hi hi1 hi2 hi3 rfl (by decide) _ ns.length (nodL ns) (by rfl) (owns_gr (OW3.out ()) (by exact (Gr.refl _).alloc _)) ⟨_, 0, none⟩ 1 1 (Nod.cells ⟨leaf, a, b, l, m⟩) (by rfl) (by rfl) (World.news_of_block (heapA _ _)) (nod_cellF _) (by omega) (by unfold maxLen; omega) (by omega) (by simp; omega) _ rfl ?_; intro g cap w5 hown5 hgrow5 hat5 hlt5
         have kl5 := (hgrow5.block lb (by simp; omega) (fun e => by have := (owns_lt hF.row e.symm).1; omega)).trans ((Below.heap_alloc _ _ _ (by omega)).trans KL3.out)
         have c7 := (row_all kl5).1
         have f7 := (row_all kl5).2
         have HS := FinN.step (nd := ⟨leaf, a, b, l, m⟩) hF hn hnot hkey hkl (hgw.alloc _) G3.out.1 G3.out.2 ((Gr.refl _).alloc _) hgrow5 hown5
         have HS2 : Hid _ := HS
         clear kl5 hown5 hgrow5 hat5 hlt5 c5 f5 c6 HS))
    go_ret
    exact ⟨ns.length, _, ns ++ [⟨leaf, a, b, l, m⟩], _, rfl, by simp, Or.inr rfl, HS2.out.1, HS2.out.2⟩
end Go.Proofs.YtcpmbjlhblkniaaDoor
