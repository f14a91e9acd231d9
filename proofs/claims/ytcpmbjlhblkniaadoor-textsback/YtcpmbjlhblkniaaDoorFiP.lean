/- Contracts: a finder of answers is made; it tells an answer's place, and its list. -/
import Derived.Test.YtcpmbjlhblkniaaDoorFiA
import Derived.Deep.Cut
namespace Go.Proofs.YtcpmbjlhblkniaaDoor
open Go.ChangeShapes Go.WideShapes Go.ChangeAt Go.RowKit Go.Maps
set_option linter.unusedVariables false
set_option maxRecDepth 100000
set_option maxHeartbeats 3200000 in
theorem placeA_any (kb mb lb M base low : Nat) (v : Value) (ns : List Ans) (D : DataW Unit) (nd : Ans) (w : World) (hF : FinA w kb mb lb M base low v ns D) (hn : AnsOk w nd) (hn6 : nd.zs.length ≤ 6) (hfar : Far w low nd) (hlen : ns.length ≤ 100000) :
    Calls Tryd.prog 73 #[.agg (Ans.cells nd).toArray, .pointer (some ⟨kb, 0, none⟩), .pointer (some ⟨mb, 0, none⟩), .pointer (some ⟨lb, 0, none⟩)] w fun e w' =>
      ∃ (i : Nat) (v' : Value) (ns' : List Ans) (D' : DataW Unit), e = .returned (.int .i64 i) ∧ (∃ y, ns'[i]? = some y ∧ y.val = nd.val) ∧ (ns' = ns ∨ ns' = ns ++ [nd]) ∧ FinA w' kb mb lb M base low v' ns' D' ∧ Fga base M lb w w' := by
  obtain ⟨kl, hkey⟩ := keyAns (hn.key hn6)
  have HK : Hid _ := fun W (h : AnsOk W nd) => answerKeyOf_any nd W h hn6
  have HN : Hid _ := fun (_ : Unit) => hn
  have HFR : Hid _ := fun (_ : Unit) => hfar
  clear hn hfar
  obtain ⟨off, sv, nm, za, zcap, zs, jump⟩ := nd
  obtain ⟨va, vcap, rfl⟩ := row_formA hF.row
  simp only [Ans.cells, Ans.key] at HK hkey ⊢
  have HKEY : Hid _ := hkey
  simp only [List.getD_eq_getElem?_getD] at HK hkey
  have hz := hF.size
  have z1 := hF.k1
  have z2 := hF.m1
  have z3 := hF.l1
  have hk0 : kb < w.heap.size := by omega
  obtain ⟨c1, _⟩ := row_all hF.kbox
  go_enter Tryd.func73, Tryd.ntmps73
  go_wp2_with fail
  refine (HK.out _ ((HN.out ()).gr (by repeat (with_reducible first | exact Gr.refl _ | refine Gr.alloc ?_ _ | refine Gr.setCell ?_ (by simp) _)))).mono ?_
  rintro e w1 ⟨rfl, hg1⟩
  have hgw : Gr w w1 := ((Gr.refl _).alloc _).trans hg1
  have F1 := hF.gr hgw
  have kx := (hg1.block w.heap.size (by simp)).trans (heapA w _)
  have zx : w.heap.size < w1.heap.size := by have := hg1.size; simp at this; omega
  obtain ⟨c2, _⟩ := row_all F1.mbox
  obtain ⟨c3, f3⟩ := row_all F1.lbox
  obtain ⟨c4, f4⟩ := row_all kx
  have KX : Hid _ := kx
  clear c1 kx hg1
  have hm1 : mb < w1.heap.size := by omega
  have hl1 : lb < w1.heap.size := by omega
  cases hhas : Maps.has D kl with
  | true =>
    go_wp2_with (at_lookup; refine wpList_lookup_own_ok_int _ rfl _ _ 144 rfl 121 3 .i64 lawKey Tryd.underlying144 Tryd.underlying3 (zeroIntA _) M ns.length D rfl (F1.map.alloc _) _ kl rfl hkey ?_; intro c hat hwc)
    go_ret
    obtain ⟨y, hm, hv⟩ := (hF.has ⟨off, sv, nm, za, zcap, zs, jump⟩ kl hn6 HKEY.out).1 hhas
    obtain ⟨i, hi⟩ := List.getElem?_of_mem hm
    have hc := hF.at_ i y kl hi (by rw [keyAns_val hv]; exact HKEY.out)
    rw [hat] at hc
    have hc' : c = i := by simpa using hc
    exact ⟨i, _, ns, D, ret_int hc', ⟨y, hi, hv⟩, Or.inl rfl, hF.gr (hgw.alloc _), Fga.ofGr (hgw.alloc _) hz⟩
  | false =>
    have hnot : ¬ ∃ y ∈ ns, y.val = Ans.val ⟨off, sv, nm, za, zcap, zs, jump⟩ := fun h => by
      rw [(hF.has ⟨off, sv, nm, za, zcap, zs, jump⟩ kl hn6 HKEY.out).2 h] at hhas; cases hhas
    have hkl : WideAt.IsKeyLit kl := by
      obtain ⟨xs, L, _, _, rfl⟩ := keyOf_top Tryd.wideKey hkey
      trivial
    obtain ⟨i0, hi, hi1, hi2, hi3⟩ := Tryd.infoAnsF
    have hMl : lb ≠ M := fun e => by
      obtain ⟨es, cl, h1, _⟩ := hF.map
      have h2 := hF.lbox
      rw [e, h1] at h2; cases h2
    go_wp2_with (first
      | (at_lookup; refine wpList_lookup_own_ok_int _ rfl _ _ 144 rfl 121 3 .i64 lawKey Tryd.underlying144 Tryd.underlying3 (zeroIntA _) M ns.length D rfl (F1.map.alloc _) _ kl rfl hkey ?_; intro c hat hwc; clear hat hwc)
      | (at_mapUpdate; refine wpList_mapUpdate_own _ rfl _ _ _ 144 rfl 121 3 lawKey Tryd.underlying144 _ M ns.length _ rfl (F1.map.alloc _) (by unfold maxLen; omega) _ _ _ rfl rfl hkey _ [] (plainElem_int Tryd.underlying3 (WalkArith.wf_i64 (by omega))) ?_; intro w3 hown3 hgrow3
         have kl3 := (hgrow3.block lb (by simp; omega) (fun e => by have : lb = M := by simpa using e
                                                                    exact hMl this)).trans ((Below.heap_alloc _ _ _ hl1).trans F1.lbox)
         have kx3 := (hgrow3.block w.heap.size (by simp; omega) (fun e => by have : w.heap.size = M := by simpa using e
                                                                             have := hF.M1; omega)).trans ((Below.heap_alloc _ _ _ zx).trans KX.out)
         have OW3 : Hid _ := fun (_ : Unit) => owns_same (w' := w3) hF.row (fun x hx => by
           have h1 := owns_lt hF.row hx
           have h2 := hF.M1
           have h3 := hgw.size
           rw [hgrow3.block x (by simp; omega) (fun e => by have : x = M := by simpa using e
                                                            omega), Below.heap_alloc _ _ _ (by omega), hgw.block x h1.2])
         have c5 := (row_all kl3).1
         have f5 := (row_all kl3).2
         have c6 := (row_all kx3).1
         have KL3 : Hid _ := kl3
         have G3 : Hid _ := And.intro hown3 hgrow3
         have hz3 := hgrow3.size
         simp at hz3
         clear kl3 kx3 hown3 hgrow3)
      | (at_builtin; refine wpList_append_lies _ rfl _ _ _ rfl base 34 i0 _ 5 64 Tryd.underlying25 hi hi1 hi2 hi3 rfl (by decide) _ ns.length (ansL ns) (by rfl) (owns_gr (OW3.out ()) (by exact (Gr.refl _).alloc _)) ⟨_, 0, none⟩ 1 1 (Ans.cells ⟨off, sv, nm, za, zcap, zs, jump⟩) (by rfl) (by rfl) (World.news_of_block (heapA _ _)) (ans_cellF _) (by omega) (by unfold maxLen; omega) (by omega) (by simp; omega) _ rfl ?_; intro g cap w5 hown5 hgrow5 hat5 hlt5
         have kl5 := (hgrow5.block lb (by simp; omega) (fun e => by have := (owns_lt hF.row e.symm).1; omega)).trans ((Below.heap_alloc _ _ _ (by omega)).trans KL3.out)
         have c7 := (row_all kl5).1
         have f7 := (row_all kl5).2
         have HS := FinA.step (nd := ⟨off, sv, nm, za, zcap, zs, jump⟩) hF (HN.out ()) hn6 (HFR.out ()) hnot HKEY.out hkl (hgw.alloc _) G3.out.1 G3.out.2 ((Gr.refl _).alloc _) hgrow5 hown5
         have HS2 : Hid _ := HS
         clear kl5 hown5 hgrow5 hat5 hlt5 c5 f5 c6 HS))
    go_ret
    exact ⟨ns.length, _, ns ++ [⟨off, sv, nm, za, zcap, zs, jump⟩], _, rfl, ⟨_, by simp, rfl⟩, Or.inr rfl, HS2.out.1, HS2.out.2⟩
theorem heap4A (w : World) (o1 o2 o3 o4 : Obj) : ((((w.alloc o1).alloc o2).alloc o3).alloc o4).heap[w.heap.size]? = some o1 ∧ ((((w.alloc o1).alloc o2).alloc o3).alloc o4).heap[w.heap.size + 1]? = some o2 ∧ ((((w.alloc o1).alloc o2).alloc o3).alloc o4).heap[w.heap.size + 1 + 1]? = some o3 ∧ ((((w.alloc o1).alloc o2).alloc o3).alloc o4).heap[w.heap.size + 1 + 1 + 1]? = some o4 := by
  refine ⟨?_, ?_, ?_, ?_⟩
  · rw [Below.heap_alloc _ _ _ (by simp <;> omega), Below.heap_alloc _ _ _ (by simp <;> omega), Below.heap_alloc _ _ _ (by simp)]; exact heapA w o1
  · rw [Below.heap_alloc _ _ _ (by simp <;> omega), Below.heap_alloc _ _ _ (by simp)]; simpa using heapA (w.alloc o1) o2
  · rw [Below.heap_alloc _ _ _ (by simp)]; simpa using heapA ((w.alloc o1).alloc o2) o3
  · simpa using heapA (((w.alloc o1).alloc o2).alloc o3) o4
theorem finA_made (w : World) : FinA ((((w.alloc (.cells #[.func (.func 55) #[] #[]] 122)).alloc (.map #[] 0)).alloc (.cells #[.map (some (w.heap.size + 1))] 144)).alloc (.cells #[.slice none 0 0] 25)) w.heap.size (w.heap.size + 1 + 1) (w.heap.size + 1 + 1 + 1) (w.heap.size + 1) (w.heap.size + 4) w.heap.size (.slice none 0 0) [] (.map []) := by
  obtain ⟨h1, h2, h3, h4⟩ := heap4A w (.cells #[.func (.func 55) #[] #[]] 122) (.map #[] 0) (.cells #[.map (some (w.heap.size + 1))] 144) (.cells #[.slice none 0 0] 25)
  refine ⟨h1, h3, h4, ⟨by simp [ansL], Or.inl ⟨rfl, rfl⟩⟩, ?_, isMap_empty, fun n hn => by simp at hn, fun n hn => by simp at hn, fun n hn => by simp at hn, fun n l _ _ => ?_, fun i n l h => by simp at h, List.nodup_nil, by omega, by omega, by omega, by omega, by omega, by omega, by omega, by omega, by simp⟩
  · obtain ⟨es, cl, e1, e2⟩ := World.ownsMap_made (H := Unit) (w.alloc (.cells #[.func (.func 55) #[] #[]] 122)) Tryd.prog 121 (plainElem Tryd.prog 3)
    have e3 := (heapA (w.alloc (.cells #[.func (.func 55) #[] #[]] 122)) (.map #[] 0)).symm.trans e1
    cases e3
    exact ⟨#[], 0, h2, e2⟩
  · simp [Maps.has]
theorem FinA.rebase {w : World} {kb mb lb M base low b2 low2 : Nat} {D : DataW Unit} (h : FinA w kb mb lb M base low (.slice none 0 0) [] D) (h1 : base ≤ b2) (h2 : b2 ≤ w.heap.size) (h3 : low2 ≤ low) : FinA w kb mb lb M b2 low2 (.slice none 0 0) [] D :=
  ⟨h.kbox, h.mbox, h.lbox, ⟨h.row.1, Or.inl ⟨rfl, rfl⟩⟩, h.map, h.isMap, h.ok, h.ok6, fun n hn => by simp at hn, h.has, h.at_, h.nodup, Nat.lt_of_lt_of_le h.k1 h1, Nat.lt_of_lt_of_le h.m1 h1, Nat.lt_of_lt_of_le h.l1 h1, Nat.lt_of_lt_of_le h.M1 h1, h.ne1, h.ne2, Nat.le_trans h3 h.low1, Nat.le_trans h3 h.low2, h2⟩
set_option maxHeartbeats 1600000 in
theorem finderA_any (w : World) :
    Calls Tryd.prog 54 #[.func (.func 55) #[] #[]] w fun e w' =>
      ∃ kb mb lb M base, e = .returned (.tuple #[.func (.func 73) #[] #[.pointer (some ⟨kb, 0, none⟩), .pointer (some ⟨mb, 0, none⟩), .pointer (some ⟨lb, 0, none⟩)], .func (.func 74) #[] #[.pointer (some ⟨lb, 0, none⟩)]]) ∧
        FinA w' kb mb lb M base w.heap.size (.slice none 0 0) [] (.map []) ∧ w.heap.size ≤ kb ∧ w.heap.size ≤ lb ∧ w.heap.size ≤ M ∧ base ≤ w'.heap.size ∧ Gr w w' := by
  have hmm := @run_makeMap Tryd.prog
  go_enter Tryd.func54, Tryd.ntmps54
  go_wp2
  go_ret2
  exact ⟨w.heap.size, w.heap.size + 1 + 1, w.heap.size + 1 + 1 + 1, w.heap.size + 1, w.heap.size + 4, rfl, finA_made w, by omega, by omega, by omega, by simp, (((Gr.refl _).alloc _).alloc _).alloc _ |>.alloc _⟩
set_option maxHeartbeats 1600000 in
theorem listedA_any (kb mb lb M base low : Nat) (v : Value) (ns : List Ans) (D : DataW Unit) (w : World) (hF : FinA w kb mb lb M base low v ns D) :
    Calls Tryd.prog 74 #[.pointer (some ⟨lb, 0, none⟩)] w fun e w' => e = .returned v ∧ w' = w := by
  obtain ⟨va, vcap, rfl⟩ := row_formA hF.row
  obtain ⟨c, _⟩ := row_all hF.lbox
  clear hF
  go_enter Tryd.func74, Tryd.ntmps74
  go_wp2
  go_ret
  exact ⟨rfl, rfl⟩
end Go.Proofs.YtcpmbjlhblkniaaDoor
