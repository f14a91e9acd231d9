/- Contract: how many nodes are asked. -/
import Derived.Test.YthlahmabcbbhjaaGroM
import Derived.Test.YthlahmabcbbhjaaPoM
import Derived.Test.YthlahmabcbbhjaaTreE
import Derived.Deep.Cut
namespace Go.Proofs.Ythlahmabcbbhjaa
open Go.ChangeShapes Go.WideShapes Go.ChangeAt Go.RowKit
set_option linter.unusedVariables false
theorem Down.fuelK {ns : List Tre.Nod} (h : Down ns) (t : Int) : ∀ (n m i : Nat), i < n → i < m → i < ns.length → askN ns t n i = askN ns t m i := by
  intro n
  induction n with
  | zero => intro m i hi; omega
  | succ n ih =>
    intro m i hi hm hl
    obtain ⟨m, rfl⟩ : ∃ q, m = q + 1 := ⟨m - 1, by omega⟩
    obtain ⟨⟨leaf, a, b, l, r⟩, hx⟩ : ∃ x, ns[i]? = some x := ⟨_, List.getElem?_eq_getElem hl⟩
    cases leaf with
    | true => rw [askN_leaf hx, askN_leaf hx]
    | false =>
      have := h.less i _ hx rfl
      simp only at this
      by_cases ht : t < b
      · rw [askN_less hx ht, askN_less hx ht, ih m _ (by omega) (by omega) (by omega)]
      · rw [askN_more hx ht, askN_more hx ht, ih m _ (by omega) (by omega) (by omega)]
theorem askN_le {ns : List Tre.Nod} (t : Int) : ∀ (n i : Nat), askN ns t n i ≤ n := by
  intro n
  induction n with
  | zero => intro i; exact Nat.le_refl _
  | succ n ih =>
    intro i
    unfold askN
    cases ns[i]? with
    | none => simp
    | some nd =>
      simp only
      have h1 := ih nd.less.toNat
      have h2 := ih nd.more.toNat
      split
      · omega
      · split <;> omega
theorem askN_pos {nodes : List Tre.Nod} (t : Int) : ∀ {n i : Nat}, 0 < n → i < nodes.length → 1 ≤ askN nodes t n i := by
  intro n i hn hi
  obtain ⟨n, rfl⟩ : ∃ q, n = q + 1 := ⟨n - 1, by omega⟩
  obtain ⟨nd, hx⟩ : ∃ x, nodes[i]? = some x := ⟨_, List.getElem?_eq_getElem hi⟩
  unfold askN
  rw [hx]
  simp only
  split
  · omega
  · split <;> omega
theorem five5_other {w : World} {b : Nat} {u0 u1 u2 u3 u4 : Value} (x : Nat) (h : x ≠ b) : (((((w.setCell ⟨b, 0, none⟩ u0).setCell ⟨b, 1, none⟩ u1).setCell ⟨b, 2, none⟩ u2).setCell ⟨b, 3, none⟩ u3).setCell ⟨b, 4, none⟩ u4).heap[x]? = w.heap[x]? :=
  (heap_setCell_other _ ⟨b, 4, none⟩ x u4 (by simpa using h)).trans ((heap_setCell_other _ ⟨b, 3, none⟩ x u3 (by simpa using h)).trans ((heap_setCell_other _ ⟨b, 2, none⟩ x u2 (by simpa using h)).trans ((heap_setCell_other _ ⟨b, 1, none⟩ x u1 (by simpa using h)).trans (heap_setCell_other _ ⟨b, 0, none⟩ x u0 (by simpa using h)))))
set_option maxHeartbeats 3200000 in
theorem askedK_any (f : Fst) (t : Int) (w : World) (hf : FstOk w f) (hG : Good f) :
    Calls Try.prog 19 #[.agg f.cells.toArray, .int .i64 t] w fun e w' => e = .returned (.int .i64 (askN f.nodes t f.nodes.length (f.nodes.length - 1))) ∧ Gr w w' := by
  have h1 := hG.ne
  have h2 := hG.n8
  have hD := hG.down
  have hN := hf.nat
  have hok := hf.nok
  have hc := hf.ncap
  clear hG hf
  obtain ⟨na, ncap, nodes, aa, acap, answers⟩ := f
  simp only at h1 h2 hD hN hok hc
  simp only [Fst.cells]
  obtain ⟨R, hR⟩ : ∃ R, askN nodes t nodes.length (nodes.length - 1) = R := ⟨_, rfl⟩
  have HR1 : 1 ≤ R := by rw [← hR]; exact askN_pos t (by omega) (by omega)
  have HR2 : R ≤ 8000 := by have := askN_le (ns := nodes) t nodes.length (nodes.length - 1); omega
  rw [hR]
  have HR : Hid _ := hR
  clear hR
  have HD : Hid _ := hD
  clear hD
  obtain ⟨root, hroot⟩ : ∃ x, nodes[nodes.length - 1]? = some x := ⟨_, List.getElem?_eq_getElem (by omega)⟩
  obtain ⟨b, o, rfl, hb, q0, q1, q2, q3, q4⟩ := hN.cell _ root hroot
  simp [Nod.cells] at q0 q1 q2 q3 q4
  have hwr : IntKind.i64.wrap ((nodes.length : Int) - 1) = (nodes.length : Int) - 1 := IntWalk.i64_in _ ⟨by omega, by omega⟩
  have i3 : ((nodes.length : Int) - 1).toNat = nodes.length - 1 := by omega
  have i1 : (nodes.length : Int) - 1 < (nodes.length : Int) := by omega
  have i2 : (0 : Int) ≤ (nodes.length : Int) - 1 := by omega
  have g0 : ((nodes.length : Int) == 0) = false := beq_eq_false_iff_ne.2 (by omega)
  have HROOT : Hid _ := hroot
  clear hroot
  go_enter Try.func19, Try.ntmps19
  go_wp2_with fail
  have h1f := heapB w (.cells #[.slice (some ⟨b, o, none⟩) nodes.length ncap, .slice aa answers.length acap] 25) (.cells (Nod.cells root).toArray 47)
  have h1n := heapC w (.cells #[.slice (some ⟨b, o, none⟩) nodes.length ncap, .slice aa answers.length acap] 25) (.cells (Nod.cells root).toArray 47)
  have g1 : Gr w ((w.alloc (.cells #[.slice (some ⟨b, o, none⟩) nodes.length ncap, .slice aa answers.length acap] 25)).alloc (.cells (Nod.cells root).toArray 47)) := ((Gr.refl _).alloc _).alloc _
  have HH : Hid _ := And.intro h1f (And.intro h1n g1)
  clear h1f h1n g1
  go_loopw [5] (fun s wr => ∃ (c k : Nat) (nd : Tre.Nod), c ≤ R ∧ s = .int .i64 c ∧ nodes[k]? = some nd ∧ Gr w wr ∧ wr.heap[w.heap.size]? = some (.cells #[.slice (some ⟨b, o, none⟩) nodes.length ncap, .slice aa answers.length acap] 25) ∧ wr.heap[w.heap.size + 1]? = some (.cells (Nod.cells nd).toArray 47) ∧ c + askN nodes t (k + 1) k = R + 1) (fun s _ => R + 1 - (intOf s).toNat)
  case atStart => exact ⟨1, nodes.length - 1, root, HR1, rfl, HROOT.out, HH.out.2.2, HH.out.1, HH.out.2.1, by rw [show nodes.length - 1 + 1 = nodes.length by omega, HR.out]; omega⟩
  case round =>
    obtain ⟨c, k, nd, hcR, rfl, hk, hgw, hfb, hmw, hval⟩ := hrel
    have HK : Hid _ := hk
    have HM : Hid _ := hmw
    have HVL : Hid _ := hval
    have HGW : Hid _ := hgw
    have HFB : Hid _ := hfb
    obtain ⟨d1, _⟩ := row_all hfb
    obtain ⟨dm, fm⟩ := row_all hmw
    have hkl := (List.getElem?_eq_some_iff.1 hk).1
    have z1 : w.heap.size + 1 < wr.heap.size := (Array.getElem?_eq_some_iff.1 hmw).1
    clear hk hmw hval hgw hfb
    obtain ⟨leaf, a, bo, l, m⟩ := nd
    simp only [Nod.cells] at dm
    cases leaf with
    | true =>
      have e1 := HVL.out
      rw [askN_leaf HK.out] at e1
      have e2 : c = R := by omega
      go_wp2
      go_ret
      subst e2
      exact ⟨by rfl, HGW.out⟩
    | false =>
        obtain ⟨r1, r2, r3, r4⟩ := HD.out.less k _ HK.out rfl
        simp only at r1 r2 r3 r4
        have j1 : l < (nodes.length : Int) := by omega
        have j2 : m < (nodes.length : Int) := by omega
        have j3 : l.toNat < nodes.length := by omega
        have j4 : m.toNat < nodes.length := by omega
        have HB9 : c + 1 ≤ R := by
          have e1 := HVL.out
          by_cases ht : t < bo
          · rw [askN_less HK.out ht] at e1
            have := askN_pos (nodes := nodes) t (n := k) (i := l.toNat) (by omega) (by omega)
            omega
          · rw [askN_more HK.out ht] at e1
            have := askN_pos (nodes := nodes) t (n := k) (i := m.toNat) (by omega) (by omega)
            omega
        by_cases ht : t < bo
        · obtain ⟨x', hx'⟩ : ∃ x', nodes[l.toNat]? = some x' := ⟨_, List.getElem?_eq_getElem (by omega)⟩
          obtain ⟨b', o', e, hb1, hc1⟩ := hN.cell _ x' hx'
          cases e
          obtain ⟨q0, q1, q2, q3, q4⟩ := hc1.gr hb1 HGW.out
          simp [Nod.cells] at q0 q1 q2 q3 q4
          have HS : Hid _ := node_set _ x' HM.out
          have HV2 : Hid _ := (show c + 1 + askN nodes t (l.toNat + 1) l.toNat = R + 1 by
            have e1 := HVL.out
            rw [askN_less HK.out ht, HD.out.fuelK t k (l.toNat + 1) l.toNat (by omega) (by omega) (by omega)] at e1
            omega)
          have HX : Hid _ := hx'
          have hb2 : b ≠ w.heap.size + 1 := by omega
          have hb3 : b ≠ w.heap.size := by omega
          have hgs := HGW.out
          clear hx' hc1
          go_wp2_with fail
          go_roundw
          case rel =>
            refine ⟨c + 1, l.toNat, x', by omega, by go_num, HX.out, ?_, ?_, HS.out, HV2.out⟩
            · repeat (with_reducible first | exact hgs | refine Gr.setCell ?_ (by simp) _)
            · exact (five5_other w.heap.size (by omega)).trans HFB.out
          case measure => simp [intOf]; omega
        · obtain ⟨x', hx'⟩ : ∃ x', nodes[m.toNat]? = some x' := ⟨_, List.getElem?_eq_getElem (by omega)⟩
          obtain ⟨b', o', e, hb1, hc1⟩ := hN.cell _ x' hx'
          cases e
          obtain ⟨q0, q1, q2, q3, q4⟩ := hc1.gr hb1 HGW.out
          simp [Nod.cells] at q0 q1 q2 q3 q4
          have HS : Hid _ := node_set _ x' HM.out
          have HV2 : Hid _ := (show c + 1 + askN nodes t (m.toNat + 1) m.toNat = R + 1 by
            have e1 := HVL.out
            rw [askN_more HK.out ht, HD.out.fuelK t k (m.toNat + 1) m.toNat (by omega) (by omega) (by omega)] at e1
            omega)
          have HX : Hid _ := hx'
          have hb2 : b ≠ w.heap.size + 1 := by omega
          have hb3 : b ≠ w.heap.size := by omega
          have hgs := HGW.out
          clear hx' hc1
          go_wp2_with fail
          go_roundw
          case rel =>
            refine ⟨c + 1, m.toNat, x', by omega, by go_num, HX.out, ?_, ?_, HS.out, HV2.out⟩
            · repeat (with_reducible first | exact hgs | refine Gr.setCell ?_ (by simp) _)
            · exact (five5_other w.heap.size (by omega)).trans HFB.out
          case measure => simp [intOf]; omega
end Go.Proofs.Ythlahmabcbbhjaa
