/- Contract: the closure that parts all numbers by a node (it calls itself), over a closure that tells a leaf's answer. Made by genPaW.py out of PaW0.tpl. -/
import Derived.Test.YtcpmbjlhblkniaaDoorPaWm
import Derived.Deep.RegionHeld3
import Derived.Deep.RegionLaw
import Derived.Deep.Cut
import Derived.Laws.EntriesVeiled
namespace Go.Proofs.YtcpmbjlhblkniaaDoor
open Go.ChangeShapes Go.WideShapes Go.ChangeAt Go.RowKit
set_option linter.unusedVariables false
set_option maxRecDepth 100000
structure TellsB {σ : Type}  (many low : Nat) (I : σ → World → Prop) (St : σ → σ → Prop) (Say : σ → Int → Nat → Prop) : Prop where
  call : ∀ s (n : Int) W, I s W → 0 ≤ n → n < many → Calls Tryd.prog 59 #[.int .i64 n] W fun e W' => ∃ (s' : σ) (i : Nat), e = .returned (.int .i64 i) ∧ I s' W' ∧ St s s' ∧ Say s' n i ∧ Wc low W W'
  keep : ∀ s W W', I s W → Pw low W W' → I s W'
  low : ∀ s W, I s W → low ≤ W.heap.size
  refl : ∀ s, St s s
  trans : ∀ a b c, St a b → St b c → St a c
  mono : ∀ a b n i, St a b → Say a n i → Say b n i
  small : ∀ s n i W, I s W → Say s n i → i ≤ 100000
/-- The memory of the walk. -/
structure WkRB  (low base nb pb ab wb : Nat) (nv : Value) (w : World) (v : Value) (qs : List (Int × Int)) : Prop where
  nbox : w.heap[nb]? = some (.cells #[nv] 40)
  pbox : w.heap[pb]? = some (.cells #[v] 123)
  abox : w.heap[ab]? = some (.cells #[.func (.func 59) #[] #[]] 125)
  wbox : w.heap[wb]? = some (.cells #[.func (.func 75) #[] #[.pointer (some ⟨nb, 0, none⟩), .pointer (some ⟨pb, 0, none⟩), .pointer (some ⟨ab, 0, none⟩), .pointer (some ⟨wb, 0, none⟩)]] 145)
  row : w.ownsRow base 147 2 v qs.length (partL qs)
  low1 : low ≤ pb
  low2 : low ≤ base
  pb1 : pb < base
  size : base ≤ w.heap.size
theorem WkRB.wc {low base nb pb ab wb : Nat} {nv : Value} {w w' : World} {v : Value} {qs : List (Int × Int)} (h : WkRB  low base nb pb ab wb nv w v qs) (k : Wc low w w') : WkRB  low base nb pb ab wb nv w' v qs :=
  ⟨k.typed _ _ _ h.nbox (by decide) (by decide), k.typed _ _ _ h.pbox (by decide) (by decide), k.typed _ _ _ h.abox (by decide) (by decide), k.typed _ _ _ h.wbox (by decide) (by decide), by
    refine owns_same h.row fun g hg => ?_
    rcases h.row.2 with ⟨e, _⟩ | ⟨g', cap, cur, e, hb, hh, r⟩
    · rw [e] at hg; simp [Value.ownBlock] at hg
    · rw [e] at hg; simp [Value.ownBlock] at hg; subst hg
      rw [hh]; exact k.typed _ _ _ hh (by decide) (by decide), h.low1, h.low2, h.pb1, Nat.le_trans h.size k.size⟩
theorem WkRB.gr {low base nb pb ab wb : Nat} {nv : Value} {w w' : World} {v : Value} {qs : List (Int × Int)} (h : WkRB  low base nb pb ab wb nv w v qs) (k : Gr w w') : WkRB  low base nb pb ab wb nv w' v qs :=
  h.wc (Wc.ofGr k (Nat.le_trans h.low2 h.size))
theorem Tryd.infoPartB : ∃ i, Tryd.prog.info? 147 = some i ∧ i.zero = some (.agg #[.int .i64 0, .int .i64 0]) ∧ i.size = 2 ∧ i.bytes = 16 :=
  ⟨_, rfl, by kernel_rfl, by kernel_rfl, by kernel_rfl⟩
theorem run_tellB (vs : Array Value) (w : World) : (callFunc 59 vs).run Tryd.prog w = .ok (.enter 59 vs) w := by
  have h1 : (Tryd.f59.name == "runtime.NumGoroutine") = false := by kernel_rfl
  have h2 : Tryd.f59.body.isNone = false := by kernel_rfl
  have h1' : ¬ Tryd.f59.name = "runtime.NumGoroutine" := by simpa using h1
  have h2' : ¬ Tryd.f59.body = none := by intro h; rw [h] at h2; cases h2
  simp [callFunc, go_sem, Tryd.func59, h1', h2']
theorem WkRB.step {low base nb pb ab wb g cap vcap : Nat} {nv : Value} {w5 W4 w6 : World} {va : Option Addr} {qs : List (Int × Int)} {f i : Int} (h : WkRB  low base nb pb ab wb nv w5 (.slice va qs.length vcap) qs) (g1 : Gr w5 W4) (hgrow : W4.grownBy w6 (Value.slice va qs.length vcap).ownBlock)
    (hown : w6.ownsRow base 147 2 (.slice (some ⟨g, 0, none⟩) (qs.length + 1) cap) (qs.length + 1) (partL qs ++ [.int .i64 f, .int .i64 i])) :
    WkRB  low base nb pb ab wb nv (w6.setCell ⟨pb, 0, none⟩ (.slice (some ⟨g, 0, none⟩) (qs.length + 1) cap)) (.slice (some ⟨g, 0, none⟩) (qs.length + 1) cap) (qs ++ [(f, i)]) ∧ Pw low w5 (w6.setCell ⟨pb, 0, none⟩ (.slice (some ⟨g, 0, none⟩) (qs.length + 1) cap)) := by
  have s1 := g1.size
  have s2 := hgrow.size
  have hz := h.size
  have hlow1 := h.low1
  have hlow2 := h.low2
  have hpb := h.pb1
  have ho : ∀ x, x ≠ pb → (w6.setCell ⟨pb, 0, none⟩ (.slice (some ⟨g, 0, none⟩) (qs.length + 1) cap)).heap[x]? = w6.heap[x]? := fun x hne => heap_setCell_other w6 ⟨pb, 0, none⟩ x _ hne
  have hrow : ∀ x, (Value.slice va qs.length vcap).ownBlock = some x → base ≤ x ∧ ∃ cur, w5.heap[x]? = some (.cells cur 147) := fun x hx => by
    rcases h.row.2 with ⟨e, _⟩ | ⟨g', c', cur, e, hb, hh, r⟩
    · rw [e] at hx; simp [Value.ownBlock] at hx
    · rw [e] at hx; simp [Value.ownBlock] at hx; subst hx; exact ⟨hb, cur, hh⟩
  have hb : ∀ x, x < w5.heap.size → (Value.slice va qs.length vcap).ownBlock ≠ some x → w6.heap[x]? = w5.heap[x]? := fun x hx hne => (hgrow.block x (by omega) (fun e => hne e.symm)).trans (g1.block x hx)
  have hP : Pw low w5 (w6.setCell ⟨pb, 0, none⟩ (.slice (some ⟨g, 0, none⟩) (qs.length + 1) cap)) := by
    refine ⟨hgrow.os.trans g1.os, hgrow.output.trans g1.out, by simp [World.setCell]; omega, fun x hx hc => ?_⟩
    have n1 : x ≠ pb := fun e => by
      rcases hc with hc | hc
      · omega
      · exact hc.2 _ (e ▸ h.pbox)
    have n2 : (Value.slice va qs.length vcap).ownBlock ≠ some x := fun e => by
      obtain ⟨hb, cur, hh⟩ := hrow x e
      rcases hc with hc | hc
      · omega
      · exact hc.1 _ hh
    rw [ho x n1]; exact hb x hx n2
  have hW := hP.wl (by omega)
  refine ⟨⟨hW.typed _ _ _ h.nbox (by decide) (by decide) (by decide) (by decide), ?_, hW.typed _ _ _ h.abox (by decide) (by decide) (by decide) (by decide), hW.typed _ _ _ h.wbox (by decide) (by decide) (by decide) (by decide), ?_, h.low1, h.low2, h.pb1, by simp [World.setCell]; omega⟩, hP⟩
  · have hn : (Value.slice va qs.length vcap).ownBlock ≠ some pb := fun e => by have := (hrow _ e).1; omega
    have := heap_setCell_same w6 pb 0 _ _ (.slice (some ⟨g, 0, none⟩) (qs.length + 1) cap) ((hb pb (Array.getElem?_eq_some_iff.1 h.pbox).1 hn).trans h.pbox)
    simpa using this
  · rw [partL_snoc, List.length_append]
    refine owns_same hown fun x hx => ho x ?_
    have := (owns_lt hown hx).1
    omega
/-- What parting by a node leaves. -/
structure WkPostB {σ : Type}  (low base nb pb ab wb : Nat) (nv : Value) (I : σ → World → Prop) (St : σ → σ → Prop) (Say : σ → Int → Nat → Prop) (w w' : World) (s s' : σ) (v' : Value) (qs qs' ps : List (Int × Int)) : Prop where
  i : I s' w'
  st : St s s'
  wk : WkRB  low base nb pb ab wb nv w' v' (qs ++ qs')
  says : Says (Say s') ps qs'
  wl : Wl low w w'
set_option maxHeartbeats 12800000 in
theorem walkB_any {σ : Type}  (many low : Nat) (I : σ → World → Prop) (St : σ → σ → Prop) (Say : σ → Int → Nat → Prop) (hT : TellsB  many low I St Say) (base nb pb ab wb : Nat) (na : Option Addr) (ncap : Nat) (nodes : List Tre.Nod) (hnl : nodes.length ≤ 100000) (hncap : nodes.length ≤ ncap) (hD : Down nodes) (hok : ∀ n ∈ nodes, NodOk n) (hans : ∀ nd ∈ nodes, nd.leaf = true → 0 ≤ nd.ans ∧ nd.ans < many) :
    ∀ (n i : Nat) (nd : Tre.Nod) (f l : Int) (s : σ) (v : Value) (qs : List (Int × Int)) (w : World), i < n → nodes[i]? = some nd → f ≤ l → (Lit.int .i64 f).wf = true → (Lit.int .i64 l).wf = true → I s w → NodesLow low w na nodes → WkRB  low base nb pb ab wb (.slice na nodes.length ncap) w v qs → qs.length + (wkD nodes (i + 1) nd f l).length ≤ 50000 →
      Calls Tryd.prog 75 #[.agg (Nod.cells nd).toArray, .int .i64 f, .int .i64 l, .pointer (some ⟨nb, 0, none⟩), .pointer (some ⟨pb, 0, none⟩), .pointer (some ⟨ab, 0, none⟩), .pointer (some ⟨wb, 0, none⟩)] w fun e w' =>
        e = .returned (.tuple #[]) ∧ ∃ (s' : σ) (v' : Value) (qs' : List (Int × Int)), WkPostB  low base nb pb ab wb (.slice na nodes.length ncap) I St Say w w' s s' v' qs qs' (wkD nodes (i + 1) nd f l) := by
  intro n
  induction n with
  | zero => intro i nd f l s v qs w hi; omega
  | succ n ih =>
    intro i nd f l s v qs w hi hnd hfl wf wl hI hN hK hlen
    have IH : Hid _ := ih
    clear ih
    obtain ⟨P, hP⟩ : ∃ P, wkD nodes (i + 1) nd f l = P := ⟨_, rfl⟩
    rw [hP] at hlen ⊢
    have HP : Hid _ := hP
    clear hP
    have bf := bounds_i64 wf
    have bl := bounds_i64 wl
    obtain ⟨va, vcap, rfl⟩ : ∃ a cap, v = .slice a qs.length cap := by
      rcases hK.row.2 with ⟨e, e'⟩ | ⟨g, cap, cur, e, _⟩
      · exact ⟨none, 0, by rw [e, e']⟩
      · exact ⟨_, _, e⟩
    have hwz := Nat.le_trans hK.low2 hK.size
    have HND : Hid _ := hnd
    clear hnd
    obtain ⟨leaf0, a0, bo0, l0, m0⟩ := nd
    simp only [Nod.cells]
    go_enter Tryd.func75, Tryd.ntmps75
    go_wp2_with fail
    have hm0 := heapA w (Obj.cells (Nod.cells ⟨leaf0, a0, bo0, l0, m0⟩).toArray 65)
    have zm : w.heap.size < (w.alloc (Obj.cells (Nod.cells ⟨leaf0, a0, bo0, l0, m0⟩).toArray 65)).heap.size := by simp
    have gm : Gr w (w.alloc (Obj.cells (Nod.cells ⟨leaf0, a0, bo0, l0, m0⟩).toArray 65)) := (Gr.refl _).alloc _
    go_loopw [28] (fun u wr => ∃ (k : Nat) (nd : Tre.Nod), k ≤ i ∧ nodes[k]? = some nd ∧ Gr w wr ∧ w.heap.size < wr.heap.size ∧ wr.heap[w.heap.size]? = some (.cells (Nod.cells nd).toArray 65) ∧ wkD nodes (k + 1) nd f l = P) (fun _ wr => muC (wr.cell? ⟨w.heap.size, 0, none⟩) (wr.cell? ⟨w.heap.size, 3, none⟩) (wr.cell? ⟨w.heap.size, 4, none⟩))
    case atStart => exact ⟨i, _, Nat.le_refl _, HND.out, gm, zm, hm0, HP.out⟩
    case round =>
      obtain ⟨k, nd, hki, hk, hgr, zr, hm, hw⟩ := hrel
      have HK : Hid _ := hk
      have HM : Hid _ := hm
      have HW : Hid _ := hw
      obtain ⟨dm, fm⟩ := row_all hm
      have hKr := hK.gr hgr
      have hNr := hN.gr hgr hwz
      clear hm0 zm gm hm hw
      obtain ⟨leaf, a, bo, ls, m⟩ := nd
      have hmem := hok _ (List.mem_of_getElem? hk)
      have bb := bounds_i64 hmem.bound
      simp only [Nod.cells] at dm bb
      clear hmem
      cases leaf with
      | true =>
        have ha := hans _ (List.mem_of_getElem? hk) rfl
        simp only at ha
        obtain ⟨ha0, ha1⟩ := ha
        have HL : Hid _ := HW.out.symm.trans wk_leaf
        have hlq : qs.length + 1 ≤ 50000 := by rw [HL.out] at hlen; simpa using hlen
        have c0 := (row_all hKr.pbox).1
        have c1 := (row_all hKr.abox).1
        have HCALL : Hid _ := fun W (hg : Gr wr W) => hT.call s a W (hT.keep _ _ _ hI (Pw.ofGr (hgr.trans hg))) ha0 ha1
        rw [show (#[.int .i64 a] : Array Value) = #[.int .i64 a] ++ #[] by simp] at HCALL
        have hwlr := Nat.le_trans hKr.low2 hKr.size
        obtain ⟨i0, hi0, hi1, hi2, hi3⟩ := Tryd.infoPartB
        clear hk
        go_upto_region 6 with fail
        go_region_law (first
          | (refine step_callV (vs := #[.int .i64 a]) (bound := #[]) run_tellB (by simp [Act.eval]) (by simp [Act.eval]) (HCALL.out _ (by repeat (with_reducible first | exact Gr.refl _ | refine Gr.drew ?_ | refine Gr.drewN ?_ _))) ?_; intro en w5 hpost5; obtain ⟨s5, ix, rfl, hI5, hS5, hY5, hC5⟩ := hpost5; refine ⟨_, rfl, ?_⟩; have hCc : Wc low wr w5 := ⟨hC5.os, hC5.out, hC5.size, hC5.block, hC5.typed⟩; have hK5 := hKr.wc hCc; have c5 := (row_all hK5.pbox).1; have f5 := (row_all hK5.pbox).2; have nz6 : pb < w5.heap.size := (Array.getElem?_eq_some_iff.1 hK5.pbox).1; have nz5 : ¬ pb = w5.heap.size := (by omega); have HK5 : Hid _ := hK5; have hsm := hT.small _ _ _ _ hI5 hY5; clear hC5 hK5)
          | (refine step_append_lies _ (by rfl) _ _ _ (by rfl) base 147 i0 _ 2 16 Tryd.underlying123 hi0 hi1 hi2 hi3 rfl (by decide) (.slice va qs.length vcap) qs.length (partL qs) (by rfl) (owns_gr HK5.out.row (by repeat (with_reducible first | exact Gr.refl _ | refine Gr.drew ?_ | refine Gr.drewN ?_ _ | refine Gr.alloc ?_ _))) ⟨w5.heap.size, 0, none⟩ 1 1 [.int .i64 f, .int .i64 ix] (by rfl) (by rfl) (World.news_of_block (cs := #[.int .i64 f, .int .i64 ix]) (t := 147) (fr := (0, 0)) (heapA w5 _)) (by simp [Value.oneCell']) (by omega) (by unfold maxLen; omega) (by omega) (by have := HK5.out.size; simp; omega) (w5.heap.size + 1) (by simp) ?_; intro g6 cap6 w6 hown6 hgrow6 hat6 hlt6; have hST := HK5.out.step ((Gr.refl _).alloc _) hgrow6 hown6; have HST : Hid _ := hST; have hrw : ∀ x, (Value.slice va qs.length vcap).ownBlock = some x → base ≤ x := (fun x hx => (owns_lt HK5.out.row hx).1); have kp6 := (hgrow6.block pb (by have := (Array.getElem?_eq_some_iff.1 HK5.out.pbox).1; simp; omega) (fun e => by have := hrw _ e.symm; have := HK5.out.pb1; omega)).trans ((Below.heap_alloc _ _ _ (Array.getElem?_eq_some_iff.1 HK5.out.pbox).1).trans HK5.out.pbox); have c6 := (row_all kp6).1; have f6 := (row_all kp6).2; clear kp6 hrw hST hown6 hgrow6 hat6 hlt6))
        all_goals
          have hwlA : Wl low w wr := Wl.ofGr hgr hwz
          clear c0 c1 c5 c6 f5 f6 dm fm
          go_wp2
          refine bodyPost_ret (v := .tuple #[]) (by simp [results, Tryd.results75, go_sem]) rfl ⟨rfl, s5, .slice (some ⟨g6, 0, none⟩) (qs.length + 1) cap6, [(f, (ix : Int))], ?_⟩
          exact ⟨hT.keep _ _ _ hI5 HST.out.2, hS5, HST.out.1, by rw [HL.out]; exact Says.one hY5, hwlA.trans (hCc.wl.trans (HST.out.2.wl (Nat.le_trans hwlr hCc.size)))⟩
      | false =>
        have hd := hD.less k _ hk rfl
        simp only at hd
        obtain ⟨r1, r2, r3, r4⟩ := hd
        have hkl := (List.getElem?_eq_some_iff.1 hk).1
        obtain ⟨nn, fn⟩ := row_all hKr.nbox
        by_cases h1 : l < bo
        · have h2 : ¬ bo ≤ f := by omega
          obtain ⟨x, hx⟩ : ∃ x, nodes[ls.toNat]? = some x := ⟨_, List.getElem?_eq_getElem (by omega)⟩
          obtain ⟨b, o, rfl, hb, hc⟩ := hNr.cell _ x hx
          obtain ⟨q0, q1, q2, q3, q4⟩ := hc
          simp [Nod.cells] at q0 q1 q2 q3 q4
          have hst := wk_step hD hki HK.out hx (Or.inl (by omega)) HM.out hgr zr (wk_less hD HK.out h1 hx) HW.out
          have HST : Hid _ := hst
          have hb2 : b ≠ w.heap.size := by omega
          clear hx hk hst
          go_wp2_with fail
          exact ⟨HST.out.1, HST.out.2 _ rfl⟩
        · by_cases h2 : bo ≤ f
          · obtain ⟨x, hx⟩ : ∃ x, nodes[m.toNat]? = some x := ⟨_, List.getElem?_eq_getElem (by omega)⟩
            obtain ⟨b, o, rfl, hb, hc⟩ := hNr.cell _ x hx
            obtain ⟨q0, q1, q2, q3, q4⟩ := hc
            simp [Nod.cells] at q0 q1 q2 q3 q4
            have hst := wk_step hD hki HK.out hx (Or.inr (by omega)) HM.out hgr zr (wk_more hD HK.out h1 h2 hx) HW.out
            have HST : Hid _ := hst
            have hb2 : b ≠ w.heap.size := by omega
            clear hx hk hst
            go_wp2_with fail
            exact ⟨HST.out.1, HST.out.2 _ rfl⟩
          · obtain ⟨x, hx⟩ : ∃ x, nodes[ls.toNat]? = some x := ⟨_, List.getElem?_eq_getElem (by omega)⟩
            obtain ⟨y, hy⟩ : ∃ y, nodes[m.toNat]? = some y := ⟨_, List.getElem?_eq_getElem (by omega)⟩
            have HB : Hid _ := wk_both hD HK.out h1 h2 hx hy
            obtain ⟨b, o, rfl, hb, hc⟩ := hNr.cell _ x hx
            obtain ⟨b', o', e, hb', hc'⟩ := hNr.cell _ y hy
            cases e
            have HX : Hid _ := hx
            have HY : Hid _ := hy
            have Q1 : Hid _ := hc
            have Q2 : Hid _ := hc'
            clear hx hy hk hc hc'
            have hlen2 := hlen
            rw [← HW.out, HB.out, List.length_append] at hlen2
            have A1 : Hid _ := fun W (hg : Gr wr W) => IH.out ls.toNat x f (bo - 1) s _ qs W (by omega) HX.out (by omega) wf (by go_wf2) (hT.keep _ _ _ hI (Pw.ofGr (hgr.trans hg))) (hNr.gr hg (Nat.le_trans hKr.low2 hKr.size)) (hKr.gr hg) (by omega)
            have A2 : Hid _ := fun (s1 : σ) (v1 : Value) (qs1 : List (Int × Int)) W (hI1 : I s1 W) (hN1 : NodesLow low W (some ⟨b, o, none⟩) nodes) (hK1 : WkRB  low base nb pb ab wb (.slice (some ⟨b, o, none⟩) nodes.length ncap) W v1 (qs ++ qs1)) (hl1 : qs1.length = (wkD nodes (ls.toNat + 1) x f (bo - 1)).length) => IH.out m.toNat y bo l s1 v1 (qs ++ qs1) W (by omega) HY.out (by omega) (hok _ (List.mem_of_getElem? HK.out)).bound wl hI1 hN1 hK1 (by rw [List.length_append]; omega)
            simp only [Nod.cells] at A1 A2
            obtain ⟨p0, p1, p2, p3, p4⟩ := Q1.out
            simp [Nod.cells] at p0 p1 p2 p3 p4
            have hwl := Nat.le_trans hKr.low2 hKr.size
            have i1 : ls < (nodes.length : Int) := by omega
            have i2 : m < (nodes.length : Int) := by omega
            have hwr : IntKind.i64.wrap (bo - 1) = bo - 1 := IntWalk.i64_in _ ⟨by omega, by omega⟩
            have hbl : b < wr.heap.size := by omega
            have hO : wr.cell? ⟨wb, 0, none⟩ = some (.func (.func 75) #[] #[.pointer (some ⟨nb, 0, none⟩), .pointer (some ⟨pb, 0, none⟩), .pointer (some ⟨ab, 0, none⟩), .pointer (some ⟨wb, 0, none⟩)]) ∧ wr.cell? ⟨nb, 0, none⟩ = some (.slice (some ⟨b, o, none⟩) nodes.length ncap) ∧ wr.cell? ⟨w.heap.size, 2, none⟩ = some (.int .i64 bo) ∧ wr.cell? ⟨w.heap.size, 3, none⟩ = some (.int .i64 ls) ∧ wr.cell? ⟨b, o + ls.toNat * 5, none⟩ = some (.bool x.leaf) ∧ wr.cell? ⟨b, o + ls.toNat * 5 + 1, none⟩ = some (.int .i64 x.ans) ∧ wr.cell? ⟨b, o + ls.toNat * 5 + 2, none⟩ = some (.int .i64 x.bound) ∧ wr.cell? ⟨b, o + ls.toNat * 5 + 3, none⟩ = some (.int .i64 x.less) ∧ wr.cell? ⟨b, o + ls.toNat * 5 + 4, none⟩ = some (.int .i64 x.more) := ⟨(row_all hKr.wbox).1 0, nn 0, dm 2, dm 3, p0, p1, p2, p3, p4⟩
            clear p0 p1 p2 p3 p4 hlen2
            go_upto_region 7 with fail
            clear dm nn fn fm
            go_region_held3 (fun w' => w'.cell? ⟨wb, 0, none⟩ = some (.func (.func 75) #[] #[.pointer (some ⟨nb, 0, none⟩), .pointer (some ⟨pb, 0, none⟩), .pointer (some ⟨ab, 0, none⟩), .pointer (some ⟨wb, 0, none⟩)]) ∧ w'.cell? ⟨nb, 0, none⟩ = some (.slice (some ⟨b, o, none⟩) nodes.length ncap) ∧ w'.cell? ⟨w.heap.size, 2, none⟩ = some (.int .i64 bo) ∧ w'.cell? ⟨w.heap.size, 3, none⟩ = some (.int .i64 ls) ∧ w'.cell? ⟨b, o + ls.toNat * 5, none⟩ = some (.bool x.leaf) ∧ w'.cell? ⟨b, o + ls.toNat * 5 + 1, none⟩ = some (.int .i64 x.ans) ∧ w'.cell? ⟨b, o + ls.toNat * 5 + 2, none⟩ = some (.int .i64 x.bound) ∧ w'.cell? ⟨b, o + ls.toNat * 5 + 3, none⟩ = some (.int .i64 x.less) ∧ w'.cell? ⟨b, o + ls.toNat * 5 + 4, none⟩ = some (.int .i64 x.more)) (first | with_reducible exact hO | (simpa [go_sem] using hO))
              (first
                | (go_at_call 75; refine (A1.out _ (by repeat (with_reducible first | exact Gr.refl _ | refine Gr.drew ?_))).mono ?_; rintro e w5 ⟨rfl, s1, v1, qs1, hp1⟩
                   have hwl5 : Wl low wr w5 := ⟨hp1.wl.os, hp1.wl.out, hp1.wl.size, hp1.wl.block, hp1.wl.typed⟩
                   have hN5 := hNr.wl hwl5
                   have m5 := (row_all (hwl5.typed _ _ _ HM.out (by decide) (by decide) (by decide) (by decide))).1
                   have n5 := (row_all hp1.wk.nbox).1
                   obtain ⟨p0, p1, p2, p3, p4⟩ := Q1.out
                   simp [Nod.cells] at p0 p1 p2 p3 p4
                   have g := fun o => World.cell?_of_block (w := wr) (a := ⟨b, o, none⟩) (hwl5.block b hb)
                   simp only [Nod.cells] at m5
                   have e0 := (row_all hp1.wk.wbox).1 0
                   have e1 := n5 0
                   have e2 := m5 2
                   have e3 := m5 3
                   have e4 := (g _).trans p0
                   have e5 := (g _).trans p1
                   have e6 := (g _).trans p2
                   have e7 := (g _).trans p3
                   have e8 := (g _).trans p4
                   simp at e0 e1 e2 e3
                   replace hO := And.intro e0 (And.intro e1 (And.intro e2 (And.intro e3 (And.intro e4 (And.intro e5 (And.intro e6 (And.intro e7 e8)))))))
                   clear p0 p1 p2 p3 p4 g m5 n5))
            have hlq := hp1.says.len
            obtain ⟨p0, p1, p2, p3, p4⟩ := Q2.out
            simp [Nod.cells] at p0 p1 p2 p3 p4
            have gB := fun o => World.cell?_of_block (w := wr) (a := ⟨b, o, none⟩) (hwl5.block b hb)
            have m6 := (row_all (hwl5.typed _ _ _ HM.out (by decide) (by decide) (by decide) (by decide))).1
            simp only [Nod.cells] at m6
            have hO2 : w5.cell? ⟨wb, 0, none⟩ = some (.func (.func 75) #[] #[.pointer (some ⟨nb, 0, none⟩), .pointer (some ⟨pb, 0, none⟩), .pointer (some ⟨ab, 0, none⟩), .pointer (some ⟨wb, 0, none⟩)]) ∧ w5.cell? ⟨nb, 0, none⟩ = some (.slice (some ⟨b, o, none⟩) nodes.length ncap) ∧ w5.cell? ⟨w.heap.size, 2, none⟩ = some (.int .i64 bo) ∧ w5.cell? ⟨w.heap.size, 4, none⟩ = some (.int .i64 m) ∧ w5.cell? ⟨b, o + m.toNat * 5, none⟩ = some (.bool y.leaf) ∧ w5.cell? ⟨b, o + m.toNat * 5 + 1, none⟩ = some (.int .i64 y.ans) ∧ w5.cell? ⟨b, o + m.toNat * 5 + 2, none⟩ = some (.int .i64 y.bound) ∧ w5.cell? ⟨b, o + m.toNat * 5 + 3, none⟩ = some (.int .i64 y.less) ∧ w5.cell? ⟨b, o + m.toNat * 5 + 4, none⟩ = some (.int .i64 y.more) := ⟨hO.1, hO.2.1, hO.2.2.1, m6 4, (gB _).trans p0, (gB _).trans p1, (gB _).trans p2, (gB _).trans p3, (gB _).trans p4⟩
            clear p0 p1 p2 p3 p4 m6 gB hO
            go_upto_region 8 with fail
            go_region_held3 (fun w' => w'.cell? ⟨wb, 0, none⟩ = some (.func (.func 75) #[] #[.pointer (some ⟨nb, 0, none⟩), .pointer (some ⟨pb, 0, none⟩), .pointer (some ⟨ab, 0, none⟩), .pointer (some ⟨wb, 0, none⟩)]) ∧ w'.cell? ⟨nb, 0, none⟩ = some (.slice (some ⟨b, o, none⟩) nodes.length ncap) ∧ w'.cell? ⟨w.heap.size, 2, none⟩ = some (.int .i64 bo) ∧ w'.cell? ⟨w.heap.size, 4, none⟩ = some (.int .i64 m) ∧ w'.cell? ⟨b, o + m.toNat * 5, none⟩ = some (.bool y.leaf) ∧ w'.cell? ⟨b, o + m.toNat * 5 + 1, none⟩ = some (.int .i64 y.ans) ∧ w'.cell? ⟨b, o + m.toNat * 5 + 2, none⟩ = some (.int .i64 y.bound) ∧ w'.cell? ⟨b, o + m.toNat * 5 + 3, none⟩ = some (.int .i64 y.less) ∧ w'.cell? ⟨b, o + m.toNat * 5 + 4, none⟩ = some (.int .i64 y.more)) (first | with_reducible exact hO2 | (simpa [go_sem] using hO2))
              (first
                | (go_at_call 75; refine (A2.out s1 v1 qs1 _ (hT.keep _ _ _ hp1.i (Pw.ofGr (by repeat (with_reducible first | exact Gr.refl _ | refine Gr.drew ?_)))) (hN5.gr (by repeat (with_reducible first | exact Gr.refl _ | refine Gr.drew ?_)) (by have := hwl5.size; omega)) (hp1.wk.gr (by repeat (with_reducible first | exact Gr.refl _ | refine Gr.drew ?_))) hlq).mono ?_; rintro e w6 ⟨rfl, s2, v2, qs2, hp2⟩
                   have hwl6 : Wl low w5 w6 := ⟨hp2.wl.os, hp2.wl.out, hp2.wl.size, hp2.wl.block, hp2.wl.typed⟩
                   have m5 := (row_all (hwl6.typed _ _ _ (hwl5.typed _ _ _ HM.out (by decide) (by decide) (by decide) (by decide)) (by decide) (by decide) (by decide) (by decide))).1
                   have n5 := (row_all hp2.wk.nbox).1
                   obtain ⟨p0, p1, p2, p3, p4⟩ := Q2.out
                   simp [Nod.cells] at p0 p1 p2 p3 p4
                   have g := fun o => World.cell?_of_block (w := wr) (a := ⟨b, o, none⟩) ((hwl6.block b hb).trans (hwl5.block b hb))
                   simp only [Nod.cells] at m5
                   have e0 := (row_all hp2.wk.wbox).1 0
                   have e1 := n5 0
                   have e2 := m5 2
                   have e3 := m5 4
                   have e4 := (g _).trans p0
                   have e5 := (g _).trans p1
                   have e6 := (g _).trans p2
                   have e7 := (g _).trans p3
                   have e8 := (g _).trans p4
                   simp at e0 e1 e2 e3
                   replace hO2 := And.intro e0 (And.intro e1 (And.intro e2 (And.intro e3 (And.intro e4 (And.intro e5 (And.intro e6 (And.intro e7 e8)))))))
                   clear p0 p1 p2 p3 p4 g m5 n5))
            have hwlA : Wl low w wr := Wl.ofGr hgr hwz
            go_wp2
            refine bodyPost_end (v := .tuple #[]) (by simp [results, Tryd.results75, go_sem]) rfl ⟨rfl, s2, v2, qs1 ++ qs2, ?_⟩
            rw [← HW.out, HB.out]
            exact ⟨hp2.i, hT.trans _ _ _ hp1.st hp2.st, by have := hp2.wk; rwa [List.append_assoc] at this, (hp1.says.mono fun n i h => hT.mono _ _ _ _ hp2.st h).app hp2.says, hwlA.trans (hwl5.trans hwl6)⟩
end Go.Proofs.YtcpmbjlhblkniaaDoor
