/- Contract: Opt: a forest made less. -/
import Derived.Test.YtcpmbjlhblkniaaDoorPaA
import Derived.Deep.RegionHeld3
import Derived.Deep.RegionLaw
import Derived.Deep.Cut
import Derived.Laws.EntriesVeiled
import Derived.Test.YtcpmbjlhblkniaaDoorHalM
import Derived.Test.YtcpmbjlhblkniaaDoorGroW
import Derived.Test.YtcpmbjlhblkniaaDoorFiP
import Derived.Test.YtcpmbjlhblkniaaDoorGr
import Derived.Test.YtcpmbjlhblkniaaDoorCop
import Derived.Test.YtcpmbjlhblkniaaDoorFinF
import Derived.Test.YtcpmbjlhblkniaaDoorFinP
import Derived.Test.YtcpmbjlhblkniaaDoorTreC
import Derived.Lib.SliceRun
namespace Go.Proofs.YtcpmbjlhblkniaaDoor
open Go.ChangeShapes Go.WideShapes Go.ChangeAt Go.RowKit
set_option linter.unusedVariables false
set_option maxRecDepth 100000
structure TellsM {σ : Type} (cb fb : Nat) (many low : Nat) (I : σ → World → Prop) (St : σ → σ → Prop) (Say : σ → Int → Nat → Prop) : Prop where
  call : ∀ s (n : Int) W, I s W → 0 ≤ n → n < many → Calls Tryd.prog 57 #[.int .i64 n, .pointer (some ⟨cb, 0, none⟩), .pointer (some ⟨fb, 0, none⟩)] W fun e W' => ∃ (s' : σ) (i : Nat), e = .returned (.int .i64 i) ∧ I s' W' ∧ St s s' ∧ Say s' n i ∧ Wc low W W'
  keep : ∀ s W W', I s W → Pw low W W' → I s W'
  low : ∀ s W, I s W → low ≤ W.heap.size
  refl : ∀ s, St s s
  trans : ∀ a b c, St a b → St b c → St a c
  mono : ∀ a b n i, St a b → Say a n i → Say b n i
  small : ∀ s n i W, I s W → Say s n i → i ≤ 100000
/-- The memory of the walk. -/
structure WkRM (cb fb : Nat) (low base nb pb ab wb : Nat) (nv : Value) (w : World) (v : Value) (qs : List (Int × Int)) : Prop where
  nbox : w.heap[nb]? = some (.cells #[nv] 40)
  pbox : w.heap[pb]? = some (.cells #[v] 123)
  abox : w.heap[ab]? = some (.cells #[.func (.func 57) #[] #[.pointer (some ⟨cb, 0, none⟩), .pointer (some ⟨fb, 0, none⟩)]] 125)
  wbox : w.heap[wb]? = some (.cells #[.func (.func 75) #[] #[.pointer (some ⟨nb, 0, none⟩), .pointer (some ⟨pb, 0, none⟩), .pointer (some ⟨ab, 0, none⟩), .pointer (some ⟨wb, 0, none⟩)]] 145)
  row : w.ownsRow base 147 2 v qs.length (partL qs)
  low1 : low ≤ pb
  low2 : low ≤ base
  pb1 : pb < base
  size : base ≤ w.heap.size
theorem WkRM.wc {cb fb low base nb pb ab wb : Nat} {nv : Value} {w w' : World} {v : Value} {qs : List (Int × Int)} (h : WkRM cb fb low base nb pb ab wb nv w v qs) (k : Wc low w w') : WkRM cb fb low base nb pb ab wb nv w' v qs :=
  ⟨k.typed _ _ _ h.nbox (by decide) (by decide), k.typed _ _ _ h.pbox (by decide) (by decide), k.typed _ _ _ h.abox (by decide) (by decide), k.typed _ _ _ h.wbox (by decide) (by decide), by
    refine owns_same h.row fun g hg => ?_
    rcases h.row.2 with ⟨e, _⟩ | ⟨g', cap, cur, e, hb, hh, r⟩
    · rw [e] at hg; simp [Value.ownBlock] at hg
    · rw [e] at hg; simp [Value.ownBlock] at hg; subst hg
      rw [hh]; exact k.typed _ _ _ hh (by decide) (by decide), h.low1, h.low2, h.pb1, Nat.le_trans h.size k.size⟩
theorem WkRM.gr {cb fb low base nb pb ab wb : Nat} {nv : Value} {w w' : World} {v : Value} {qs : List (Int × Int)} (h : WkRM cb fb low base nb pb ab wb nv w v qs) (k : Gr w w') : WkRM cb fb low base nb pb ab wb nv w' v qs :=
  h.wc (Wc.ofGr k (Nat.le_trans h.low2 h.size))
theorem Tryd.infoPartM : ∃ i, Tryd.prog.info? 147 = some i ∧ i.zero = some (.agg #[.int .i64 0, .int .i64 0]) ∧ i.size = 2 ∧ i.bytes = 16 :=
  ⟨_, rfl, by kernel_rfl, by kernel_rfl, by kernel_rfl⟩
theorem run_tellM (vs : Array Value) (w : World) : (callFunc 57 vs).run Tryd.prog w = .ok (.enter 57 vs) w := by
  have h1 : (Tryd.f57.name == "runtime.NumGoroutine") = false := by kernel_rfl
  have h2 : Tryd.f57.body.isNone = false := by kernel_rfl
  have h1' : ¬ Tryd.f57.name = "runtime.NumGoroutine" := by simpa using h1
  have h2' : ¬ Tryd.f57.body = none := by intro h; rw [h] at h2; cases h2
  simp [callFunc, go_sem, Tryd.func57, h1', h2']
/-- Nodes whose cells lie below a number. -/
structure NodesLow (low : Nat) (w : World) (na : Option Addr) (nodes : List Tre.Nod) : Prop where
  cell : ∀ (i : Nat) x, nodes[i]? = some x → ∃ b o, na = some ⟨b, o, none⟩ ∧ b < low ∧ Five w b (o + i * 5) (Nod.cells x)
theorem NodesLow.wl {low : Nat} {w w' : World} {na : Option Addr} {nodes : List Tre.Nod} (h : NodesLow low w na nodes) (k : Wl low w w') : NodesLow low w' na nodes :=
  ⟨fun i x hx => by
    obtain ⟨b, o, e, hb, h0, h1, h2, h3, h4⟩ := h.cell i x hx
    have g := fun o => World.cell?_of_block (w := w) (a := ⟨b, o, none⟩) (k.block b hb)
    exact ⟨b, o, e, hb, (g _).trans h0, (g _).trans h1, (g _).trans h2, (g _).trans h3, (g _).trans h4⟩⟩
theorem NodesLow.gr {low : Nat} {w w' : World} {na : Option Addr} {nodes : List Tre.Nod} (h : NodesLow low w na nodes) (k : Gr w w') (hl : low ≤ w.heap.size) : NodesLow low w' na nodes := h.wl (Wl.ofGr k hl)
theorem WkRM.step {cb fb low base nb pb ab wb g cap vcap : Nat} {nv : Value} {w5 W4 w6 : World} {va : Option Addr} {qs : List (Int × Int)} {f i : Int} (h : WkRM cb fb low base nb pb ab wb nv w5 (.slice va qs.length vcap) qs) (g1 : Gr w5 W4) (hgrow : W4.grownBy w6 (Value.slice va qs.length vcap).ownBlock)
    (hown : w6.ownsRow base 147 2 (.slice (some ⟨g, 0, none⟩) (qs.length + 1) cap) (qs.length + 1) (partL qs ++ [.int .i64 f, .int .i64 i])) :
    WkRM cb fb low base nb pb ab wb nv (w6.setCell ⟨pb, 0, none⟩ (.slice (some ⟨g, 0, none⟩) (qs.length + 1) cap)) (.slice (some ⟨g, 0, none⟩) (qs.length + 1) cap) (qs ++ [(f, i)]) ∧ Pw low w5 (w6.setCell ⟨pb, 0, none⟩ (.slice (some ⟨g, 0, none⟩) (qs.length + 1) cap)) := by
  have s1 := g1.size
  have s2 := hgrow.size
  have hz := h.size
  have hlow1 := h.low1
  have hlow2 := h.low2
  have hpb := h.pb1
  have ho : ∀ x, x ≠ pb → (w6.setCell ⟨pb, 0, none⟩ (.slice (some ⟨g, 0, none⟩) (qs.length + 1) cap)).heap[x]? = w6.heap[x]? := fun x hne => heap_setCell_other w6 ⟨pb, 0, none⟩ x _ hne
  have hrow : ∀ x, (Value.slice va qs.length vcap).ownBlock = some x → base ≤ x ∧ ∃ cur, w5.heap[x]? = some (.cells cur 147) := fun x hx => by
    rcases h.row.2 with ⟨e, _⟩ | ⟨g', c', cur, e, hb, hh, r⟩
    · rw [e] at hx; simp [Value.ownBlock] at hx
    · rw [e] at hx; simp [Value.ownBlock] at hx; subst hx; exact ⟨hb, cur, hh⟩
  have hb : ∀ x, x < w5.heap.size → (Value.slice va qs.length vcap).ownBlock ≠ some x → w6.heap[x]? = w5.heap[x]? := fun x hx hne => (hgrow.block x (by omega) (fun e => hne e.symm)).trans (g1.block x hx)
  have hP : Pw low w5 (w6.setCell ⟨pb, 0, none⟩ (.slice (some ⟨g, 0, none⟩) (qs.length + 1) cap)) := by
    refine ⟨hgrow.os.trans g1.os, hgrow.output.trans g1.out, by simp [World.setCell]; omega, fun x hx hc => ?_⟩
    have n1 : x ≠ pb := fun e => by
      rcases hc with hc | hc
      · omega
      · exact hc.2 _ (e ▸ h.pbox)
    have n2 : (Value.slice va qs.length vcap).ownBlock ≠ some x := fun e => by
      obtain ⟨hb, cur, hh⟩ := hrow x e
      rcases hc with hc | hc
      · omega
      · exact hc.1 _ hh
    rw [ho x n1]; exact hb x hx n2
  have hW := hP.wl (by omega)
  refine ⟨⟨hW.typed _ _ _ h.nbox (by decide) (by decide) (by decide) (by decide), ?_, hW.typed _ _ _ h.abox (by decide) (by decide) (by decide) (by decide), hW.typed _ _ _ h.wbox (by decide) (by decide) (by decide) (by decide), ?_, h.low1, h.low2, h.pb1, by simp [World.setCell]; omega⟩, hP⟩
  · have hn : (Value.slice va qs.length vcap).ownBlock ≠ some pb := fun e => by have := (hrow _ e).1; omega
    have := heap_setCell_same w6 pb 0 _ _ (.slice (some ⟨g, 0, none⟩) (qs.length + 1) cap) ((hb pb (Array.getElem?_eq_some_iff.1 h.pbox).1 hn).trans h.pbox)
    simpa using this
  · rw [partL_snoc, List.length_append]
    refine owns_same hown fun x hx => ho x ?_
    have := (owns_lt hown hx).1
    omega
/-- What parting by a node leaves. -/
structure WkPostM {σ : Type} (cb fb : Nat) (low base nb pb ab wb : Nat) (nv : Value) (I : σ → World → Prop) (St : σ → σ → Prop) (Say : σ → Int → Nat → Prop) (w w' : World) (s s' : σ) (v' : Value) (qs qs' ps : List (Int × Int)) : Prop where
  i : I s' w'
  st : St s s'
  wk : WkRM cb fb low base nb pb ab wb nv w' v' (qs ++ qs')
  says : Says (Say s') ps qs'
  wl : Wl low w w'
set_option maxHeartbeats 12800000 in
theorem walkM_any {σ : Type} (cb fb : Nat) (many low : Nat) (I : σ → World → Prop) (St : σ → σ → Prop) (Say : σ → Int → Nat → Prop) (hT : TellsM cb fb many low I St Say) (base nb pb ab wb : Nat) (na : Option Addr) (ncap : Nat) (nodes : List Tre.Nod) (hnl : nodes.length ≤ 100000) (hncap : nodes.length ≤ ncap) (hD : Down nodes) (hok : ∀ n ∈ nodes, NodOk n) (hans : ∀ nd ∈ nodes, nd.leaf = true → 0 ≤ nd.ans ∧ nd.ans < many) :
    ∀ (n i : Nat) (nd : Tre.Nod) (f l : Int) (s : σ) (v : Value) (qs : List (Int × Int)) (w : World), i < n → nodes[i]? = some nd → f ≤ l → (Lit.int .i64 f).wf = true → (Lit.int .i64 l).wf = true → I s w → NodesLow low w na nodes → WkRM cb fb low base nb pb ab wb (.slice na nodes.length ncap) w v qs → qs.length + (wkD nodes (i + 1) nd f l).length ≤ 50000 →
      Calls Tryd.prog 75 #[.agg (Nod.cells nd).toArray, .int .i64 f, .int .i64 l, .pointer (some ⟨nb, 0, none⟩), .pointer (some ⟨pb, 0, none⟩), .pointer (some ⟨ab, 0, none⟩), .pointer (some ⟨wb, 0, none⟩)] w fun e w' =>
        e = .returned (.tuple #[]) ∧ ∃ (s' : σ) (v' : Value) (qs' : List (Int × Int)), WkPostM cb fb low base nb pb ab wb (.slice na nodes.length ncap) I St Say w w' s s' v' qs qs' (wkD nodes (i + 1) nd f l) := by
  intro n
  induction n with
  | zero => intro i nd f l s v qs w hi; omega
  | succ n ih =>
    intro i nd f l s v qs w hi hnd hfl wf wl hI hN hK hlen
    have IH : Hid _ := ih
    clear ih
    obtain ⟨P, hP⟩ : ∃ P, wkD nodes (i + 1) nd f l = P := ⟨_, rfl⟩
    rw [hP] at hlen ⊢
    have HP : Hid _ := hP
    clear hP
    have bf := bounds_i64 wf
    have bl := bounds_i64 wl
    obtain ⟨va, vcap, rfl⟩ : ∃ a cap, v = .slice a qs.length cap := by
      rcases hK.row.2 with ⟨e, e'⟩ | ⟨g, cap, cur, e, _⟩
      · exact ⟨none, 0, by rw [e, e']⟩
      · exact ⟨_, _, e⟩
    have hwz := Nat.le_trans hK.low2 hK.size
    have HND : Hid _ := hnd
    clear hnd
    obtain ⟨leaf0, a0, bo0, l0, m0⟩ := nd
    simp only [Nod.cells]
    go_enter Tryd.func75, Tryd.ntmps75
    go_wp2_with fail
    have hm0 := heapA w (Obj.cells (Nod.cells ⟨leaf0, a0, bo0, l0, m0⟩).toArray 65)
    have zm : w.heap.size < (w.alloc (Obj.cells (Nod.cells ⟨leaf0, a0, bo0, l0, m0⟩).toArray 65)).heap.size := by simp
    have gm : Gr w (w.alloc (Obj.cells (Nod.cells ⟨leaf0, a0, bo0, l0, m0⟩).toArray 65)) := (Gr.refl _).alloc _
    go_loopw [28] (fun u wr => ∃ (k : Nat) (nd : Tre.Nod), k ≤ i ∧ nodes[k]? = some nd ∧ Gr w wr ∧ w.heap.size < wr.heap.size ∧ wr.heap[w.heap.size]? = some (.cells (Nod.cells nd).toArray 65) ∧ wkD nodes (k + 1) nd f l = P) (fun _ wr => muC (wr.cell? ⟨w.heap.size, 0, none⟩) (wr.cell? ⟨w.heap.size, 3, none⟩) (wr.cell? ⟨w.heap.size, 4, none⟩))
    case atStart => exact ⟨i, _, Nat.le_refl _, HND.out, gm, zm, hm0, HP.out⟩
    case round =>
      obtain ⟨k, nd, hki, hk, hgr, zr, hm, hw⟩ := hrel
      have HK : Hid _ := hk
      have HM : Hid _ := hm
      have HW : Hid _ := hw
      obtain ⟨dm, fm⟩ := row_all hm
      have hKr := hK.gr hgr
      have hNr := hN.gr hgr hwz
      clear hm0 zm gm hm hw
      obtain ⟨leaf, a, bo, ls, m⟩ := nd
      have hmem := hok _ (List.mem_of_getElem? hk)
      have bb := bounds_i64 hmem.bound
      simp only [Nod.cells] at dm bb
      clear hmem
      cases leaf with
      | true =>
        have ha := hans _ (List.mem_of_getElem? hk) rfl
        simp only at ha
        obtain ⟨ha0, ha1⟩ := ha
        have HL : Hid _ := HW.out.symm.trans wk_leaf
        have hlq : qs.length + 1 ≤ 50000 := by rw [HL.out] at hlen; simpa using hlen
        have c0 := (row_all hKr.pbox).1
        have c1 := (row_all hKr.abox).1
        have HCALL : Hid _ := fun W (hg : Gr wr W) => hT.call s a W (hT.keep _ _ _ hI (Pw.ofGr (hgr.trans hg))) ha0 ha1
        rw [show (#[.int .i64 a, .pointer (some ⟨cb, 0, none⟩), .pointer (some ⟨fb, 0, none⟩)] : Array Value) = #[.int .i64 a] ++ #[.pointer (some ⟨cb, 0, none⟩), .pointer (some ⟨fb, 0, none⟩)] by simp] at HCALL
        have hwlr := Nat.le_trans hKr.low2 hKr.size
        obtain ⟨i0, hi0, hi1, hi2, hi3⟩ := Tryd.infoPartM
        clear hk
        go_upto_region 6 with fail
        go_region_law (first
          | (refine step_callV (vs := #[.int .i64 a]) (bound := #[.pointer (some ⟨cb, 0, none⟩), .pointer (some ⟨fb, 0, none⟩)]) run_tellM (by simp [Act.eval]) (by simp [Act.eval]) (HCALL.out _ (by repeat (with_reducible first | exact Gr.refl _ | refine Gr.drew ?_ | refine Gr.drewN ?_ _))) ?_; intro en w5 hpost5; obtain ⟨s5, ix, rfl, hI5, hS5, hY5, hC5⟩ := hpost5; refine ⟨_, rfl, ?_⟩; have hCc : Wc low wr w5 := ⟨hC5.os, hC5.out, hC5.size, hC5.block, hC5.typed⟩; have hK5 := hKr.wc hCc; have c5 := (row_all hK5.pbox).1; have f5 := (row_all hK5.pbox).2; have nz6 : pb < w5.heap.size := (Array.getElem?_eq_some_iff.1 hK5.pbox).1; have nz5 : ¬ pb = w5.heap.size := (by omega); have HK5 : Hid _ := hK5; have hsm := hT.small _ _ _ _ hI5 hY5; clear hC5 hK5)
          | (refine step_append_lies _ (by rfl) _ _ _ (by rfl) base 147 i0 _ 2 16 Tryd.underlying123 hi0 hi1 hi2 hi3 rfl (by decide) (.slice va qs.length vcap) qs.length (partL qs) (by rfl) (owns_gr HK5.out.row (by repeat (with_reducible first | exact Gr.refl _ | refine Gr.drew ?_ | refine Gr.drewN ?_ _ | refine Gr.alloc ?_ _))) ⟨w5.heap.size, 0, none⟩ 1 1 [.int .i64 f, .int .i64 ix] (by rfl) (by rfl) (World.news_of_block (cs := #[.int .i64 f, .int .i64 ix]) (t := 147) (fr := (0, 0)) (heapA w5 _)) (by simp [Value.oneCell']) (by omega) (by unfold maxLen; omega) (by omega) (by have := HK5.out.size; simp; omega) (w5.heap.size + 1) (by simp) ?_; intro g6 cap6 w6 hown6 hgrow6 hat6 hlt6; have hST := HK5.out.step ((Gr.refl _).alloc _) hgrow6 hown6; have HST : Hid _ := hST; have hrw : ∀ x, (Value.slice va qs.length vcap).ownBlock = some x → base ≤ x := (fun x hx => (owns_lt HK5.out.row hx).1); have kp6 := (hgrow6.block pb (by have := (Array.getElem?_eq_some_iff.1 HK5.out.pbox).1; simp; omega) (fun e => by have := hrw _ e.symm; have := HK5.out.pb1; omega)).trans ((Below.heap_alloc _ _ _ (Array.getElem?_eq_some_iff.1 HK5.out.pbox).1).trans HK5.out.pbox); have c6 := (row_all kp6).1; have f6 := (row_all kp6).2; clear kp6 hrw hST hown6 hgrow6 hat6 hlt6))
        all_goals
          have hwlA : Wl low w wr := Wl.ofGr hgr hwz
          clear c0 c1 c5 c6 f5 f6 dm fm
          go_wp2
          refine bodyPost_ret (v := .tuple #[]) (by simp [results, Tryd.results75, go_sem]) rfl ⟨rfl, s5, .slice (some ⟨g6, 0, none⟩) (qs.length + 1) cap6, [(f, (ix : Int))], ?_⟩
          exact ⟨hT.keep _ _ _ hI5 HST.out.2, hS5, HST.out.1, by rw [HL.out]; exact Says.one hY5, hwlA.trans (hCc.wl.trans (HST.out.2.wl (Nat.le_trans hwlr hCc.size)))⟩
      | false =>
        have hd := hD.less k _ hk rfl
        simp only at hd
        obtain ⟨r1, r2, r3, r4⟩ := hd
        have hkl := (List.getElem?_eq_some_iff.1 hk).1
        obtain ⟨nn, fn⟩ := row_all hKr.nbox
        by_cases h1 : l < bo
        · have h2 : ¬ bo ≤ f := by omega
          obtain ⟨x, hx⟩ : ∃ x, nodes[ls.toNat]? = some x := ⟨_, List.getElem?_eq_getElem (by omega)⟩
          obtain ⟨b, o, rfl, hb, hc⟩ := hNr.cell _ x hx
          obtain ⟨q0, q1, q2, q3, q4⟩ := hc
          simp [Nod.cells] at q0 q1 q2 q3 q4
          have hst := wk_step hD hki HK.out hx (Or.inl (by omega)) HM.out hgr zr (wk_less hD HK.out h1 hx) HW.out
          have HST : Hid _ := hst
          have hb2 : b ≠ w.heap.size := by omega
          clear hx hk hst
          go_wp2_with fail
          exact ⟨HST.out.1, HST.out.2 _ rfl⟩
        · by_cases h2 : bo ≤ f
          · obtain ⟨x, hx⟩ : ∃ x, nodes[m.toNat]? = some x := ⟨_, List.getElem?_eq_getElem (by omega)⟩
            obtain ⟨b, o, rfl, hb, hc⟩ := hNr.cell _ x hx
            obtain ⟨q0, q1, q2, q3, q4⟩ := hc
            simp [Nod.cells] at q0 q1 q2 q3 q4
            have hst := wk_step hD hki HK.out hx (Or.inr (by omega)) HM.out hgr zr (wk_more hD HK.out h1 h2 hx) HW.out
            have HST : Hid _ := hst
            have hb2 : b ≠ w.heap.size := by omega
            clear hx hk hst
            go_wp2_with fail
            exact ⟨HST.out.1, HST.out.2 _ rfl⟩
          · obtain ⟨x, hx⟩ : ∃ x, nodes[ls.toNat]? = some x := ⟨_, List.getElem?_eq_getElem (by omega)⟩
            obtain ⟨y, hy⟩ : ∃ y, nodes[m.toNat]? = some y := ⟨_, List.getElem?_eq_getElem (by omega)⟩
            have HB : Hid _ := wk_both hD HK.out h1 h2 hx hy
            obtain ⟨b, o, rfl, hb, hc⟩ := hNr.cell _ x hx
            obtain ⟨b', o', e, hb', hc'⟩ := hNr.cell _ y hy
            cases e
            have HX : Hid _ := hx
            have HY : Hid _ := hy
            have Q1 : Hid _ := hc
            have Q2 : Hid _ := hc'
            clear hx hy hk hc hc'
            have hlen2 := hlen
            rw [← HW.out, HB.out, List.length_append] at hlen2
            have A1 : Hid _ := fun W (hg : Gr wr W) => IH.out ls.toNat x f (bo - 1) s _ qs W (by omega) HX.out (by omega) wf (by go_wf2) (hT.keep _ _ _ hI (Pw.ofGr (hgr.trans hg))) (hNr.gr hg (Nat.le_trans hKr.low2 hKr.size)) (hKr.gr hg) (by omega)
            have A2 : Hid _ := fun (s1 : σ) (v1 : Value) (qs1 : List (Int × Int)) W (hI1 : I s1 W) (hN1 : NodesLow low W (some ⟨b, o, none⟩) nodes) (hK1 : WkRM cb fb low base nb pb ab wb (.slice (some ⟨b, o, none⟩) nodes.length ncap) W v1 (qs ++ qs1)) (hl1 : qs1.length = (wkD nodes (ls.toNat + 1) x f (bo - 1)).length) => IH.out m.toNat y bo l s1 v1 (qs ++ qs1) W (by omega) HY.out (by omega) (hok _ (List.mem_of_getElem? HK.out)).bound wl hI1 hN1 hK1 (by rw [List.length_append]; omega)
            simp only [Nod.cells] at A1 A2
            obtain ⟨p0, p1, p2, p3, p4⟩ := Q1.out
            simp [Nod.cells] at p0 p1 p2 p3 p4
            have hwl := Nat.le_trans hKr.low2 hKr.size
            have i1 : ls < (nodes.length : Int) := by omega
            have i2 : m < (nodes.length : Int) := by omega
            have hwr : IntKind.i64.wrap (bo - 1) = bo - 1 := IntWalk.i64_in _ ⟨by omega, by omega⟩
            have hbl : b < wr.heap.size := by omega
            have hO : wr.cell? ⟨wb, 0, none⟩ = some (.func (.func 75) #[] #[.pointer (some ⟨nb, 0, none⟩), .pointer (some ⟨pb, 0, none⟩), .pointer (some ⟨ab, 0, none⟩), .pointer (some ⟨wb, 0, none⟩)]) ∧ wr.cell? ⟨nb, 0, none⟩ = some (.slice (some ⟨b, o, none⟩) nodes.length ncap) ∧ wr.cell? ⟨w.heap.size, 2, none⟩ = some (.int .i64 bo) ∧ wr.cell? ⟨w.heap.size, 3, none⟩ = some (.int .i64 ls) ∧ wr.cell? ⟨b, o + ls.toNat * 5, none⟩ = some (.bool x.leaf) ∧ wr.cell? ⟨b, o + ls.toNat * 5 + 1, none⟩ = some (.int .i64 x.ans) ∧ wr.cell? ⟨b, o + ls.toNat * 5 + 2, none⟩ = some (.int .i64 x.bound) ∧ wr.cell? ⟨b, o + ls.toNat * 5 + 3, none⟩ = some (.int .i64 x.less) ∧ wr.cell? ⟨b, o + ls.toNat * 5 + 4, none⟩ = some (.int .i64 x.more) := ⟨(row_all hKr.wbox).1 0, nn 0, dm 2, dm 3, p0, p1, p2, p3, p4⟩
            clear p0 p1 p2 p3 p4 hlen2
            go_upto_region 7 with fail
            clear dm nn fn fm
            go_region_held3 (fun w' => w'.cell? ⟨wb, 0, none⟩ = some (.func (.func 75) #[] #[.pointer (some ⟨nb, 0, none⟩), .pointer (some ⟨pb, 0, none⟩), .pointer (some ⟨ab, 0, none⟩), .pointer (some ⟨wb, 0, none⟩)]) ∧ w'.cell? ⟨nb, 0, none⟩ = some (.slice (some ⟨b, o, none⟩) nodes.length ncap) ∧ w'.cell? ⟨w.heap.size, 2, none⟩ = some (.int .i64 bo) ∧ w'.cell? ⟨w.heap.size, 3, none⟩ = some (.int .i64 ls) ∧ w'.cell? ⟨b, o + ls.toNat * 5, none⟩ = some (.bool x.leaf) ∧ w'.cell? ⟨b, o + ls.toNat * 5 + 1, none⟩ = some (.int .i64 x.ans) ∧ w'.cell? ⟨b, o + ls.toNat * 5 + 2, none⟩ = some (.int .i64 x.bound) ∧ w'.cell? ⟨b, o + ls.toNat * 5 + 3, none⟩ = some (.int .i64 x.less) ∧ w'.cell? ⟨b, o + ls.toNat * 5 + 4, none⟩ = some (.int .i64 x.more)) (first | with_reducible exact hO | (simpa [go_sem] using hO))
              (first
                | (go_at_call 75; refine (A1.out _ (by repeat (with_reducible first | exact Gr.refl _ | refine Gr.drew ?_))).mono ?_; rintro e w5 ⟨rfl, s1, v1, qs1, hp1⟩
                   have hwl5 : Wl low wr w5 := ⟨hp1.wl.os, hp1.wl.out, hp1.wl.size, hp1.wl.block, hp1.wl.typed⟩
                   have hN5 := hNr.wl hwl5
                   have m5 := (row_all (hwl5.typed _ _ _ HM.out (by decide) (by decide) (by decide) (by decide))).1
                   have n5 := (row_all hp1.wk.nbox).1
                   obtain ⟨p0, p1, p2, p3, p4⟩ := Q1.out
                   simp [Nod.cells] at p0 p1 p2 p3 p4
                   have g := fun o => World.cell?_of_block (w := wr) (a := ⟨b, o, none⟩) (hwl5.block b hb)
                   simp only [Nod.cells] at m5
                   have e0 := (row_all hp1.wk.wbox).1 0
                   have e1 := n5 0
                   have e2 := m5 2
                   have e3 := m5 3
                   have e4 := (g _).trans p0
                   have e5 := (g _).trans p1
                   have e6 := (g _).trans p2
                   have e7 := (g _).trans p3
                   have e8 := (g _).trans p4
                   simp at e0 e1 e2 e3
                   replace hO := And.intro e0 (And.intro e1 (And.intro e2 (And.intro e3 (And.intro e4 (And.intro e5 (And.intro e6 (And.intro e7 e8)))))))
                   clear p0 p1 p2 p3 p4 g m5 n5))
            have hlq := hp1.says.len
            obtain ⟨p0, p1, p2, p3, p4⟩ := Q2.out
            simp [Nod.cells] at p0 p1 p2 p3 p4
            have gB := fun o => World.cell?_of_block (w := wr) (a := ⟨b, o, none⟩) (hwl5.block b hb)
            have m6 := (row_all (hwl5.typed _ _ _ HM.out (by decide) (by decide) (by decide) (by decide))).1
            simp only [Nod.cells] at m6
            have hO2 : w5.cell? ⟨wb, 0, none⟩ = some (.func (.func 75) #[] #[.pointer (some ⟨nb, 0, none⟩), .pointer (some ⟨pb, 0, none⟩), .pointer (some ⟨ab, 0, none⟩), .pointer (some ⟨wb, 0, none⟩)]) ∧ w5.cell? ⟨nb, 0, none⟩ = some (.slice (some ⟨b, o, none⟩) nodes.length ncap) ∧ w5.cell? ⟨w.heap.size, 2, none⟩ = some (.int .i64 bo) ∧ w5.cell? ⟨w.heap.size, 4, none⟩ = some (.int .i64 m) ∧ w5.cell? ⟨b, o + m.toNat * 5, none⟩ = some (.bool y.leaf) ∧ w5.cell? ⟨b, o + m.toNat * 5 + 1, none⟩ = some (.int .i64 y.ans) ∧ w5.cell? ⟨b, o + m.toNat * 5 + 2, none⟩ = some (.int .i64 y.bound) ∧ w5.cell? ⟨b, o + m.toNat * 5 + 3, none⟩ = some (.int .i64 y.less) ∧ w5.cell? ⟨b, o + m.toNat * 5 + 4, none⟩ = some (.int .i64 y.more) := ⟨hO.1, hO.2.1, hO.2.2.1, m6 4, (gB _).trans p0, (gB _).trans p1, (gB _).trans p2, (gB _).trans p3, (gB _).trans p4⟩
            clear p0 p1 p2 p3 p4 m6 gB hO
            go_upto_region 8 with fail
            go_region_held3 (fun w' => w'.cell? ⟨wb, 0, none⟩ = some (.func (.func 75) #[] #[.pointer (some ⟨nb, 0, none⟩), .pointer (some ⟨pb, 0, none⟩), .pointer (some ⟨ab, 0, none⟩), .pointer (some ⟨wb, 0, none⟩)]) ∧ w'.cell? ⟨nb, 0, none⟩ = some (.slice (some ⟨b, o, none⟩) nodes.length ncap) ∧ w'.cell? ⟨w.heap.size, 2, none⟩ = some (.int .i64 bo) ∧ w'.cell? ⟨w.heap.size, 4, none⟩ = some (.int .i64 m) ∧ w'.cell? ⟨b, o + m.toNat * 5, none⟩ = some (.bool y.leaf) ∧ w'.cell? ⟨b, o + m.toNat * 5 + 1, none⟩ = some (.int .i64 y.ans) ∧ w'.cell? ⟨b, o + m.toNat * 5 + 2, none⟩ = some (.int .i64 y.bound) ∧ w'.cell? ⟨b, o + m.toNat * 5 + 3, none⟩ = some (.int .i64 y.less) ∧ w'.cell? ⟨b, o + m.toNat * 5 + 4, none⟩ = some (.int .i64 y.more)) (first | with_reducible exact hO2 | (simpa [go_sem] using hO2))
              (first
                | (go_at_call 75; refine (A2.out s1 v1 qs1 _ (hT.keep _ _ _ hp1.i (Pw.ofGr (by repeat (with_reducible first | exact Gr.refl _ | refine Gr.drew ?_)))) (hN5.gr (by repeat (with_reducible first | exact Gr.refl _ | refine Gr.drew ?_)) (by have := hwl5.size; omega)) (hp1.wk.gr (by repeat (with_reducible first | exact Gr.refl _ | refine Gr.drew ?_))) hlq).mono ?_; rintro e w6 ⟨rfl, s2, v2, qs2, hp2⟩
                   have hwl6 : Wl low w5 w6 := ⟨hp2.wl.os, hp2.wl.out, hp2.wl.size, hp2.wl.block, hp2.wl.typed⟩
                   have m5 := (row_all (hwl6.typed _ _ _ (hwl5.typed _ _ _ HM.out (by decide) (by decide) (by decide) (by decide)) (by decide) (by decide) (by decide) (by decide))).1
                   have n5 := (row_all hp2.wk.nbox).1
                   obtain ⟨p0, p1, p2, p3, p4⟩ := Q2.out
                   simp [Nod.cells] at p0 p1 p2 p3 p4
                   have g := fun o => World.cell?_of_block (w := wr) (a := ⟨b, o, none⟩) ((hwl6.block b hb).trans (hwl5.block b hb))
                   simp only [Nod.cells] at m5
                   have e0 := (row_all hp2.wk.wbox).1 0
                   have e1 := n5 0
                   have e2 := m5 2
                   have e3 := m5 4
                   have e4 := (g _).trans p0
                   have e5 := (g _).trans p1
                   have e6 := (g _).trans p2
                   have e7 := (g _).trans p3
                   have e8 := (g _).trans p4
                   simp at e0 e1 e2 e3
                   replace hO2 := And.intro e0 (And.intro e1 (And.intro e2 (And.intro e3 (And.intro e4 (And.intro e5 (And.intro e6 (And.intro e7 e8)))))))
                   clear p0 p1 p2 p3 p4 g m5 n5))
            have hwlA : Wl low w wr := Wl.ofGr hgr hwz
            go_wp2
            refine bodyPost_end (v := .tuple #[]) (by simp [results, Tryd.results75, go_sem]) rfl ⟨rfl, s2, v2, qs1 ++ qs2, ?_⟩
            rw [← HW.out, HB.out]
            exact ⟨hp2.i, hT.trans _ _ _ hp1.st hp2.st, by have := hp2.wk; rwa [List.append_assoc] at this, (hp1.says.mono fun n i h => hT.mono _ _ _ _ hp2.st h).app hp2.says, hwlA.trans (hwl5.trans hwl6)⟩
end Go.Proofs.YtcpmbjlhblkniaaDoor
namespace Go.Proofs.YtcpmbjlhblkniaaDoor
open Go.ChangeShapes Go.WideShapes Go.ChangeAt Go.RowKit
set_option linter.unusedVariables false
set_option maxRecDepth 100000
structure TellsB {σ : Type}  (many low : Nat) (I : σ → World → Prop) (St : σ → σ → Prop) (Say : σ → Int → Nat → Prop) : Prop where
  call : ∀ s (n : Int) W, I s W → 0 ≤ n → n < many → Calls Tryd.prog 59 #[.int .i64 n] W fun e W' => ∃ (s' : σ) (i : Nat), e = .returned (.int .i64 i) ∧ I s' W' ∧ St s s' ∧ Say s' n i ∧ Wc low W W'
  keep : ∀ s W W', I s W → Pw low W W' → I s W'
  low : ∀ s W, I s W → low ≤ W.heap.size
  refl : ∀ s, St s s
  trans : ∀ a b c, St a b → St b c → St a c
  mono : ∀ a b n i, St a b → Say a n i → Say b n i
  small : ∀ s n i W, I s W → Say s n i → i ≤ 100000
/-- The memory of the walk. -/
structure WkRB  (low base nb pb ab wb : Nat) (nv : Value) (w : World) (v : Value) (qs : List (Int × Int)) : Prop where
  nbox : w.heap[nb]? = some (.cells #[nv] 40)
  pbox : w.heap[pb]? = some (.cells #[v] 123)
  abox : w.heap[ab]? = some (.cells #[.func (.func 59) #[] #[]] 125)
  wbox : w.heap[wb]? = some (.cells #[.func (.func 75) #[] #[.pointer (some ⟨nb, 0, none⟩), .pointer (some ⟨pb, 0, none⟩), .pointer (some ⟨ab, 0, none⟩), .pointer (some ⟨wb, 0, none⟩)]] 145)
  row : w.ownsRow base 147 2 v qs.length (partL qs)
  low1 : low ≤ pb
  low2 : low ≤ base
  pb1 : pb < base
  size : base ≤ w.heap.size
theorem WkRB.wc {low base nb pb ab wb : Nat} {nv : Value} {w w' : World} {v : Value} {qs : List (Int × Int)} (h : WkRB  low base nb pb ab wb nv w v qs) (k : Wc low w w') : WkRB  low base nb pb ab wb nv w' v qs :=
  ⟨k.typed _ _ _ h.nbox (by decide) (by decide), k.typed _ _ _ h.pbox (by decide) (by decide), k.typed _ _ _ h.abox (by decide) (by decide), k.typed _ _ _ h.wbox (by decide) (by decide), by
    refine owns_same h.row fun g hg => ?_
    rcases h.row.2 with ⟨e, _⟩ | ⟨g', cap, cur, e, hb, hh, r⟩
    · rw [e] at hg; simp [Value.ownBlock] at hg
    · rw [e] at hg; simp [Value.ownBlock] at hg; subst hg
      rw [hh]; exact k.typed _ _ _ hh (by decide) (by decide), h.low1, h.low2, h.pb1, Nat.le_trans h.size k.size⟩
theorem WkRB.gr {low base nb pb ab wb : Nat} {nv : Value} {w w' : World} {v : Value} {qs : List (Int × Int)} (h : WkRB  low base nb pb ab wb nv w v qs) (k : Gr w w') : WkRB  low base nb pb ab wb nv w' v qs :=
  h.wc (Wc.ofGr k (Nat.le_trans h.low2 h.size))
theorem Tryd.infoPartB : ∃ i, Tryd.prog.info? 147 = some i ∧ i.zero = some (.agg #[.int .i64 0, .int .i64 0]) ∧ i.size = 2 ∧ i.bytes = 16 :=
  ⟨_, rfl, by kernel_rfl, by kernel_rfl, by kernel_rfl⟩
theorem run_tellB (vs : Array Value) (w : World) : (callFunc 59 vs).run Tryd.prog w = .ok (.enter 59 vs) w := by
  have h1 : (Tryd.f59.name == "runtime.NumGoroutine") = false := by kernel_rfl
  have h2 : Tryd.f59.body.isNone = false := by kernel_rfl
  have h1' : ¬ Tryd.f59.name = "runtime.NumGoroutine" := by simpa using h1
  have h2' : ¬ Tryd.f59.body = none := by intro h; rw [h] at h2; cases h2
  simp [callFunc, go_sem, Tryd.func59, h1', h2']
theorem WkRB.step {low base nb pb ab wb g cap vcap : Nat} {nv : Value} {w5 W4 w6 : World} {va : Option Addr} {qs : List (Int × Int)} {f i : Int} (h : WkRB  low base nb pb ab wb nv w5 (.slice va qs.length vcap) qs) (g1 : Gr w5 W4) (hgrow : W4.grownBy w6 (Value.slice va qs.length vcap).ownBlock)
    (hown : w6.ownsRow base 147 2 (.slice (some ⟨g, 0, none⟩) (qs.length + 1) cap) (qs.length + 1) (partL qs ++ [.int .i64 f, .int .i64 i])) :
    WkRB  low base nb pb ab wb nv (w6.setCell ⟨pb, 0, none⟩ (.slice (some ⟨g, 0, none⟩) (qs.length + 1) cap)) (.slice (some ⟨g, 0, none⟩) (qs.length + 1) cap) (qs ++ [(f, i)]) ∧ Pw low w5 (w6.setCell ⟨pb, 0, none⟩ (.slice (some ⟨g, 0, none⟩) (qs.length + 1) cap)) := by
  have s1 := g1.size
  have s2 := hgrow.size
  have hz := h.size
  have hlow1 := h.low1
  have hlow2 := h.low2
  have hpb := h.pb1
  have ho : ∀ x, x ≠ pb → (w6.setCell ⟨pb, 0, none⟩ (.slice (some ⟨g, 0, none⟩) (qs.length + 1) cap)).heap[x]? = w6.heap[x]? := fun x hne => heap_setCell_other w6 ⟨pb, 0, none⟩ x _ hne
  have hrow : ∀ x, (Value.slice va qs.length vcap).ownBlock = some x → base ≤ x ∧ ∃ cur, w5.heap[x]? = some (.cells cur 147) := fun x hx => by
    rcases h.row.2 with ⟨e, _⟩ | ⟨g', c', cur, e, hb, hh, r⟩
    · rw [e] at hx; simp [Value.ownBlock] at hx
    · rw [e] at hx; simp [Value.ownBlock] at hx; subst hx; exact ⟨hb, cur, hh⟩
  have hb : ∀ x, x < w5.heap.size → (Value.slice va qs.length vcap).ownBlock ≠ some x → w6.heap[x]? = w5.heap[x]? := fun x hx hne => (hgrow.block x (by omega) (fun e => hne e.symm)).trans (g1.block x hx)
  have hP : Pw low w5 (w6.setCell ⟨pb, 0, none⟩ (.slice (some ⟨g, 0, none⟩) (qs.length + 1) cap)) := by
    refine ⟨hgrow.os.trans g1.os, hgrow.output.trans g1.out, by simp [World.setCell]; omega, fun x hx hc => ?_⟩
    have n1 : x ≠ pb := fun e => by
      rcases hc with hc | hc
      · omega
      · exact hc.2 _ (e ▸ h.pbox)
    have n2 : (Value.slice va qs.length vcap).ownBlock ≠ some x := fun e => by
      obtain ⟨hb, cur, hh⟩ := hrow x e
      rcases hc with hc | hc
      · omega
      · exact hc.1 _ hh
    rw [ho x n1]; exact hb x hx n2
  have hW := hP.wl (by omega)
  refine ⟨⟨hW.typed _ _ _ h.nbox (by decide) (by decide) (by decide) (by decide), ?_, hW.typed _ _ _ h.abox (by decide) (by decide) (by decide) (by decide), hW.typed _ _ _ h.wbox (by decide) (by decide) (by decide) (by decide), ?_, h.low1, h.low2, h.pb1, by simp [World.setCell]; omega⟩, hP⟩
  · have hn : (Value.slice va qs.length vcap).ownBlock ≠ some pb := fun e => by have := (hrow _ e).1; omega
    have := heap_setCell_same w6 pb 0 _ _ (.slice (some ⟨g, 0, none⟩) (qs.length + 1) cap) ((hb pb (Array.getElem?_eq_some_iff.1 h.pbox).1 hn).trans h.pbox)
    simpa using this
  · rw [partL_snoc, List.length_append]
    refine owns_same hown fun x hx => ho x ?_
    have := (owns_lt hown hx).1
    omega
/-- What parting by a node leaves. -/
structure WkPostB {σ : Type}  (low base nb pb ab wb : Nat) (nv : Value) (I : σ → World → Prop) (St : σ → σ → Prop) (Say : σ → Int → Nat → Prop) (w w' : World) (s s' : σ) (v' : Value) (qs qs' ps : List (Int × Int)) : Prop where
  i : I s' w'
  st : St s s'
  wk : WkRB  low base nb pb ab wb nv w' v' (qs ++ qs')
  says : Says (Say s') ps qs'
  wl : Wl low w w'
set_option maxHeartbeats 12800000 in
theorem walkB_any {σ : Type}  (many low : Nat) (I : σ → World → Prop) (St : σ → σ → Prop) (Say : σ → Int → Nat → Prop) (hT : TellsB  many low I St Say) (base nb pb ab wb : Nat) (na : Option Addr) (ncap : Nat) (nodes : List Tre.Nod) (hnl : nodes.length ≤ 100000) (hncap : nodes.length ≤ ncap) (hD : Down nodes) (hok : ∀ n ∈ nodes, NodOk n) (hans : ∀ nd ∈ nodes, nd.leaf = true → 0 ≤ nd.ans ∧ nd.ans < many) :
    ∀ (n i : Nat) (nd : Tre.Nod) (f l : Int) (s : σ) (v : Value) (qs : List (Int × Int)) (w : World), i < n → nodes[i]? = some nd → f ≤ l → (Lit.int .i64 f).wf = true → (Lit.int .i64 l).wf = true → I s w → NodesLow low w na nodes → WkRB  low base nb pb ab wb (.slice na nodes.length ncap) w v qs → qs.length + (wkD nodes (i + 1) nd f l).length ≤ 50000 →
      Calls Tryd.prog 75 #[.agg (Nod.cells nd).toArray, .int .i64 f, .int .i64 l, .pointer (some ⟨nb, 0, none⟩), .pointer (some ⟨pb, 0, none⟩), .pointer (some ⟨ab, 0, none⟩), .pointer (some ⟨wb, 0, none⟩)] w fun e w' =>
        e = .returned (.tuple #[]) ∧ ∃ (s' : σ) (v' : Value) (qs' : List (Int × Int)), WkPostB  low base nb pb ab wb (.slice na nodes.length ncap) I St Say w w' s s' v' qs qs' (wkD nodes (i + 1) nd f l) := by
  intro n
  induction n with
  | zero => intro i nd f l s v qs w hi; omega
  | succ n ih =>
    intro i nd f l s v qs w hi hnd hfl wf wl hI hN hK hlen
    have IH : Hid _ := ih
    clear ih
    obtain ⟨P, hP⟩ : ∃ P, wkD nodes (i + 1) nd f l = P := ⟨_, rfl⟩
    rw [hP] at hlen ⊢
    have HP : Hid _ := hP
    clear hP
    have bf := bounds_i64 wf
    have bl := bounds_i64 wl
    obtain ⟨va, vcap, rfl⟩ : ∃ a cap, v = .slice a qs.length cap := by
      rcases hK.row.2 with ⟨e, e'⟩ | ⟨g, cap, cur, e, _⟩
      · exact ⟨none, 0, by rw [e, e']⟩
      · exact ⟨_, _, e⟩
    have hwz := Nat.le_trans hK.low2 hK.size
    have HND : Hid _ := hnd
    clear hnd
    obtain ⟨leaf0, a0, bo0, l0, m0⟩ := nd
    simp only [Nod.cells]
    go_enter Tryd.func75, Tryd.ntmps75
    go_wp2_with fail
    have hm0 := heapA w (Obj.cells (Nod.cells ⟨leaf0, a0, bo0, l0, m0⟩).toArray 65)
    have zm : w.heap.size < (w.alloc (Obj.cells (Nod.cells ⟨leaf0, a0, bo0, l0, m0⟩).toArray 65)).heap.size := by simp
    have gm : Gr w (w.alloc (Obj.cells (Nod.cells ⟨leaf0, a0, bo0, l0, m0⟩).toArray 65)) := (Gr.refl _).alloc _
    go_loopw [28] (fun u wr => ∃ (k : Nat) (nd : Tre.Nod), k ≤ i ∧ nodes[k]? = some nd ∧ Gr w wr ∧ w.heap.size < wr.heap.size ∧ wr.heap[w.heap.size]? = some (.cells (Nod.cells nd).toArray 65) ∧ wkD nodes (k + 1) nd f l = P) (fun _ wr => muC (wr.cell? ⟨w.heap.size, 0, none⟩) (wr.cell? ⟨w.heap.size, 3, none⟩) (wr.cell? ⟨w.heap.size, 4, none⟩))
    case atStart => exact ⟨i, _, Nat.le_refl _, HND.out, gm, zm, hm0, HP.out⟩
    case round =>
      obtain ⟨k, nd, hki, hk, hgr, zr, hm, hw⟩ := hrel
      have HK : Hid _ := hk
      have HM : Hid _ := hm
      have HW : Hid _ := hw
      obtain ⟨dm, fm⟩ := row_all hm
      have hKr := hK.gr hgr
      have hNr := hN.gr hgr hwz
      clear hm0 zm gm hm hw
      obtain ⟨leaf, a, bo, ls, m⟩ := nd
      have hmem := hok _ (List.mem_of_getElem? hk)
      have bb := bounds_i64 hmem.bound
      simp only [Nod.cells] at dm bb
      clear hmem
      cases leaf with
      | true =>
        have ha := hans _ (List.mem_of_getElem? hk) rfl
        simp only at ha
        obtain ⟨ha0, ha1⟩ := ha
        have HL : Hid _ := HW.out.symm.trans wk_leaf
        have hlq : qs.length + 1 ≤ 50000 := by rw [HL.out] at hlen; simpa using hlen
        have c0 := (row_all hKr.pbox).1
        have c1 := (row_all hKr.abox).1
        have HCALL : Hid _ := fun W (hg : Gr wr W) => hT.call s a W (hT.keep _ _ _ hI (Pw.ofGr (hgr.trans hg))) ha0 ha1
        rw [show (#[.int .i64 a] : Array Value) = #[.int .i64 a] ++ #[] by simp] at HCALL
        have hwlr := Nat.le_trans hKr.low2 hKr.size
        obtain ⟨i0, hi0, hi1, hi2, hi3⟩ := Tryd.infoPartB
        clear hk
        go_upto_region 6 with fail
        go_region_law (first
          | (refine step_callV (vs := #[.int .i64 a]) (bound := #[]) run_tellB (by simp [Act.eval]) (by simp [Act.eval]) (HCALL.out _ (by repeat (with_reducible first | exact Gr.refl _ | refine Gr.drew ?_ | refine Gr.drewN ?_ _))) ?_; intro en w5 hpost5; obtain ⟨s5, ix, rfl, hI5, hS5, hY5, hC5⟩ := hpost5; refine ⟨_, rfl, ?_⟩; have hCc : Wc low wr w5 := ⟨hC5.os, hC5.out, hC5.size, hC5.block, hC5.typed⟩; have hK5 := hKr.wc hCc; have c5 := (row_all hK5.pbox).1; have f5 := (row_all hK5.pbox).2; have nz6 : pb < w5.heap.size := (Array.getElem?_eq_some_iff.1 hK5.pbox).1; have nz5 : ¬ pb = w5.heap.size := (by omega); have HK5 : Hid _ := hK5; have hsm := hT.small _ _ _ _ hI5 hY5; clear hC5 hK5)
          | (refine step_append_lies _ (by rfl) _ _ _ (by rfl) base 147 i0 _ 2 16 Tryd.underlying123 hi0 hi1 hi2 hi3 rfl (by decide) (.slice va qs.length vcap) qs.length (partL qs) (by rfl) (owns_gr HK5.out.row (by repeat (with_reducible first | exact Gr.refl _ | refine Gr.drew ?_ | refine Gr.drewN ?_ _ | refine Gr.alloc ?_ _))) ⟨w5.heap.size, 0, none⟩ 1 1 [.int .i64 f, .int .i64 ix] (by rfl) (by rfl) (World.news_of_block (cs := #[.int .i64 f, .int .i64 ix]) (t := 147) (fr := (0, 0)) (heapA w5 _)) (by simp [Value.oneCell']) (by omega) (by unfold maxLen; omega) (by omega) (by have := HK5.out.size; simp; omega) (w5.heap.size + 1) (by simp) ?_; intro g6 cap6 w6 hown6 hgrow6 hat6 hlt6; have hST := HK5.out.step ((Gr.refl _).alloc _) hgrow6 hown6; have HST : Hid _ := hST; have hrw : ∀ x, (Value.slice va qs.length vcap).ownBlock = some x → base ≤ x := (fun x hx => (owns_lt HK5.out.row hx).1); have kp6 := (hgrow6.block pb (by have := (Array.getElem?_eq_some_iff.1 HK5.out.pbox).1; simp; omega) (fun e => by have := hrw _ e.symm; have := HK5.out.pb1; omega)).trans ((Below.heap_alloc _ _ _ (Array.getElem?_eq_some_iff.1 HK5.out.pbox).1).trans HK5.out.pbox); have c6 := (row_all kp6).1; have f6 := (row_all kp6).2; clear kp6 hrw hST hown6 hgrow6 hat6 hlt6))
        all_goals
          have hwlA : Wl low w wr := Wl.ofGr hgr hwz
          clear c0 c1 c5 c6 f5 f6 dm fm
          go_wp2
          refine bodyPost_ret (v := .tuple #[]) (by simp [results, Tryd.results75, go_sem]) rfl ⟨rfl, s5, .slice (some ⟨g6, 0, none⟩) (qs.length + 1) cap6, [(f, (ix : Int))], ?_⟩
          exact ⟨hT.keep _ _ _ hI5 HST.out.2, hS5, HST.out.1, by rw [HL.out]; exact Says.one hY5, hwlA.trans (hCc.wl.trans (HST.out.2.wl (Nat.le_trans hwlr hCc.size)))⟩
      | false =>
        have hd := hD.less k _ hk rfl
        simp only at hd
        obtain ⟨r1, r2, r3, r4⟩ := hd
        have hkl := (List.getElem?_eq_some_iff.1 hk).1
        obtain ⟨nn, fn⟩ := row_all hKr.nbox
        by_cases h1 : l < bo
        · have h2 : ¬ bo ≤ f := by omega
          obtain ⟨x, hx⟩ : ∃ x, nodes[ls.toNat]? = some x := ⟨_, List.getElem?_eq_getElem (by omega)⟩
          obtain ⟨b, o, rfl, hb, hc⟩ := hNr.cell _ x hx
          obtain ⟨q0, q1, q2, q3, q4⟩ := hc
          simp [Nod.cells] at q0 q1 q2 q3 q4
          have hst := wk_step hD hki HK.out hx (Or.inl (by omega)) HM.out hgr zr (wk_less hD HK.out h1 hx) HW.out
          have HST : Hid _ := hst
          have hb2 : b ≠ w.heap.size := by omega
          clear hx hk hst
          go_wp2_with fail
          exact ⟨HST.out.1, HST.out.2 _ rfl⟩
        · by_cases h2 : bo ≤ f
          · obtain ⟨x, hx⟩ : ∃ x, nodes[m.toNat]? = some x := ⟨_, List.getElem?_eq_getElem (by omega)⟩
            obtain ⟨b, o, rfl, hb, hc⟩ := hNr.cell _ x hx
            obtain ⟨q0, q1, q2, q3, q4⟩ := hc
            simp [Nod.cells] at q0 q1 q2 q3 q4
            have hst := wk_step hD hki HK.out hx (Or.inr (by omega)) HM.out hgr zr (wk_more hD HK.out h1 h2 hx) HW.out
            have HST : Hid _ := hst
            have hb2 : b ≠ w.heap.size := by omega
            clear hx hk hst
            go_wp2_with fail
            exact ⟨HST.out.1, HST.out.2 _ rfl⟩
          · obtain ⟨x, hx⟩ : ∃ x, nodes[ls.toNat]? = some x := ⟨_, List.getElem?_eq_getElem (by omega)⟩
            obtain ⟨y, hy⟩ : ∃ y, nodes[m.toNat]? = some y := ⟨_, List.getElem?_eq_getElem (by omega)⟩
            have HB : Hid _ := wk_both hD HK.out h1 h2 hx hy
            obtain ⟨b, o, rfl, hb, hc⟩ := hNr.cell _ x hx
            obtain ⟨b', o', e, hb', hc'⟩ := hNr.cell _ y hy
            cases e
            have HX : Hid _ := hx
            have HY : Hid _ := hy
            have Q1 : Hid _ := hc
            have Q2 : Hid _ := hc'
            clear hx hy hk hc hc'
            have hlen2 := hlen
            rw [← HW.out, HB.out, List.length_append] at hlen2
            have A1 : Hid _ := fun W (hg : Gr wr W) => IH.out ls.toNat x f (bo - 1) s _ qs W (by omega) HX.out (by omega) wf (by go_wf2) (hT.keep _ _ _ hI (Pw.ofGr (hgr.trans hg))) (hNr.gr hg (Nat.le_trans hKr.low2 hKr.size)) (hKr.gr hg) (by omega)
            have A2 : Hid _ := fun (s1 : σ) (v1 : Value) (qs1 : List (Int × Int)) W (hI1 : I s1 W) (hN1 : NodesLow low W (some ⟨b, o, none⟩) nodes) (hK1 : WkRB  low base nb pb ab wb (.slice (some ⟨b, o, none⟩) nodes.length ncap) W v1 (qs ++ qs1)) (hl1 : qs1.length = (wkD nodes (ls.toNat + 1) x f (bo - 1)).length) => IH.out m.toNat y bo l s1 v1 (qs ++ qs1) W (by omega) HY.out (by omega) (hok _ (List.mem_of_getElem? HK.out)).bound wl hI1 hN1 hK1 (by rw [List.length_append]; omega)
            simp only [Nod.cells] at A1 A2
            obtain ⟨p0, p1, p2, p3, p4⟩ := Q1.out
            simp [Nod.cells] at p0 p1 p2 p3 p4
            have hwl := Nat.le_trans hKr.low2 hKr.size
            have i1 : ls < (nodes.length : Int) := by omega
            have i2 : m < (nodes.length : Int) := by omega
            have hwr : IntKind.i64.wrap (bo - 1) = bo - 1 := IntWalk.i64_in _ ⟨by omega, by omega⟩
            have hbl : b < wr.heap.size := by omega
            have hO : wr.cell? ⟨wb, 0, none⟩ = some (.func (.func 75) #[] #[.pointer (some ⟨nb, 0, none⟩), .pointer (some ⟨pb, 0, none⟩), .pointer (some ⟨ab, 0, none⟩), .pointer (some ⟨wb, 0, none⟩)]) ∧ wr.cell? ⟨nb, 0, none⟩ = some (.slice (some ⟨b, o, none⟩) nodes.length ncap) ∧ wr.cell? ⟨w.heap.size, 2, none⟩ = some (.int .i64 bo) ∧ wr.cell? ⟨w.heap.size, 3, none⟩ = some (.int .i64 ls) ∧ wr.cell? ⟨b, o + ls.toNat * 5, none⟩ = some (.bool x.leaf) ∧ wr.cell? ⟨b, o + ls.toNat * 5 + 1, none⟩ = some (.int .i64 x.ans) ∧ wr.cell? ⟨b, o + ls.toNat * 5 + 2, none⟩ = some (.int .i64 x.bound) ∧ wr.cell? ⟨b, o + ls.toNat * 5 + 3, none⟩ = some (.int .i64 x.less) ∧ wr.cell? ⟨b, o + ls.toNat * 5 + 4, none⟩ = some (.int .i64 x.more) := ⟨(row_all hKr.wbox).1 0, nn 0, dm 2, dm 3, p0, p1, p2, p3, p4⟩
            clear p0 p1 p2 p3 p4 hlen2
            go_upto_region 7 with fail
            clear dm nn fn fm
            go_region_held3 (fun w' => w'.cell? ⟨wb, 0, none⟩ = some (.func (.func 75) #[] #[.pointer (some ⟨nb, 0, none⟩), .pointer (some ⟨pb, 0, none⟩), .pointer (some ⟨ab, 0, none⟩), .pointer (some ⟨wb, 0, none⟩)]) ∧ w'.cell? ⟨nb, 0, none⟩ = some (.slice (some ⟨b, o, none⟩) nodes.length ncap) ∧ w'.cell? ⟨w.heap.size, 2, none⟩ = some (.int .i64 bo) ∧ w'.cell? ⟨w.heap.size, 3, none⟩ = some (.int .i64 ls) ∧ w'.cell? ⟨b, o + ls.toNat * 5, none⟩ = some (.bool x.leaf) ∧ w'.cell? ⟨b, o + ls.toNat * 5 + 1, none⟩ = some (.int .i64 x.ans) ∧ w'.cell? ⟨b, o + ls.toNat * 5 + 2, none⟩ = some (.int .i64 x.bound) ∧ w'.cell? ⟨b, o + ls.toNat * 5 + 3, none⟩ = some (.int .i64 x.less) ∧ w'.cell? ⟨b, o + ls.toNat * 5 + 4, none⟩ = some (.int .i64 x.more)) (first | with_reducible exact hO | (simpa [go_sem] using hO))
              (first
                | (go_at_call 75; refine (A1.out _ (by repeat (with_reducible first | exact Gr.refl _ | refine Gr.drew ?_))).mono ?_; rintro e w5 ⟨rfl, s1, v1, qs1, hp1⟩
                   have hwl5 : Wl low wr w5 := ⟨hp1.wl.os, hp1.wl.out, hp1.wl.size, hp1.wl.block, hp1.wl.typed⟩
                   have hN5 := hNr.wl hwl5
                   have m5 := (row_all (hwl5.typed _ _ _ HM.out (by decide) (by decide) (by decide) (by decide))).1
                   have n5 := (row_all hp1.wk.nbox).1
                   obtain ⟨p0, p1, p2, p3, p4⟩ := Q1.out
                   simp [Nod.cells] at p0 p1 p2 p3 p4
                   have g := fun o => World.cell?_of_block (w := wr) (a := ⟨b, o, none⟩) (hwl5.block b hb)
                   simp only [Nod.cells] at m5
                   have e0 := (row_all hp1.wk.wbox).1 0
                   have e1 := n5 0
                   have e2 := m5 2
                   have e3 := m5 3
                   have e4 := (g _).trans p0
                   have e5 := (g _).trans p1
                   have e6 := (g _).trans p2
                   have e7 := (g _).trans p3
                   have e8 := (g _).trans p4
                   simp at e0 e1 e2 e3
                   replace hO := And.intro e0 (And.intro e1 (And.intro e2 (And.intro e3 (And.intro e4 (And.intro e5 (And.intro e6 (And.intro e7 e8)))))))
                   clear p0 p1 p2 p3 p4 g m5 n5))
            have hlq := hp1.says.len
            obtain ⟨p0, p1, p2, p3, p4⟩ := Q2.out
            simp [Nod.cells] at p0 p1 p2 p3 p4
            have gB := fun o => World.cell?_of_block (w := wr) (a := ⟨b, o, none⟩) (hwl5.block b hb)
            have m6 := (row_all (hwl5.typed _ _ _ HM.out (by decide) (by decide) (by decide) (by decide))).1
            simp only [Nod.cells] at m6
            have hO2 : w5.cell? ⟨wb, 0, none⟩ = some (.func (.func 75) #[] #[.pointer (some ⟨nb, 0, none⟩), .pointer (some ⟨pb, 0, none⟩), .pointer (some ⟨ab, 0, none⟩), .pointer (some ⟨wb, 0, none⟩)]) ∧ w5.cell? ⟨nb, 0, none⟩ = some (.slice (some ⟨b, o, none⟩) nodes.length ncap) ∧ w5.cell? ⟨w.heap.size, 2, none⟩ = some (.int .i64 bo) ∧ w5.cell? ⟨w.heap.size, 4, none⟩ = some (.int .i64 m) ∧ w5.cell? ⟨b, o + m.toNat * 5, none⟩ = some (.bool y.leaf) ∧ w5.cell? ⟨b, o + m.toNat * 5 + 1, none⟩ = some (.int .i64 y.ans) ∧ w5.cell? ⟨b, o + m.toNat * 5 + 2, none⟩ = some (.int .i64 y.bound) ∧ w5.cell? ⟨b, o + m.toNat * 5 + 3, none⟩ = some (.int .i64 y.less) ∧ w5.cell? ⟨b, o + m.toNat * 5 + 4, none⟩ = some (.int .i64 y.more) := ⟨hO.1, hO.2.1, hO.2.2.1, m6 4, (gB _).trans p0, (gB _).trans p1, (gB _).trans p2, (gB _).trans p3, (gB _).trans p4⟩
            clear p0 p1 p2 p3 p4 m6 gB hO
            go_upto_region 8 with fail
            go_region_held3 (fun w' => w'.cell? ⟨wb, 0, none⟩ = some (.func (.func 75) #[] #[.pointer (some ⟨nb, 0, none⟩), .pointer (some ⟨pb, 0, none⟩), .pointer (some ⟨ab, 0, none⟩), .pointer (some ⟨wb, 0, none⟩)]) ∧ w'.cell? ⟨nb, 0, none⟩ = some (.slice (some ⟨b, o, none⟩) nodes.length ncap) ∧ w'.cell? ⟨w.heap.size, 2, none⟩ = some (.int .i64 bo) ∧ w'.cell? ⟨w.heap.size, 4, none⟩ = some (.int .i64 m) ∧ w'.cell? ⟨b, o + m.toNat * 5, none⟩ = some (.bool y.leaf) ∧ w'.cell? ⟨b, o + m.toNat * 5 + 1, none⟩ = some (.int .i64 y.ans) ∧ w'.cell? ⟨b, o + m.toNat * 5 + 2, none⟩ = some (.int .i64 y.bound) ∧ w'.cell? ⟨b, o + m.toNat * 5 + 3, none⟩ = some (.int .i64 y.less) ∧ w'.cell? ⟨b, o + m.toNat * 5 + 4, none⟩ = some (.int .i64 y.more)) (first | with_reducible exact hO2 | (simpa [go_sem] using hO2))
              (first
                | (go_at_call 75; refine (A2.out s1 v1 qs1 _ (hT.keep _ _ _ hp1.i (Pw.ofGr (by repeat (with_reducible first | exact Gr.refl _ | refine Gr.drew ?_)))) (hN5.gr (by repeat (with_reducible first | exact Gr.refl _ | refine Gr.drew ?_)) (by have := hwl5.size; omega)) (hp1.wk.gr (by repeat (with_reducible first | exact Gr.refl _ | refine Gr.drew ?_))) hlq).mono ?_; rintro e w6 ⟨rfl, s2, v2, qs2, hp2⟩
                   have hwl6 : Wl low w5 w6 := ⟨hp2.wl.os, hp2.wl.out, hp2.wl.size, hp2.wl.block, hp2.wl.typed⟩
                   have m5 := (row_all (hwl6.typed _ _ _ (hwl5.typed _ _ _ HM.out (by decide) (by decide) (by decide) (by decide)) (by decide) (by decide) (by decide) (by decide))).1
                   have n5 := (row_all hp2.wk.nbox).1
                   obtain ⟨p0, p1, p2, p3, p4⟩ := Q2.out
                   simp [Nod.cells] at p0 p1 p2 p3 p4
                   have g := fun o => World.cell?_of_block (w := wr) (a := ⟨b, o, none⟩) ((hwl6.block b hb).trans (hwl5.block b hb))
                   simp only [Nod.cells] at m5
                   have e0 := (row_all hp2.wk.wbox).1 0
                   have e1 := n5 0
                   have e2 := m5 2
                   have e3 := m5 4
                   have e4 := (g _).trans p0
                   have e5 := (g _).trans p1
                   have e6 := (g _).trans p2
                   have e7 := (g _).trans p3
                   have e8 := (g _).trans p4
                   simp at e0 e1 e2 e3
                   replace hO2 := And.intro e0 (And.intro e1 (And.intro e2 (And.intro e3 (And.intro e4 (And.intro e5 (And.intro e6 (And.intro e7 e8)))))))
                   clear p0 p1 p2 p3 p4 g m5 n5))
            have hwlA : Wl low w wr := Wl.ofGr hgr hwz
            go_wp2
            refine bodyPost_end (v := .tuple #[]) (by simp [results, Tryd.results75, go_sem]) rfl ⟨rfl, s2, v2, qs1 ++ qs2, ?_⟩
            rw [← HW.out, HB.out]
            exact ⟨hp2.i, hT.trans _ _ _ hp1.st hp2.st, by have := hp2.wk; rwa [List.append_assoc] at this, (hp1.says.mono fun n i h => hT.mono _ _ _ _ hp2.st h).app hp2.says, hwlA.trans (hwl5.trans hwl6)⟩
end Go.Proofs.YtcpmbjlhblkniaaDoor
namespace Go.Proofs.YtcpmbjlhblkniaaDoor
open Go.ChangeShapes Go.WideShapes Go.ChangeAt Go.RowKit
set_option linter.unusedVariables false
set_option maxRecDepth 100000
theorem name_worldP {p : World → Prop} (w : World) (h : ∀ W, W = w → p W) : p w := h w rfl
theorem heap4P (w : World) (o1 o2 o3 o4 : Obj) : ((((w.alloc o1).alloc o2).alloc o3).alloc o4).heap[w.heap.size]? = some o1 ∧ ((((w.alloc o1).alloc o2).alloc o3).alloc o4).heap[w.heap.size + 1]? = some o2 ∧ ((((w.alloc o1).alloc o2).alloc o3).alloc o4).heap[w.heap.size + 1 + 1]? = some o3 ∧ ((((w.alloc o1).alloc o2).alloc o3).alloc o4).heap[w.heap.size + 1 + 1 + 1]? = some o4 := by
  refine ⟨?_, ?_, ?_, ?_⟩
  · rw [Below.heap_alloc _ _ _ (by simp <;> omega), Below.heap_alloc _ _ _ (by simp <;> omega), Below.heap_alloc _ _ _ (by simp)]; exact heapA w o1
  · rw [Below.heap_alloc _ _ _ (by simp <;> omega), Below.heap_alloc _ _ _ (by simp)]; simpa using heapA (w.alloc o1) o2
  · rw [Below.heap_alloc _ _ _ (by simp)]; simpa using heapA ((w.alloc o1).alloc o2) o3
  · simpa using heapA (((w.alloc o1).alloc o2).alloc o3) o4
/-- What parting all numbers leaves. -/
structure PartsPost {σ : Type} (low base : Nat) (I : σ → World → Prop) (St : σ → σ → Prop) (Say : σ → Int → Nat → Prop) (w w' : World) (s s' : σ) (v' : Value) (qs ps : List (Int × Int)) : Prop where
  i : I s' w'
  st : St s s'
  row : w'.ownsRow base 147 2 v' qs.length (partL qs)
  low2 : low ≤ base
  says : Says (Say s') ps qs
  wl : Wl low w w'
set_option maxHeartbeats 3200000 in
theorem partsOfM_any {σ : Type} (cb fb : Nat) (many low : Nat) (I : σ → World → Prop) (St : σ → σ → Prop) (Say : σ → Int → Nat → Prop) (hT : TellsM cb fb many low I St Say) (na : Option Addr) (ncap : Nat) (nodes : List Tre.Nod) (hnl : nodes.length ≤ 30000) (hncap : nodes.length ≤ ncap) (hD : Down nodes) (hok : ∀ n ∈ nodes, NodOk n) (hans : ∀ nd ∈ nodes, nd.leaf = true → 0 ≤ nd.ans ∧ nd.ans < many) (root : Tre.Nod) (hroot : nodes[nodes.length - 1]? = some root) (s : σ) (w : World) (hI : I s w) (hN : NodesLow low w na nodes) :
    Calls Tryd.prog 56 #[.slice na nodes.length ncap, .func (.func 57) #[] #[.pointer (some ⟨cb, 0, none⟩), .pointer (some ⟨fb, 0, none⟩)]] w fun e w' =>
      ∃ (s' : σ) (v' : Value) (qs : List (Int × Int)) (base : Nat), e = .returned v' ∧ PartsPost low base I St Say w w' s s' v' qs (wkD nodes nodes.length root minI maxI) := by
  have hlt := (List.getElem?_eq_some_iff.1 hroot).1
  have hlw := hT.low s w hI
  have hwk := wk_all hD nodes.length (nodes.length - 1) root minI maxI (by omega) hroot (by unfold minI maxI; omega)
  have hlen := hwk.len2
  obtain ⟨P, hP⟩ : ∃ P, wkD nodes nodes.length root minI maxI = P := ⟨_, rfl⟩
  rw [hP] at hlen ⊢
  have HP : Hid _ := hP
  clear hP hwk
  obtain ⟨b, o, rfl, hb, hc⟩ := hN.cell _ root hroot
  obtain ⟨q0, q1, q2, q3, q4⟩ := hc
  simp [Nod.cells] at q0 q1 q2 q3 q4
  have hbw : b < w.heap.size := by omega
  have i1 : (nodes.length : Int) - 1 < (nodes.length : Int) := by omega
  have i2 : (0 : Int) ≤ (nodes.length : Int) - 1 := by omega
  have i4 : (1 : Int) ≤ (nodes.length : Int) := by omega
  have i5 : (0 : Int) < (nodes.length : Int) := by omega
  have i6 : 1 ≤ nodes.length := by omega
  have i7 : (nodes.length : Int) ≤ (ncap : Int) := by omega
  have i3 : ((nodes.length : Int) - 1).toNat = nodes.length - 1 := by omega
  have hwr : IntKind.i64.wrap ((nodes.length : Int) - 1) = (nodes.length : Int) - 1 := IntWalk.i64_in _ ⟨by omega, by omega⟩
  have HR : Hid _ := hroot
  clear hroot
  go_enter Tryd.func56, Tryd.ntmps56
  go_wp2_with fail
  refine name_worldP (p := fun W => Code.wp _ _ _ _ W) _ (fun W hW => ?_)
  obtain ⟨h1, h2, h3, h4⟩ := heap4P w (.cells #[.slice (some ⟨b, o, none⟩) nodes.length ncap] 40) (.cells #[.func (.func 57) #[] #[.pointer (some ⟨cb, 0, none⟩), .pointer (some ⟨fb, 0, none⟩)]] 125) (.cells #[.slice none 0 0] 123) (.cells #[.func (.func 75) #[] #[.pointer (some ⟨w.heap.size, 0, none⟩), .pointer (some ⟨w.heap.size + 1 + 1, 0, none⟩), .pointer (some ⟨w.heap.size + 1, 0, none⟩), .pointer (some ⟨w.heap.size + 1 + 1 + 1, 0, none⟩)]] 145)
  rw [← hW] at h1 h2 h3 h4
  have gW : Gr w W := by rw [hW]; exact ((((Gr.refl _).alloc _).alloc _).alloc _).alloc _
  have zW : W.heap.size = w.heap.size + 4 := by rw [hW]; simp
  clear hW
  have hK : WkRM cb fb low (w.heap.size + 4) w.heap.size (w.heap.size + 1 + 1) (w.heap.size + 1) (w.heap.size + 1 + 1 + 1) (.slice (some ⟨b, o, none⟩) nodes.length ncap) W (.slice none 0 0) [] := ⟨h1, h3, h2, h4, ⟨by simp [partL], Or.inl ⟨rfl, rfl⟩⟩, by omega, by omega, by omega, by omega⟩
  have HC : Hid _ := fun W' (hg : Gr W W') => walkM_any cb fb many low I St Say hT (w.heap.size + 4) w.heap.size (w.heap.size + 1 + 1) (w.heap.size + 1) (w.heap.size + 1 + 1 + 1) (some ⟨b, o, none⟩) ncap nodes (by omega) hncap hD hok hans nodes.length (nodes.length - 1) root minI maxI s (.slice none 0 0) [] W' (by omega) HR.out (by unfold minI maxI; omega) (by decide) (by decide) (hT.keep _ _ _ hI (Pw.ofGr (gW.trans hg))) (hN.gr (gW.trans hg) hlw) (hK.gr hg) (by rw [show nodes.length - 1 + 1 = nodes.length by omega, HP.out]; simp; omega)
  rw [show nodes.length - 1 + 1 = nodes.length by omega, HP.out] at HC
  simp only [Nod.cells, minI, maxI] at HC
  have g := fun o => World.cell?_of_block (w := w) (a := ⟨b, o, none⟩) (gW.block b hbw)
  have hO : W.cell? ⟨w.heap.size + 1 + 1 + 1, 0, none⟩ = some (.func (.func 75) #[] #[.pointer (some ⟨w.heap.size, 0, none⟩), .pointer (some ⟨w.heap.size + 1 + 1, 0, none⟩), .pointer (some ⟨w.heap.size + 1, 0, none⟩), .pointer (some ⟨w.heap.size + 1 + 1 + 1, 0, none⟩)]) ∧ W.cell? ⟨w.heap.size, 0, none⟩ = some (.slice (some ⟨b, o, none⟩) nodes.length ncap) ∧ W.cell? ⟨b, o + (nodes.length - 1) * 5, none⟩ = some (.bool root.leaf) ∧ W.cell? ⟨b, o + (nodes.length - 1) * 5 + 1, none⟩ = some (.int .i64 root.ans) ∧ W.cell? ⟨b, o + (nodes.length - 1) * 5 + 2, none⟩ = some (.int .i64 root.bound) ∧ W.cell? ⟨b, o + (nodes.length - 1) * 5 + 3, none⟩ = some (.int .i64 root.less) ∧ W.cell? ⟨b, o + (nodes.length - 1) * 5 + 4, none⟩ = some (.int .i64 root.more) := ⟨(row_all h4).1 0, (row_all h1).1 0, (g _).trans q0, (g _).trans q1, (g _).trans q2, (g _).trans q3, (g _).trans q4⟩
  clear g q0 q1 q2 q3 q4 h1 h2 h3 h4
  go_region_held3 (fun w' => w'.cell? ⟨w.heap.size + 1 + 1 + 1, 0, none⟩ = some (.func (.func 75) #[] #[.pointer (some ⟨w.heap.size, 0, none⟩), .pointer (some ⟨w.heap.size + 1 + 1, 0, none⟩), .pointer (some ⟨w.heap.size + 1, 0, none⟩), .pointer (some ⟨w.heap.size + 1 + 1 + 1, 0, none⟩)]) ∧ w'.cell? ⟨w.heap.size, 0, none⟩ = some (.slice (some ⟨b, o, none⟩) nodes.length ncap) ∧ w'.cell? ⟨b, o + (nodes.length - 1) * 5, none⟩ = some (.bool root.leaf) ∧ w'.cell? ⟨b, o + (nodes.length - 1) * 5 + 1, none⟩ = some (.int .i64 root.ans) ∧ w'.cell? ⟨b, o + (nodes.length - 1) * 5 + 2, none⟩ = some (.int .i64 root.bound) ∧ w'.cell? ⟨b, o + (nodes.length - 1) * 5 + 3, none⟩ = some (.int .i64 root.less) ∧ w'.cell? ⟨b, o + (nodes.length - 1) * 5 + 4, none⟩ = some (.int .i64 root.more)) (first | with_reducible exact hO | (simpa [go_sem] using hO))
    (first
      | (go_at_call 75; refine (HC.out _ (by repeat (with_reducible first | exact Gr.refl _ | refine Gr.drew ?_))).mono ?_; rintro e w5 ⟨rfl, s1, v1, qs1, hp1⟩
         have hwl5 : Wl low W w5 := ⟨hp1.wl.os, hp1.wl.out, hp1.wl.size, hp1.wl.block, hp1.wl.typed⟩
         have g := fun o => World.cell?_of_block (w := W) (a := ⟨b, o, none⟩) (hwl5.block b hb)
         have e0 := (row_all hp1.wk.wbox).1 0
         have e1 := (row_all hp1.wk.nbox).1 0
         simp at e0 e1
         replace hO := And.intro e0 (And.intro e1 (And.intro ((g _).trans hO.2.2.1) (And.intro ((g _).trans hO.2.2.2.1) (And.intro ((g _).trans hO.2.2.2.2.1) (And.intro ((g _).trans hO.2.2.2.2.2.1) ((g _).trans hO.2.2.2.2.2.2))))))
         clear e0 e1 g))
  have c5 := (row_all hp1.wk.pbox).1
  obtain ⟨va, vcap, rfl⟩ : ∃ a cap, v1 = .slice a qs1.length cap := by
    have hr := hp1.wk.row
    rw [List.nil_append] at hr
    rcases hr.2 with ⟨e, e'⟩ | ⟨g, cap, cur, e, _⟩
    · exact ⟨none, 0, by rw [e, e']⟩
    · exact ⟨_, _, e⟩
  have HP1 : Hid _ := hp1
  go_wp2
  go_ret
  exact ⟨s1, .slice va qs1.length vcap, qs1, w.heap.size + 4, rfl, HP1.out.i, HP1.out.st, by have := HP1.out.wk.row; simpa using this, by omega, HP1.out.says, (Wl.ofGr gW hlw).trans hwl5⟩
end Go.Proofs.YtcpmbjlhblkniaaDoor
namespace Go.Proofs.YtcpmbjlhblkniaaDoor
open Go.ChangeShapes Go.WideShapes Go.ChangeAt Go.RowKit
set_option linter.unusedVariables false
set_option maxRecDepth 100000
set_option maxHeartbeats 3200000 in
theorem partsOfB_any {σ : Type}  (many low : Nat) (I : σ → World → Prop) (St : σ → σ → Prop) (Say : σ → Int → Nat → Prop) (hT : TellsB  many low I St Say) (na : Option Addr) (ncap : Nat) (nodes : List Tre.Nod) (hnl : nodes.length ≤ 30000) (hncap : nodes.length ≤ ncap) (hD : Down nodes) (hok : ∀ n ∈ nodes, NodOk n) (hans : ∀ nd ∈ nodes, nd.leaf = true → 0 ≤ nd.ans ∧ nd.ans < many) (root : Tre.Nod) (hroot : nodes[nodes.length - 1]? = some root) (s : σ) (w : World) (hI : I s w) (hN : NodesLow low w na nodes) :
    Calls Tryd.prog 56 #[.slice na nodes.length ncap, .func (.func 59) #[] #[]] w fun e w' =>
      ∃ (s' : σ) (v' : Value) (qs : List (Int × Int)) (base : Nat), e = .returned v' ∧ PartsPost low base I St Say w w' s s' v' qs (wkD nodes nodes.length root minI maxI) := by
  have hlt := (List.getElem?_eq_some_iff.1 hroot).1
  have hlw := hT.low s w hI
  have hwk := wk_all hD nodes.length (nodes.length - 1) root minI maxI (by omega) hroot (by unfold minI maxI; omega)
  have hlen := hwk.len2
  obtain ⟨P, hP⟩ : ∃ P, wkD nodes nodes.length root minI maxI = P := ⟨_, rfl⟩
  rw [hP] at hlen ⊢
  have HP : Hid _ := hP
  clear hP hwk
  obtain ⟨b, o, rfl, hb, hc⟩ := hN.cell _ root hroot
  obtain ⟨q0, q1, q2, q3, q4⟩ := hc
  simp [Nod.cells] at q0 q1 q2 q3 q4
  have hbw : b < w.heap.size := by omega
  have i1 : (nodes.length : Int) - 1 < (nodes.length : Int) := by omega
  have i2 : (0 : Int) ≤ (nodes.length : Int) - 1 := by omega
  have i4 : (1 : Int) ≤ (nodes.length : Int) := by omega
  have i5 : (0 : Int) < (nodes.length : Int) := by omega
  have i6 : 1 ≤ nodes.length := by omega
  have i7 : (nodes.length : Int) ≤ (ncap : Int) := by omega
  have i3 : ((nodes.length : Int) - 1).toNat = nodes.length - 1 := by omega
  have hwr : IntKind.i64.wrap ((nodes.length : Int) - 1) = (nodes.length : Int) - 1 := IntWalk.i64_in _ ⟨by omega, by omega⟩
  have HR : Hid _ := hroot
  clear hroot
  go_enter Tryd.func56, Tryd.ntmps56
  go_wp2_with fail
  refine name_worldP (p := fun W => Code.wp _ _ _ _ W) _ (fun W hW => ?_)
  obtain ⟨h1, h2, h3, h4⟩ := heap4P w (.cells #[.slice (some ⟨b, o, none⟩) nodes.length ncap] 40) (.cells #[.func (.func 59) #[] #[]] 125) (.cells #[.slice none 0 0] 123) (.cells #[.func (.func 75) #[] #[.pointer (some ⟨w.heap.size, 0, none⟩), .pointer (some ⟨w.heap.size + 1 + 1, 0, none⟩), .pointer (some ⟨w.heap.size + 1, 0, none⟩), .pointer (some ⟨w.heap.size + 1 + 1 + 1, 0, none⟩)]] 145)
  rw [← hW] at h1 h2 h3 h4
  have gW : Gr w W := by rw [hW]; exact ((((Gr.refl _).alloc _).alloc _).alloc _).alloc _
  have zW : W.heap.size = w.heap.size + 4 := by rw [hW]; simp
  clear hW
  have hK : WkRB  low (w.heap.size + 4) w.heap.size (w.heap.size + 1 + 1) (w.heap.size + 1) (w.heap.size + 1 + 1 + 1) (.slice (some ⟨b, o, none⟩) nodes.length ncap) W (.slice none 0 0) [] := ⟨h1, h3, h2, h4, ⟨by simp [partL], Or.inl ⟨rfl, rfl⟩⟩, by omega, by omega, by omega, by omega⟩
  have HC : Hid _ := fun W' (hg : Gr W W') => walkB_any  many low I St Say hT (w.heap.size + 4) w.heap.size (w.heap.size + 1 + 1) (w.heap.size + 1) (w.heap.size + 1 + 1 + 1) (some ⟨b, o, none⟩) ncap nodes (by omega) hncap hD hok hans nodes.length (nodes.length - 1) root minI maxI s (.slice none 0 0) [] W' (by omega) HR.out (by unfold minI maxI; omega) (by decide) (by decide) (hT.keep _ _ _ hI (Pw.ofGr (gW.trans hg))) (hN.gr (gW.trans hg) hlw) (hK.gr hg) (by rw [show nodes.length - 1 + 1 = nodes.length by omega, HP.out]; simp; omega)
  rw [show nodes.length - 1 + 1 = nodes.length by omega, HP.out] at HC
  simp only [Nod.cells, minI, maxI] at HC
  have g := fun o => World.cell?_of_block (w := w) (a := ⟨b, o, none⟩) (gW.block b hbw)
  have hO : W.cell? ⟨w.heap.size + 1 + 1 + 1, 0, none⟩ = some (.func (.func 75) #[] #[.pointer (some ⟨w.heap.size, 0, none⟩), .pointer (some ⟨w.heap.size + 1 + 1, 0, none⟩), .pointer (some ⟨w.heap.size + 1, 0, none⟩), .pointer (some ⟨w.heap.size + 1 + 1 + 1, 0, none⟩)]) ∧ W.cell? ⟨w.heap.size, 0, none⟩ = some (.slice (some ⟨b, o, none⟩) nodes.length ncap) ∧ W.cell? ⟨b, o + (nodes.length - 1) * 5, none⟩ = some (.bool root.leaf) ∧ W.cell? ⟨b, o + (nodes.length - 1) * 5 + 1, none⟩ = some (.int .i64 root.ans) ∧ W.cell? ⟨b, o + (nodes.length - 1) * 5 + 2, none⟩ = some (.int .i64 root.bound) ∧ W.cell? ⟨b, o + (nodes.length - 1) * 5 + 3, none⟩ = some (.int .i64 root.less) ∧ W.cell? ⟨b, o + (nodes.length - 1) * 5 + 4, none⟩ = some (.int .i64 root.more) := ⟨(row_all h4).1 0, (row_all h1).1 0, (g _).trans q0, (g _).trans q1, (g _).trans q2, (g _).trans q3, (g _).trans q4⟩
  clear g q0 q1 q2 q3 q4 h1 h2 h3 h4
  go_region_held3 (fun w' => w'.cell? ⟨w.heap.size + 1 + 1 + 1, 0, none⟩ = some (.func (.func 75) #[] #[.pointer (some ⟨w.heap.size, 0, none⟩), .pointer (some ⟨w.heap.size + 1 + 1, 0, none⟩), .pointer (some ⟨w.heap.size + 1, 0, none⟩), .pointer (some ⟨w.heap.size + 1 + 1 + 1, 0, none⟩)]) ∧ w'.cell? ⟨w.heap.size, 0, none⟩ = some (.slice (some ⟨b, o, none⟩) nodes.length ncap) ∧ w'.cell? ⟨b, o + (nodes.length - 1) * 5, none⟩ = some (.bool root.leaf) ∧ w'.cell? ⟨b, o + (nodes.length - 1) * 5 + 1, none⟩ = some (.int .i64 root.ans) ∧ w'.cell? ⟨b, o + (nodes.length - 1) * 5 + 2, none⟩ = some (.int .i64 root.bound) ∧ w'.cell? ⟨b, o + (nodes.length - 1) * 5 + 3, none⟩ = some (.int .i64 root.less) ∧ w'.cell? ⟨b, o + (nodes.length - 1) * 5 + 4, none⟩ = some (.int .i64 root.more)) (first | with_reducible exact hO | (simpa [go_sem] using hO))
    (first
      | (go_at_call 75; refine (HC.out _ (by repeat (with_reducible first | exact Gr.refl _ | refine Gr.drew ?_))).mono ?_; rintro e w5 ⟨rfl, s1, v1, qs1, hp1⟩
         have hwl5 : Wl low W w5 := ⟨hp1.wl.os, hp1.wl.out, hp1.wl.size, hp1.wl.block, hp1.wl.typed⟩
         have g := fun o => World.cell?_of_block (w := W) (a := ⟨b, o, none⟩) (hwl5.block b hb)
         have e0 := (row_all hp1.wk.wbox).1 0
         have e1 := (row_all hp1.wk.nbox).1 0
         simp at e0 e1
         replace hO := And.intro e0 (And.intro e1 (And.intro ((g _).trans hO.2.2.1) (And.intro ((g _).trans hO.2.2.2.1) (And.intro ((g _).trans hO.2.2.2.2.1) (And.intro ((g _).trans hO.2.2.2.2.2.1) ((g _).trans hO.2.2.2.2.2.2))))))
         clear e0 e1 g))
  have c5 := (row_all hp1.wk.pbox).1
  obtain ⟨va, vcap, rfl⟩ : ∃ a cap, v1 = .slice a qs1.length cap := by
    have hr := hp1.wk.row
    rw [List.nil_append] at hr
    rcases hr.2 with ⟨e, e'⟩ | ⟨g, cap, cur, e, _⟩
    · exact ⟨none, 0, by rw [e, e']⟩
    · exact ⟨_, _, e⟩
  have HP1 : Hid _ := hp1
  go_wp2
  go_ret
  exact ⟨s1, .slice va qs1.length vcap, qs1, w.heap.size + 4, rfl, HP1.out.i, HP1.out.st, by have := HP1.out.wk.row; simpa using this, by omega, HP1.out.says, (Wl.ofGr gW hlw).trans hwl5⟩
end Go.Proofs.YtcpmbjlhblkniaaDoor
namespace Go.Proofs.YtcpmbjlhblkniaaDoor
set_option linter.unusedVariables false
set_option maxRecDepth 100000
/-- What the last part says, else the one at hand. -/
def lastS : Int → List (Int × Int) → Int
  | d, [] => d
  | _, p :: l => lastS p.2 l
theorem lastS_snoc : ∀ (d : Int) (l : List (Int × Int)) (p : Int × Int), lastS d (l ++ [p]) = p.2
  | d, [], p => rfl
  | d, q :: l, p => lastS_snoc q.2 l p
theorem comp_snoc : ∀ (d : Int) (l : List (Int × Int)) (q : Int × Int), comp d (l ++ [q]) = comp d l ++ (if q.2 = lastS d l then [] else [q])
  | d, [], q => by
    show (if q.2 = d then comp d [] else q :: comp q.2 []) = [] ++ (if q.2 = d then [] else [q])
    by_cases h : q.2 = d
    · rw [if_pos h, if_pos h]; rfl
    · rw [if_neg h, if_neg h]; rfl
  | d, p :: l, q => by
    show (if p.2 = d then comp d (l ++ [q]) else p :: comp p.2 (l ++ [q])) = (if p.2 = d then comp d l else p :: comp p.2 l) ++ (if q.2 = lastS p.2 l then [] else [q])
    by_cases h : p.2 = d
    · rw [if_pos h, if_pos h, comp_snoc d l q, h]
    · rw [if_neg h, if_neg h, comp_snoc p.2 l q]; rfl
/-- One part more: it is kept unless it says what the one ahead says. -/
theorem compact_step {ps : List (Int × Int)} {m : Nat} {p q : Int × Int} (hp : ps[m]? = some p) (hq : ps[m + 1]? = some q) :
    compact (ps.take (m + 2)) = compact (ps.take (m + 1)) ++ (if q.2 = p.2 then [] else [q]) := by
  rw [List.take_add_one (i := m + 1), hq]
  have hs : ps.take (m + 1) = ps.take m ++ [p] := by rw [List.take_add_one, hp]; rfl
  have hl : ∃ a r, ps.take (m + 1) = a :: r ∧ lastS a.2 r = p.2 := by
    rw [hs]
    cases h : ps.take m with
    | nil => exact ⟨p, [], rfl, rfl⟩
    | cons a r => exact ⟨a, r ++ [p], rfl, lastS_snoc _ _ _⟩
  obtain ⟨a, r, h1, h2⟩ := hl
  rw [h1]
  show a :: comp a.2 (r ++ [q]) = (a :: comp a.2 r) ++ _
  rw [comp_snoc, h2]
  rfl
theorem compact_same {ps : List (Int × Int)} {m : Nat} {p q : Int × Int} (hp : ps[m]? = some p) (hq : ps[m + 1]? = some q) (h : q.2 = p.2) : compact (ps.take (m + 2)) = compact (ps.take (m + 1)) := by
  rw [compact_step hp hq, if_pos h, List.append_nil]
theorem compact_new {ps : List (Int × Int)} {m : Nat} {p q : Int × Int} (hp : ps[m]? = some p) (hq : ps[m + 1]? = some q) (h : q.2 ≠ p.2) : compact (ps.take (m + 2)) = compact (ps.take (m + 1)) ++ [q] := by
  rw [compact_step hp hq, if_neg h]
theorem compact_one {ps : List (Int × Int)} : compact (ps.take 1) = ps.take 1 := by
  cases ps with
  | nil => rfl
  | cons a r => rfl
/-- As long as no part says what the one ahead says, all are kept. -/
theorem compact_all {ps : List (Int × Int)} : ∀ (m : Nat), (∀ (i : Nat) p q, i < m → ps[i]? = some p → ps[i + 1]? = some q → q.2 ≠ p.2) → m < ps.length → compact (ps.take (m + 1)) = ps.take (m + 1)
  | 0, _, _ => compact_one
  | m + 1, h, hm => by
    obtain ⟨p, hp⟩ : ∃ p, ps[m]? = some p := ⟨_, List.getElem?_eq_getElem (by omega)⟩
    obtain ⟨q, hq⟩ : ∃ q, ps[m + 1]? = some q := ⟨_, List.getElem?_eq_getElem hm⟩
    rw [compact_new hp hq (h m p q (by omega) hp hq), compact_all m (fun i p q hi => h i p q (by omega)) (by omega), List.take_add_one (i := m + 1), hq]
    rfl
/-- Parts in the cells of a block, while they are compacted in place: those kept of the first m, and all from place m - 1 on as they came. -/
structure CmpR (cs : Array Value) (ps : List (Int × Int)) (m : Nat) : Prop where
  front : ∀ (j : Nat) x, (compact (ps.take (m + 1)))[j]? = some x → cs[j * 2]? = some (.int .i64 x.1) ∧ cs[j * 2 + 1]? = some (.int .i64 x.2)
  back : ∀ (j : Nat) x, m ≤ j → ps[j]? = some x → cs[j * 2]? = some (.int .i64 x.1) ∧ cs[j * 2 + 1]? = some (.int .i64 x.2)
  size : ps.length * 2 ≤ cs.size
theorem CmpR.same {cs : Array Value} {ps : List (Int × Int)} {m : Nat} (h : CmpR cs ps m) {p q : Int × Int} (hp : ps[m]? = some p) (hq : ps[m + 1]? = some q) (e : q.2 = p.2) : CmpR cs ps (m + 1) :=
  ⟨by rw [compact_same hp hq e]; exact h.front, fun j x hj => h.back j x (by omega), h.size⟩
theorem CmpR.new {cs : Array Value} {ps : List (Int × Int)} {m : Nat} (h : CmpR cs ps m) {p q : Int × Int} (hp : ps[m]? = some p) (hq : ps[m + 1]? = some q) (e : q.2 ≠ p.2) (hl : (compact (ps.take (m + 1))).length ≤ m) :
    CmpR ((cs.setIfInBounds ((compact (ps.take (m + 1))).length * 2) (.int .i64 q.1)).setIfInBounds ((compact (ps.take (m + 1))).length * 2 + 1) (.int .i64 q.2)) ps (m + 1) := by
  have hm := (List.getElem?_eq_some_iff.1 hq).1
  have hz := h.size
  refine ⟨fun j x hj => ?_, fun j x hj hx => ?_, by simpa using h.size⟩
  · rw [compact_new hp hq e] at hj
    rcases Nat.lt_trichotomy j (compact (ps.take (m + 1))).length with g | g | g
    · rw [List.getElem?_append_left g] at hj
      have := h.front j x hj
      simp only [Array.getElem?_setIfInBounds, Array.size_setIfInBounds]
      rw [if_neg (by omega), if_neg (by omega), if_neg (by omega), if_neg (by omega)]
      exact this
    · rw [g, List.getElem?_append_right (Nat.le_refl _)] at hj
      simp at hj
      subst hj
      rw [g]
      simp only [Array.getElem?_setIfInBounds, Array.size_setIfInBounds]
      rw [if_neg (by omega), if_pos trivial, if_pos (by omega), if_pos trivial, if_pos (by omega)]
      exact ⟨rfl, rfl⟩
    · rw [List.getElem?_eq_none (by simp; omega)] at hj
      cases hj
  · have := h.back j x (by omega) hx
    simp only [Array.getElem?_setIfInBounds, Array.size_setIfInBounds]
    rw [if_neg (by omega), if_neg (by omega), if_neg (by omega), if_neg (by omega)]
    exact this
end Go.Proofs.YtcpmbjlhblkniaaDoor
namespace Go.Proofs.YtcpmbjlhblkniaaDoor
open Go.ChangeShapes Go.WideShapes Go.ChangeAt Go.RowKit
set_option linter.unusedVariables false
set_option maxRecDepth 100000
theorem says_any (a1 a2 b1 b2 : Int) (w : World) :
    Calls Tryd.prog 77 #[.agg #[.int .i64 a1, .int .i64 a2], .agg #[.int .i64 b1, .int .i64 b2]] w fun e w' => e = .returned (.bool (a2 == b2)) ∧ Gr w w' := by
  go_enter Tryd.func77, Tryd.ntmps77
  go_wp2_with fail
  go_ret
  exact ⟨rfl, ((Gr.refl w).alloc _).alloc _⟩
/-- 'clear' of parts. -/
theorem run_clear2 (W : World) (ty : TypeId) (b o n c : Nat) (hn : 0 < n) (hc : ∀ j, j < n * 2 → (W.cell? ⟨b, o + j, none⟩).isSome = true) (hf : ∀ j, j < n * 2 → W.frozen? ⟨b, o + j, none⟩ = false) :
    (Builtin.clear_ #[123] ty #[.slice (some ⟨b, o, none⟩) n c]).run Tryd.prog W = .ok (.tuple #[]) (W.setCells b o (List.replicate (n * 2) (.int .i64 0))) := by
  have hzc : (Builtin.zeroCells (Value.agg #[.int .i64 0, .int .i64 0]).cells n).toList = List.replicate (n * 2) (.int .i64 0) := by
    have hc2 : (Value.agg #[.int .i64 0, .int .i64 0]).cells = #[.int .i64 0, .int .i64 0] := by simp [Value.cells]
    rw [hc2]
    simp [Builtin.zeroCells]
    apply List.ext_getElem
    · simp
    · intro i h1 h2
      rcases Nat.mod_two_eq_zero_or_one i with h | h <;> simp [h]
  have hst := run_storeCells_cells (P := Tryd.prog) b o (List.replicate (n * 2) (.int .i64 0)) 0 W (by simpa using hc) (by simpa using hf) (by intro v hv'; rw [List.eq_of_mem_replicate hv']; rfl)
  simp only [Nat.add_zero] at hst
  obtain ⟨m, rfl⟩ : ∃ m, n = m + 1 := ⟨n - 1, by omega⟩
  have hv : ∀ w, (zeroValue 147).run Tryd.prog w = .ok (.agg #[.int .i64 0, .int .i64 0]) w := fun w => by kernel_rfl
  simp [Builtin.clear_, run_underlying Tryd.underlying123, hv, hzc, hst]
/-- Nothing but one block has changed. -/
structure Cg (b : Nat) (w w' : World) : Prop where
  os : w'.os = w.os
  out : w'.output = w.output
  size : w.heap.size ≤ w'.heap.size
  block : ∀ x, x < w.heap.size → x ≠ b → w'.heap[x]? = w.heap[x]?
theorem Cg.ofGr {b : Nat} {w w' : World} (h : Gr w w') : Cg b w w' := ⟨h.os, h.out, h.size, fun x hx _ => h.block x hx⟩
theorem Cg.trans {d : Nat} {a b c : World} (h : Cg d a b) (k : Cg d b c) : Cg d a c :=
  ⟨k.os.trans h.os, k.out.trans h.out, Nat.le_trans h.size k.size, fun x hx hd => (k.block x (Nat.lt_of_lt_of_le hx h.size) hd).trans (h.block x hx hd)⟩
theorem compact_short {ps : List (Int × Int)} (h : ps.length < 2) : compact ps = ps := by
  have := compact_one (ps := ps)
  rwa [List.take_of_length_le (by omega)] at this
theorem parts_row {w : World} {b : Nat} {cs : Array Value} {t : TypeId} {ps : List (Int × Int)} (hrow : w.heap[b]? = some (.cells cs t)) (h : CmpR cs ps 0) : PartsAt w b 0 ps :=
  ⟨fun i x hx => by
    have := h.back i x (Nat.zero_le _) hx
    rw [Nat.zero_add]
    exact ⟨((row_all hrow).1 _).trans this.1, ((row_all hrow).1 _).trans this.2⟩⟩
theorem PartsAt.gr {w w' : World} {b o : Nat} {ps : List (Int × Int)} (h : PartsAt w b o ps) (hg : Gr w w') (hb : b < w.heap.size) : PartsAt w' b o ps :=
  ⟨fun i x hx => ⟨(hg.cell b _ hb).trans (h.cell i x hx).1, (hg.cell b _ hb).trans (h.cell i x hx).2⟩⟩
theorem Cg.setCell {b : Nat} {w w' : World} (h : Cg b w w') (o : Nat) (u : Value) : Cg b w (w'.setCell ⟨b, o, none⟩ u) :=
  ⟨h.os, h.out, by simpa [World.setCell] using h.size, fun x hx hd => (heap_setCell_other w' ⟨b, o, none⟩ x u (by simpa using hd)).trans (h.block x hx hd)⟩
theorem Cg.setCells {b : Nat} {w : World} : ∀ (vs : List Value) (o : Nat) {w' : World}, Cg b w w' → Cg b w (w'.setCells b o vs)
  | [], _, _, h => h
  | v :: r, o, _, h => Cg.setCells r (o + 1) (h.setCell o v)
/-- The second loop's memory. -/
structure InR (w ws : World) (b : Nat) (ps : List (Int × Int)) (k i j M : Nat) (cs : Array Value) : Prop where
  eq : M + 1 = k + j
  one : 1 ≤ j
  lt : M < ps.length
  hi : (compact (ps.take (M + 1))).length = i
  le : i ≤ M
  row : ws.heap[b]? = some (.cells cs 147)
  cmp : CmpR cs ps M
  cg : Cg b w ws
theorem InR.start {w w2 : World} {b : Nat} {ps : List (Int × Int)} {cs : Array Value} {m : Nat} {p q : Int × Int} (hg : Gr w w2) (hb : b < w.heap.size) (hrow : w.heap[b]? = some (.cells cs 147)) (hp : CmpR cs ps 0) (hlt : m + 1 < ps.length) (hall : ∀ (i : Nat) p q, i < m → ps[i]? = some p → ps[i + 1]? = some q → q.2 ≠ p.2) (h1 : ps[m]? = some p) (h2 : ps[m + 1]? = some q) (e : q.2 = p.2) : InR w w2 b ps (m + 1) (m + 1) 1 (m + 1) cs := by
  have E := compact_all m hall (by omega)
  have hf : ∀ (j : Nat) x, (compact (ps.take (m + 1)))[j]? = some x → cs[j * 2]? = some (.int .i64 x.1) ∧ cs[j * 2 + 1]? = some (.int .i64 x.2) := fun j x hj => by
    rw [E, List.getElem?_take] at hj
    split at hj
    · exact hp.back j x (Nat.zero_le _) hj
    · cases hj
  have hm : CmpR cs ps m := ⟨hf, fun j x hj hx => hp.back j x (Nat.zero_le _) hx, hp.size⟩
  refine ⟨rfl, Nat.le_refl _, hlt, ?_, Nat.le_refl _, (hg.block b hb).trans hrow, hm.same h1 h2 e, Cg.ofGr hg⟩
  rw [compact_same h1 h2 e, E, List.length_take]
  omega
theorem InR.skip {w ws wt : World} {b : Nat} {ps : List (Int × Int)} {k i j M : Nat} {cs : Array Value} (h : InR w ws b ps k i j M cs) (hb : b < ws.heap.size) (hg : Gr ws wt) {p q : Int × Int} (h1 : ps[M]? = some p) (h2 : ps[M + 1]? = some q) (e : q.2 = p.2) : InR w wt b ps k i (j + 1) (M + 1) cs :=
  ⟨by have := h.eq; omega, by omega, (List.getElem?_eq_some_iff.1 h2).1, by rw [compact_same h1 h2 e]; exact h.hi, by have := h.le; omega, (hg.block b hb).trans h.row, h.cmp.same h1 h2 e, h.cg.trans (Cg.ofGr hg)⟩
theorem InR.keep {w ws wt : World} {b : Nat} {ps : List (Int × Int)} {k i j M : Nat} {cs : Array Value} (h : InR w ws b ps k i j M cs) (hb : b < ws.heap.size) (hg : Gr ws wt) {p q : Int × Int} (h1 : ps[M]? = some p) (h2 : ps[M + 1]? = some q) (e : q.2 ≠ p.2) : InR w ((wt.setCell ⟨b, i * 2, none⟩ (.int .i64 q.1)).setCell ⟨b, i * 2 + 1, none⟩ (.int .i64 q.2)) b ps k (i + 1) (j + 1) (M + 1) ((cs.setIfInBounds (i * 2) (.int .i64 q.1)).setIfInBounds (i * 2 + 1) (.int .i64 q.2)) := by
  have hi := h.hi
  have hle := h.le
  subst hi
  exact ⟨by have := h.eq; omega, by omega, (List.getElem?_eq_some_iff.1 h2).1, by rw [compact_new h1 h2 e]; simp, by omega, heap_setCell_same _ b _ _ _ _ (heap_setCell_same wt b _ _ _ _ ((hg.block b hb).trans h.row)), h.cmp.new h1 h2 e hle, ((h.cg.trans (Cg.ofGr hg)).setCell _ _).setCell _ _⟩
theorem InR.done {w ws : World} {b : Nat} {ps : List (Int × Int)} {k i j M : Nat} {cs : Array Value} (h : InR w ws b ps k i j M cs) (he : M + 1 = ps.length) (vs : List Value) : (compact ps).length = i ∧ PartsAt (ws.setCells b (i * 2) vs) b 0 (compact ps) ∧ Cg b w (ws.setCells b (i * 2) vs) := by
  have e : ps.take (M + 1) = ps := List.take_of_length_le (by omega)
  have hi := h.hi
  have hf := h.cmp.front
  rw [e] at hi hf
  refine ⟨hi, ⟨fun x y hx => ?_⟩, Cg.setCells _ _ h.cg⟩
  have hl := (List.getElem?_eq_some_iff.1 hx).1
  have := hf x y hx
  rw [Nat.zero_add]
  exact ⟨(World.cell?_setCells_out b vs _ ws _ (fun _ _ => Or.inl (by simp only; omega))).trans (((row_all h.row).1 _).trans this.1), (World.cell?_setCells_out b vs _ ws _ (fun _ _ => Or.inl (by simp only; omega))).trans (((row_all h.row).1 _).trans this.2)⟩
set_option maxHeartbeats 3200000 in
theorem compactFunc_any (b cap : Nat) (cs : Array Value) (ps : List (Int × Int)) (w : World) (hb : b < w.heap.size) (hrow : w.heap[b]? = some (.cells cs 147)) (hp : CmpR cs ps 0) (h0 : 0 < ps.length) (hn : ps.length ≤ 100000) (hcap : ps.length ≤ cap) (hcap' : cap ≤ 9223372036854775807) :
    Calls Tryd.prog 76 #[.slice (some ⟨b, 0, none⟩) ps.length cap, .func (.func 77) #[] #[]] w fun e w' => e = .returned (.slice (some ⟨b, 0, none⟩) (compact ps).length cap) ∧ PartsAt w' b 0 (compact ps) ∧ Cg b w w' := by
  have hP := parts_row hrow hp
  have Hrow : Hid _ := hrow
  clear hrow
  go_enter Tryd.func76, Tryd.ntmps76
  by_cases h2 : ps.length < 2
  · have h2' : decide ((ps.length : Int) < 2) = true := by simp; omega
    have E : Hid _ := compact_short h2
    go_wp2
    go_ret
    rw [E.out]
    exact ⟨rfl, hP, Cg.ofGr (Gr.refl w)⟩
  · have h2' : decide ((ps.length : Int) < 2) = false := by simp; omega
    go_wp2_with fail
    go_loopw [5] (fun t wr => ∃ k m : Nat, k = m + 1 ∧ m < ps.length ∧ t = .int .i64 k ∧ (∀ (i : Nat) p q, i < m → ps[i]? = some p → ps[i + 1]? = some q → q.2 ≠ p.2) ∧ Gr w wr) (fun t _ => ps.length - (intOf t).toNat)
    case atStart => exact ⟨1, 0, rfl, by omega, rfl, fun i p q h => absurd h (Nat.not_lt_zero _), Gr.refl w⟩
    case round =>
      obtain ⟨k, m, hk, hm, rfl, hall, hgr⟩ := hrel
      have Hall : Hid _ := hall
      clear hall
      have hkm : (k : Int) - 1 = (m : Int) := by omega
      have Hk : Hid _ := hk
      by_cases hlt : k < ps.length
      · obtain ⟨p, hp1⟩ : ∃ p, ps[m]? = some p := ⟨_, List.getElem?_eq_getElem hm⟩
        obtain ⟨q, hq1⟩ : ∃ q, ps[k]? = some q := ⟨_, List.getElem?_eq_getElem hlt⟩
        obtain ⟨c1, c2⟩ := (hP.gr hgr hb).cell m p hp1
        obtain ⟨c3, c4⟩ := (hP.gr hgr hb).cell k q hq1
        rw [Nat.zero_add] at c1 c2 c3 c4
        have Hp1 : Hid _ := hp1
        have Hq1 : Hid _ := hq1
        obtain ⟨p1, p2⟩ := p
        obtain ⟨q1, q2⟩ := q
        have hO : wr.cell? ⟨b, k * 2, none⟩ = some (.int .i64 q1) ∧ wr.cell? ⟨b, k * 2 + 1, none⟩ = some (.int .i64 q2) ∧ wr.cell? ⟨b, m * 2, none⟩ = some (.int .i64 p1) ∧ wr.cell? ⟨b, m * 2 + 1, none⟩ = some (.int .i64 p2) := ⟨c3, c4, c1, c2⟩
        have hbr : b < wr.heap.size := Nat.lt_of_lt_of_le hb hgr.size
        clear hp1 hq1 c1 c2 c3 c4 hk
        have hwr : IntKind.i64.wrap ((k : Int) - 1) = (m : Int) := by rw [hkm]; exact IntWalk.i64_in _ ⟨by omega, by omega⟩
        have hwm : IntKind.i64.wrap (m : Int) = (m : Int) := IntWalk.i64_in _ ⟨by omega, by omega⟩
        have i5 : (0 : Int) ≤ (m : Int) := by omega
        have i6 : (m : Int) < (ps.length : Int) := by omega
        have i7 : (k : Int) < (ps.length : Int) := by omega
        go_upto_region 6 with fail
        go_region_held3 (fun w' => w'.cell? ⟨b, k * 2, none⟩ = some (.int .i64 q1) ∧ w'.cell? ⟨b, k * 2 + 1, none⟩ = some (.int .i64 q2) ∧ w'.cell? ⟨b, m * 2, none⟩ = some (.int .i64 p1) ∧ w'.cell? ⟨b, m * 2 + 1, none⟩ = some (.int .i64 p2)) (first | with_reducible exact hO | (simpa [go_sem] using hO))
          (first
            | (go_at_call 77; refine (says_any _ _ _ _ _).mono ?_; rintro e w2 ⟨rfl, hg2⟩; replace hO := And.intro ((hg2.cell b _ (by exact hbr)).trans hO.1) (And.intro ((hg2.cell b _ (by exact hbr)).trans hO.2.1) (And.intro ((hg2.cell b _ (by exact hbr)).trans hO.2.2.1) ((hg2.cell b _ (by exact hbr)).trans hO.2.2.2)))))
        have hg3 : Gr w w2 := hgr.trans ((Gr.refl _).drew.trans hg2)
        by_cases he : q2 = p2
        · have he' : (q2 == p2) = true := by simpa using he
          have He : Hid _ := he
          clear he
          have i1 : (k : Int) ≤ (ps.length : Int) := by omega
          have i2 : (k : Int) ≤ (cap : Int) := by omega
          have i3 : (ps.length : Int) ≤ (cap : Int) := by omega
          have i4 : k ≤ ps.length := by omega
          go_wp2_with fail
          have hS : InR w w2 b ps k k 1 k cs := by
            have hk := Hk.out
            subst hk
            exact InR.start hg3 hb Hrow.out hp (by omega) Hall.out Hp1.out Hq1.out He.out
          rw [he']
          go_loopw [5, 7] (fun t u ws => ∃ (i j M : Nat) (cs' : Array Value), t = .int .i64 i ∧ u = .int .i64 j ∧ InR w ws b ps k i j M cs') (fun _ u _ => ps.length - (intOf u).toNat)
          case atStart => exact ⟨k, 1, k, cs, rfl, rfl, hS⟩
          case round =>
            obtain ⟨i, j, M, cs', rfl, rfl, hR⟩ := hrel
            have a1 := hR.eq
            have a2 := hR.one
            have a3 := hR.lt
            have a4 := hR.le
            by_cases hl2 : j < ps.length - k
            · obtain ⟨l, hl⟩ : ∃ l, j = l + 1 := ⟨j - 1, by omega⟩
              obtain ⟨p', hp3⟩ : ∃ p, ps[M]? = some p := ⟨_, List.getElem?_eq_getElem a3⟩
              obtain ⟨q', hq3⟩ : ∃ q, ps[M + 1]? = some q := ⟨_, List.getElem?_eq_getElem (by omega)⟩
              obtain ⟨d1, d2⟩ := hR.cmp.back M p' (Nat.le_refl _) hp3
              obtain ⟨d3, d4⟩ := hR.cmp.back (M + 1) q' (Nat.le_succ _) hq3
              have rr := (row_all hR.row).1
              have hO2 : wr.cell? ⟨b, k * 2 + j * 2, none⟩ = some (.int .i64 q'.1) ∧ wr.cell? ⟨b, k * 2 + j * 2 + 1, none⟩ = some (.int .i64 q'.2) ∧ wr.cell? ⟨b, k * 2 + l * 2, none⟩ = some (.int .i64 p'.1) ∧ wr.cell? ⟨b, k * 2 + l * 2 + 1, none⟩ = some (.int .i64 p'.2) := by
                rw [rr, rr, rr, rr, show k * 2 + j * 2 = (M + 1) * 2 by omega, show k * 2 + l * 2 = M * 2 by omega]
                exact ⟨d3, d4, d1, d2⟩
              have hbs : b < wr.heap.size := Nat.lt_of_lt_of_le hb hR.cg.size
              have hwj : IntKind.i64.wrap ((j : Int) - 1) = (l : Int) := by rw [show (j : Int) - 1 = (l : Int) by omega]; exact IntWalk.i64_in _ ⟨by omega, by omega⟩
              have l1 : (0 : Int) ≤ (l : Int) := by omega
              have l2 : (l : Int) < ((ps.length - k : Nat) : Int) := by omega
              have l3 : (j : Int) < ((ps.length - k : Nat) : Int) := by omega
              have l4 : (i : Int) < (ps.length : Int) := by omega
              have Hp3 : Hid _ := hp3
              have Hq3 : Hid _ := hq3
              have Hl : Hid _ := hl
              have Ha1 : Hid _ := a1
              clear hp3 hq3 d1 d2 d3 d4 rr hl a1 hO hkm hwr hwm
              obtain ⟨p1', p2'⟩ := p'
              obtain ⟨q1', q2'⟩ := q'
              simp only at hO2
              by_cases hf : q2' = p2'
              · have hf' : (q2' == p2') = true := by simpa using hf
                have hf2 : (q2' != p2') = false := by simpa using hf
                have Hf : Hid _ := hf
                clear hf
                go_upto_region 11 with fail
                go_region_held3 (fun w' => w'.cell? ⟨b, k * 2 + j * 2, none⟩ = some (.int .i64 q1') ∧ w'.cell? ⟨b, k * 2 + j * 2 + 1, none⟩ = some (.int .i64 q2') ∧ w'.cell? ⟨b, k * 2 + l * 2, none⟩ = some (.int .i64 p1') ∧ w'.cell? ⟨b, k * 2 + l * 2 + 1, none⟩ = some (.int .i64 p2')) (first | with_reducible exact hO2 | (simpa [go_sem] using hO2))
                  (first
                    | (go_at_call 77; refine (says_any _ _ _ _ _).mono ?_; rintro e w4 ⟨rfl, hg4⟩; replace hO2 := And.intro ((hg4.cell b _ (by exact hbs)).trans hO2.1) (And.intro ((hg4.cell b _ (by exact hbs)).trans hO2.2.1) (And.intro ((hg4.cell b _ (by exact hbs)).trans hO2.2.2.1) ((hg4.cell b _ (by exact hbs)).trans hO2.2.2.2)))))
                have hg5 : Gr wr w4 := (Gr.refl _).drew.trans hg4
                go_wp2
                go_roundw
                case rel =>
                  exact ⟨i, j + 1, M + 1, cs', rfl, by go_num, hR.skip hbs hg5 Hp3.out Hq3.out Hf.out⟩
                case measure => simp [intOf]; omega
              · have hf' : (q2' == p2') = false := by simpa using hf
                have hf2 : (q2' != p2') = true := by simpa using hf
                have Hf : Hid _ := hf
                clear hf
                go_upto_region 11 with fail
                go_region_held3 (fun w' => w'.cell? ⟨b, k * 2 + j * 2, none⟩ = some (.int .i64 q1') ∧ w'.cell? ⟨b, k * 2 + j * 2 + 1, none⟩ = some (.int .i64 q2') ∧ w'.cell? ⟨b, k * 2 + l * 2, none⟩ = some (.int .i64 p1') ∧ w'.cell? ⟨b, k * 2 + l * 2 + 1, none⟩ = some (.int .i64 p2')) (first | with_reducible exact hO2 | (simpa [go_sem] using hO2))
                  (first
                    | (go_at_call 77; refine (says_any _ _ _ _ _).mono ?_; rintro e w4 ⟨rfl, hg4⟩; replace hO2 := And.intro ((hg4.cell b _ (by exact hbs)).trans hO2.1) (And.intro ((hg4.cell b _ (by exact hbs)).trans hO2.2.1) (And.intro ((hg4.cell b _ (by exact hbs)).trans hO2.2.2.1) ((hg4.cell b _ (by exact hbs)).trans hO2.2.2.2)))))
                have hg5 : Gr wr w4 := (Gr.refl _).drew.trans hg4
                obtain ⟨r4, f4⟩ := row_all ((hg5.block b hbs).trans hR.row)
                have hz := hR.cmp.size
                have g0 := (r4 (i * 2)).trans (Array.getElem?_eq_getElem (by omega))
                have g1 := (r4 (i * 2 + 1)).trans (Array.getElem?_eq_getElem (by omega))
                clear r4
                go_wp2
                go_roundw
                case rel =>
                  exact ⟨i + 1, j + 1, M + 1, _, by go_num, by go_num, hR.keep hbs hg5 Hp3.out Hq3.out Hf.out⟩
                case measure => simp [intOf]; omega
            · have hM : M + 1 = ps.length := by omega
              have l3 : ¬ (j : Int) < ((ps.length - k : Nat) : Int) := by omega
              have l4 : (i : Int) ≤ (ps.length : Int) := by omega
              obtain ⟨r4, f4⟩ := row_all hR.row
              have hz := hR.cmp.size
              have hcl : ∀ ty, (Builtin.clear_ #[123] ty #[.slice (some ⟨b, i * 2, none⟩) (ps.length - i) (cap - i)]).run Tryd.prog wr = .ok (.tuple #[]) (wr.setCells b (i * 2) (List.replicate ((ps.length - i) * 2) (.int .i64 0))) := fun ty => run_clear2 wr ty b (i * 2) _ _ (by omega) (fun x hx => by rw [r4, Array.getElem?_eq_getElem (by omega)]; rfl) (fun x hx => f4 _)
              clear r4 f4 hO hkm hwr hwm
              have D : Hid _ := hR.done hM (List.replicate ((ps.length - i) * 2) (.int .i64 0))
              have j1 : (i : Int) ≤ (cap : Int) := by omega
              have j2 : i ≤ ps.length := by omega
              have j3 : i ≤ cap := by omega
              go_wp2
              go_ret
              rw [D.out.1]
              exact ⟨rfl, D.out.2.1, D.out.2.2⟩
        · have he' : (q2 == p2) = false := by simpa using he
          have He : Hid _ := he
          clear he
          go_wp2
          go_roundw
          case rel =>
            have hk := Hk.out
            refine ⟨k + 1, k, rfl, hlt, by go_num, fun i p q hi h1 h3 => ?_, hg3⟩
            rcases Nat.lt_or_ge i m with g | g
            · exact Hall.out i p q g h1 h3
            · have : i = m := by omega
              subst this
              have e1 := Hp1.out
              have e2 := Hq1.out
              rw [hk] at e2
              rw [e1] at h1
              rw [e2] at h3
              cases h1
              cases h3
              exact He.out
          case measure => simp [intOf]; omega
      · have hkl : k = ps.length := by have := Hk.out; omega
        have E : Hid _ := compact_all m Hall.out hm
        go_wp2
        go_ret
        have E' := E.out
        rw [List.take_of_length_le (by have := Hk.out; omega)] at E'
        rw [E']
        exact ⟨rfl, hP.gr hgr hb, Cg.ofGr hgr⟩
end Go.Proofs.YtcpmbjlhblkniaaDoor
namespace Go.Proofs.YtcpmbjlhblkniaaDoor
open Go.ChangeShapes Go.WideShapes Go.ChangeAt Go.RowKit Go.Maps
set_option linter.unusedVariables false
set_option maxRecDepth 100000
theorem Gr.fga {base M lb : Nat} {w1 w w' : World} (h : Gr w1 w) (g : Fga base M lb w w') (h1 : w1.heap.size ≤ base) (h2 : w1.heap.size ≤ M) (h3 : w1.heap.size ≤ lb) : Gr w1 w' :=
  ⟨g.os.trans h.os, g.out.trans h.out, Nat.le_trans h.size g.size, fun b hb => (g.block b (by omega) (by omega) (by omega)).trans (h.block b hb)⟩
theorem Gr.cg {pb : Nat} {w1 w w' : World} (h : Gr w1 w) (g : Cg pb w w') (h1 : w1.heap.size ≤ pb) : Gr w1 w' :=
  ⟨g.os.trans h.os, g.out.trans h.out, Nat.le_trans h.size g.size, fun b hb => (g.block b (Nat.lt_of_lt_of_le hb h.size) (by omega)).trans (h.block b hb)⟩
theorem FinA.cg {w w' : World} {kb mb lb M base low pb : Nat} {v : Value} {ns : List Ans} {D : DataW Unit} {cs : Array Value} (h : FinA w kb mb lb M base low v ns D) (hc : Cg pb w w') (ht : w.heap[pb]? = some (.cells cs 147)) (hlow : low ≤ pb) : FinA w' kb mb lb M base low v ns D := by
  have hs := h.size
  have hlt : ∀ {b o}, w.heap[b]? = some o → b < w.heap.size := fun e => (Array.getElem?_eq_some_iff.1 e).1
  have hk : kb ≠ pb := fun e => by have := h.kbox; rw [e, ht] at this; cases this
  have hm : mb ≠ pb := fun e => by have := h.mbox; rw [e, ht] at this; cases this
  have hl : lb ≠ pb := fun e => by have := h.lbox; rw [e, ht] at this; cases this
  have hM : M ≠ pb := fun e => by
    obtain ⟨es, cl, h1, _⟩ := h.map
    rw [e, ht] at h1; cases h1
  have hi : ∀ {b : Nat} {ds : Array Value}, w.heap[b]? = some (.cells ds 3) → w'.heap[b]? = some (.cells ds 3) := fun {b : Nat} {ds : Array Value} e => (hc.block b (hlt e) (fun g => by rw [g, ht] at e; cases e)).trans e
  refine ⟨(hc.block kb (hlt h.kbox) hk).trans h.kbox, (hc.block mb (hlt h.mbox) hm).trans h.mbox, (hc.block lb (hlt h.lbox) hl).trans h.lbox, owns_same h.row fun g hg => hc.block g (owns_lt h.row hg).2 (fun e => ?_), owns_map_sameA h.map (hc.block M (by have := h.M1; omega) hM), h.isMap, fun n hn => ?_, h.ok6, fun n hn => ⟨fun hne b o sp e => ((h.far n hn).far hne b o sp e).imp id fun ⟨ds, hd⟩ => ⟨ds, hi hd⟩⟩, h.has, h.at_, h.nodup, h.k1, h.m1, h.l1, h.M1, h.ne1, h.ne2, h.low1, h.low2, Nat.le_trans hs hc.size⟩
  · obtain ⟨cur, hr⟩ := owns_typed h.row hg
    rw [e, ht] at hr; cases hr
  · have k := h.ok n hn
    refine ⟨k.off, k.jump, k.nm, k.cap, ⟨k.zs.len, fun i z hz => ?_⟩, k.wz⟩
    obtain ⟨b, o, e, hb, hcell⟩ := k.zs.cell i z hz
    refine ⟨b, o, e, Nat.lt_of_lt_of_le hb hc.size, ?_⟩
    rw [← hcell]
    refine World.cell?_of_block (w := w) (a := ⟨b, o + i, none⟩) (hc.block b hb ?_)
    rcases (h.far n hn).far (fun h0 => by rw [h0] at hz; simp at hz) b o _ e with g | ⟨ds, g⟩
    · omega
    · intro e2; rw [e2, ht] at g; cases g
theorem Far.pw {w w' : World} {low : Nat} {x : Ans} (h : Far w low x) (hp : Pw low w w') : Far w' low x :=
  ⟨fun hne b o sp e => (h.far hne b o sp e).imp id fun ⟨cs, hc⟩ => ⟨cs, (hp.block b (Array.getElem?_eq_some_iff.1 hc).1 (Or.inr ⟨fun ds e => (by rw [hc] at e; cases e), fun ds e => (by rw [hc] at e; cases e)⟩)).trans hc⟩⟩
theorem AnsOk.pw {w w' : World} {low : Nat} {x : Ans} (h : AnsOk w x) (hf : Far w low x) (hp : Pw low w w') : AnsOk w' x :=
  ⟨h.off, h.jump, h.nm, h.cap, ⟨h.zs.len, fun i z hz => by
    obtain ⟨b, o, e, hb, hc⟩ := h.zs.cell i z hz
    refine ⟨b, o, e, Nat.lt_of_lt_of_le hb hp.size, ?_⟩
    rw [← hc]
    refine World.cell?_of_block (w := w) (a := ⟨b, o + i, none⟩) (hp.block b hb ?_)
    rcases hf.far (fun h0 => by rw [h0] at hz; simp at hz) b o _ e with g | ⟨cs, g⟩
    · exact Or.inl g
    · exact Or.inr ⟨fun ds e => (by rw [g] at e; cases e), fun ds e => (by rw [g] at e; cases e)⟩⟩, h.wz⟩
theorem FinA.pw {w w' : World} {kb mb lb M base low : Nat} {v : Value} {ns : List Ans} {D : DataW Unit} (h : FinA w kb mb lb M base low v ns D) (hp : Pw low w w') : FinA w' kb mb lb M base low v ns D := by
  have hlt : ∀ {b : Nat} {o : Obj}, w.heap[b]? = some o → b < w.heap.size := fun e => (Array.getElem?_eq_some_iff.1 e).1
  have hk : ∀ (b : Nat) (cs : Array Value) (t : TypeId), w.heap[b]? = some (.cells cs t) → t ≠ 147 → t ≠ 123 → w'.heap[b]? = some (.cells cs t) := fun b cs t e h1 h2 =>
    (hp.block b (hlt e) (Or.inr ⟨fun ds g => by rw [e] at g; cases g; exact h1 rfl, fun ds g => by rw [e] at g; cases g; exact h2 rfl⟩)).trans e
  refine ⟨hk _ _ _ h.kbox (by decide) (by decide), hk _ _ _ h.mbox (by decide) (by decide), hk _ _ _ h.lbox (by decide) (by decide), owns_same h.row fun g hg => ?_, owns_map_sameA h.map ?_, h.isMap, fun n hn => (h.ok n hn).pw (h.far n hn) hp, h.ok6, fun n hn => (h.far n hn).pw hp, h.has, h.at_, h.nodup, h.k1, h.m1, h.l1, h.M1, h.ne1, h.ne2, h.low1, h.low2, Nat.le_trans h.size hp.size⟩
  · obtain ⟨cur, hr⟩ := owns_typed h.row hg
    rw [hr]; exact hk _ _ _ hr (by decide) (by decide)
  · obtain ⟨es, cl, h1, _⟩ := h.map
    exact hp.block M (hlt h1) (Or.inr ⟨fun ds g => (by rw [h1] at g; cases g), fun ds g => (by rw [h1] at g; cases g)⟩)
theorem part_get : ∀ (l : List (Int × Int)) (i : Nat) (q : Int × Int), l[i]? = some q → (partL l)[i * 2]? = some (.int .i64 q.1) ∧ (partL l)[i * 2 + 1]? = some (.int .i64 q.2)
  | [], i, q, h => by simp at h
  | p :: l, 0, q, h => by simp at h; subst h; exact ⟨rfl, rfl⟩
  | p :: l, i + 1, q, h => by
    have := part_get l i q (by simpa using h)
    rw [show (i + 1) * 2 = i * 2 + 2 by omega, show i * 2 + 2 + 1 = i * 2 + 1 + 2 by omega]
    simpa [partL] using this
theorem part_len (l : List (Int × Int)) : (partL l).length = l.length * 2 := by
  induction l with
  | nil => rfl
  | cons p l ih => simp only [partL, List.flatMap_cons, List.length_append, List.length_cons, List.length_nil] at ih ⊢; omega
/-- A row of parts that the call owns, as growing a tree takes it. -/
theorem owns_cmp {w : World} {base : Nat} {v : Value} {qs : List (Int × Int)} (h : w.ownsRow base 147 2 v qs.length (partL qs)) (h0 : 0 < qs.length) :
    ∃ (g cap : Nat) (cs : Array Value), v = .slice (some ⟨g, 0, none⟩) qs.length cap ∧ base ≤ g ∧ g < w.heap.size ∧ w.heap[g]? = some (.cells cs 147) ∧ CmpR cs qs 0 ∧ qs.length ≤ cap ∧ cap ≤ maxLen := by
  rcases h.2 with ⟨hv, hn⟩ | ⟨g, cap, cur, hv, hb, hg, h1, h2, h3⟩
  · omega
  · have cl : ∀ j u, (partL qs)[j]? = some u → cur[j]? = some u := fun j u hu => by
      have hc := h.cells (g := g) (by rw [hv]; rfl) j u hu
      rw [show (⟨g, 0, none⟩ : Addr).add j = ⟨g, 0 + j, none⟩ from Go.WideShapes.add_plain .., (row_all hg).1, Nat.zero_add] at hc
      exact hc
    refine ⟨g, cap, cur, hv, hb, (Array.getElem?_eq_some_iff.1 hg).1, hg, ⟨fun j x hj => ?_, fun j x _ hj => ⟨cl _ _ (part_get qs j x hj).1, cl _ _ (part_get qs j x hj).2⟩, ?_⟩, h1, h2⟩
    · rw [compact_one, List.getElem?_take] at hj
      by_cases k : j < 0 + 1
      · rw [if_pos k] at hj; exact ⟨cl _ _ (part_get qs j x hj).1, cl _ _ (part_get qs j x hj).2⟩
      · rw [if_neg k] at hj; cases hj
    · obtain ⟨q, hq⟩ : ∃ q, qs[qs.length - 1]? = some q := ⟨_, List.getElem?_eq_getElem (by omega)⟩
      have := (Array.getElem?_eq_some_iff.1 (cl _ _ (part_get qs _ q hq).2)).1
      omega
end Go.Proofs.YtcpmbjlhblkniaaDoor
namespace Go.Proofs.YtcpmbjlhblkniaaDoor
open Go.ChangeShapes Go.WideShapes Go.ChangeAt Go.RowKit Go.Maps
set_option linter.unusedVariables false
set_option maxRecDepth 100000
/-- The memory of merging. -/
structure MgI (f : Fst) (low kb mb lb M base cb fb : Nat) (s : Value × List Ans × DataW Unit) (W : World) : Prop where
  fin : FinA W kb mb lb M base low s.1 s.2.1 s.2.2
  cbox : W.heap[cb]? = some (.cells #[.func (.func 73) #[] #[.pointer (some ⟨kb, 0, none⟩), .pointer (some ⟨mb, 0, none⟩), .pointer (some ⟨lb, 0, none⟩)]] 115)
  fbox : W.heap[fb]? = some (.cells #[.slice f.na f.nodes.length f.ncap, .slice f.aa f.answers.length f.acap] 42)
  from_ : ∀ y ∈ s.2.1, ∃ x ∈ f.answers, y.val = x.val
  aat : ∀ (i : Nat) x, f.answers[i]? = some x → ∃ b o, f.aa = some ⟨b, o, none⟩ ∧ b < low ∧ Five W b (o + i * 5) (Ans.cells x)
  aok : ∀ x ∈ f.answers, AnsOk W x
  far : ∀ x ∈ f.answers, Far W low x
  low : low ≤ W.heap.size
theorem MgI.pw {f : Fst} {low kb mb lb M base cb fb : Nat} {s : Value × List Ans × DataW Unit} {w w' : World} (h : MgI f low kb mb lb M base cb fb s w) (hp : Pw low w w') : MgI f low kb mb lb M base cb fb s w' := by
  have hlt : ∀ {b : Nat} {o : Obj}, w.heap[b]? = some o → b < w.heap.size := fun e => (Array.getElem?_eq_some_iff.1 e).1
  have hk : ∀ (b : Nat) (cs : Array Value) (t : TypeId), w.heap[b]? = some (.cells cs t) → t ≠ 147 → t ≠ 123 → w'.heap[b]? = some (.cells cs t) := fun b cs t e h1 h2 =>
    (hp.block b (hlt e) (Or.inr ⟨fun ds g => by rw [e] at g; cases g; exact h1 rfl, fun ds g => by rw [e] at g; cases g; exact h2 rfl⟩)).trans e
  refine ⟨h.fin.pw hp, hk _ _ _ h.cbox (by decide) (by decide), hk _ _ _ h.fbox (by decide) (by decide), h.from_, fun i x hx => ?_, fun x hx => (h.aok x hx).pw (h.far x hx) hp, fun x hx => (h.far x hx).pw hp, Nat.le_trans h.low hp.size⟩
  obtain ⟨b, o, e, hb, h0, h1, h2, h3, h4⟩ := h.aat i x hx
  have hl := h.low
  have g := fun o => World.cell?_of_block (w := w) (a := ⟨b, o, none⟩) (hp.block b (by omega) (Or.inl hb))
  exact ⟨b, o, e, hb, (g _).trans h0, (g _).trans h1, (g _).trans h2, (g _).trans h3, (g _).trans h4⟩
def mgSt (a b : Value × List Ans × DataW Unit) : Prop := ∃ l, b.2.1 = a.2.1 ++ l
def mgSay (f : Fst) (s : Value × List Ans × DataW Unit) (n : Int) (i : Nat) : Prop := ∃ x y, f.answers[n.toNat]? = some x ∧ s.2.1[i]? = some y ∧ y.val = x.val
/-- As many values, none twice, as a list has that they are of, at most. -/
theorem nodup_leG {α : Type} [BEq α] [LawfulBEq α] : ∀ (n : Nat) (a b : List α), a.length ≤ n → a.Nodup → (∀ x ∈ a, x ∈ b) → a.length ≤ b.length
  | n, [], b, _, _, _ => Nat.zero_le _
  | n + 1, x :: a, b, hn, hd, hs => by
    have hx := hs x (by simp)
    obtain ⟨h1, h2⟩ := List.nodup_cons.1 hd
    have := nodup_leG n a (b.erase x) (by simpa using hn) h2 (fun y hy => by
      have hne : y ≠ x := fun e => h1 (e ▸ hy)
      exact (List.mem_erase_of_ne hne).2 (hs y (by simp [hy])))
    have hl := List.length_erase_of_mem hx
    have hb : 0 < b.length := List.length_pos_of_mem hx
    simp only [List.length_cons]
    omega
theorem MgI.len {f : Fst} {low kb mb lb M base cb fb : Nat} {s : Value × List Ans × DataW Unit} {w : World} (h : MgI f low kb mb lb M base cb fb s w) : s.2.1.length ≤ f.answers.length := by
  have := @nodup_leG (Int × Bool × ByteArray × List Int × Int) instBEqOfDecidableEq inferInstance _ (s.2.1.map Ans.val) (f.answers.map Ans.val) (Nat.le_refl _) h.fin.nodup (fun x hx => by
    obtain ⟨y, hy, rfl⟩ := List.mem_map.1 hx
    obtain ⟨z, hz, e⟩ := h.from_ y hy
    exact List.mem_map.2 ⟨z, hz, e.symm⟩)
  simpa using this
theorem MgI.call {f : Fst} {low kb mb lb M base cb fb : Nat} {v v' : Value} {ns ns' : List Ans} {D D' : DataW Unit} {w w' : World} {x : Ans} (h : MgI f low kb mb lb M base cb fb (v, ns, D) w) (hF : FinA w' kb mb lb M base low v' ns' D') (hg : Fga base M lb w w') (hx : x ∈ f.answers) (hn : ns' = ns ∨ ns' = ns ++ [x]) :
    MgI f low kb mb lb M base cb fb (v', ns', D') w' ∧ mgSt (v, ns, D) (v', ns', D') ∧ Wc low w w' := by
  have hF0 := h.fin
  have l1 := hF0.low1
  have l2 := hF0.low2
  have l3 := hF0.M1
  have hll : ∀ cs t, w.heap[lb]? = some (.cells cs t) → t = 25 := fun cs t e => by
    have := hF0.lbox; rw [e] at this; cases this; rfl
  have hty : ∀ (b : Nat) (cs : Array Value) (t : TypeId), w.heap[b]? = some (.cells cs t) → t ≠ 34 → t ≠ 25 → w'.heap[b]? = some (.cells cs t) := fun b cs t e h1 h2 =>
    hg.typed b cs t e h1 (fun g => h2 (hll cs t (g ▸ e)))
  have hbl : ∀ b, b < low → w'.heap[b]? = w.heap[b]? := fun b hb => hg.block b (by omega) (by omega) (by omega)
  have hli : ∀ cs, w.heap[lb]? ≠ some (.cells cs 3) := fun cs e => by have := hll cs _ e; revert this; decide
  refine ⟨⟨hF, hty _ _ _ h.cbox (by decide) (by decide), hty _ _ _ h.fbox (by decide) (by decide), fun y hy => ?_, fun i x hx => ?_, fun x hx => (h.aok x hx).fga (h.far x hx) hg (by omega) l1 l2 hli, fun x hx => (h.far x hx).fga hg hli, Nat.le_trans h.low hg.size⟩, ?_, ⟨hg.os, hg.out, hg.size, hbl, hty⟩⟩
  · rcases hn with e | e
    · simp only [e] at hy; exact h.from_ y hy
    · simp only [e] at hy
      rcases List.mem_append.1 hy with g | g
      · exact h.from_ y g
      · rw [List.mem_singleton.1 g]; exact ⟨x, hx, rfl⟩
  · obtain ⟨b, o, e, hb, h0, h1, h2, h3, h4⟩ := h.aat i x hx
    have g := fun o => World.cell?_of_block (w := w) (a := ⟨b, o, none⟩) (hbl b hb)
    exact ⟨b, o, e, hb, (g _).trans h0, (g _).trans h1, (g _).trans h2, (g _).trans h3, (g _).trans h4⟩
  · rcases hn with e | e
    · exact ⟨[], by simp [e]⟩
    · exact ⟨[x], e⟩
set_option maxHeartbeats 3200000 in
theorem mergeTell_any (f : Fst) (low kb mb lb M base cb fb : Nat) (h6 : ∀ x ∈ f.answers, x.zs.length ≤ 6) (ha : f.answers.length ≤ 2000) (hcap : f.answers.length ≤ f.acap) (s : Value × List Ans × DataW Unit) (n : Int) (w : World) (h : MgI f low kb mb lb M base cb fb s w) (n0 : 0 ≤ n) (n1 : n < f.answers.length) :
    Calls Tryd.prog 57 #[.int .i64 n, .pointer (some ⟨cb, 0, none⟩), .pointer (some ⟨fb, 0, none⟩)] w fun e w' => ∃ (s' : Value × List Ans × DataW Unit) (i : Nat), e = .returned (.int .i64 i) ∧ MgI f low kb mb lb M base cb fb s' w' ∧ mgSt s s' ∧ mgSay f s' n i ∧ Wc low w w' := by
  obtain ⟨v, ns, D⟩ := s
  obtain ⟨x, hx⟩ : ∃ x, f.answers[n.toNat]? = some x := ⟨_, List.getElem?_eq_getElem (by omega)⟩
  obtain ⟨b, o, e, hb, q0, q1, q2, q3, q4⟩ := h.aat _ x hx
  have hl := h.len
  simp only at hl
  have hm := List.mem_of_getElem? hx
  have HX : Hid _ := hx
  have HPL : Hid _ := fun W (hg : Gr w W) => placeA_any kb mb lb M base low v ns D x W (h.fin.gr hg) ((h.aok x hm).gr hg) (h6 x hm) ((h.far x hm).gr hg) (by omega)
  have c0 := (row_all h.cbox).1
  have d0 := (row_all h.fbox).1
  rw [e] at d0
  have hAA := e
  have i3 : n < (f.answers.length : Int) := n1
  have i1 : n.toNat < f.answers.length := by omega
  have i2 : (f.answers.length : Int) ≤ (f.acap : Int) := by omega
  clear hx e
  obtain ⟨off, sv, nm, za, zcap, zs, jump⟩ := x
  simp [Ans.cells] at q0 q1 q2 q3 q4
  simp only [Ans.cells] at HPL
  obtain ⟨na, ncap, nodes, aa, acap, answers⟩ := f
  simp only at d0 n1 i1 i2 i3 ha hcap hl hAA
  go_enter Tryd.func57, Tryd.ntmps57
  go_wp2_with fail
  have hO : w.cell? ⟨cb, 0, none⟩ = some (.func (.func 73) #[] #[.pointer (some ⟨kb, 0, none⟩), .pointer (some ⟨mb, 0, none⟩), .pointer (some ⟨lb, 0, none⟩)]) ∧ w.cell? ⟨fb, 1, none⟩ = some (.slice (some ⟨b, o, none⟩) answers.length acap) ∧ w.cell? ⟨b, o + n.toNat * 5, none⟩ = some (.int .i64 off) ∧ w.cell? ⟨b, o + n.toNat * 5 + 1, none⟩ = some (.bool sv) ∧ w.cell? ⟨b, o + n.toNat * 5 + 2, none⟩ = some (.string nm) ∧ w.cell? ⟨b, o + n.toNat * 5 + 3, none⟩ = some (.slice za zs.length zcap) ∧ w.cell? ⟨b, o + n.toNat * 5 + 4, none⟩ = some (.int .i64 jump) := ⟨c0 0, d0 1, q0, q1, q2, q3, q4⟩
  clear c0 d0
  go_region_held3 (fun w' => w'.cell? ⟨cb, 0, none⟩ = some (.func (.func 73) #[] #[.pointer (some ⟨kb, 0, none⟩), .pointer (some ⟨mb, 0, none⟩), .pointer (some ⟨lb, 0, none⟩)]) ∧ w'.cell? ⟨fb, 1, none⟩ = some (.slice (some ⟨b, o, none⟩) answers.length acap) ∧ w'.cell? ⟨b, o + n.toNat * 5, none⟩ = some (.int .i64 off) ∧ w'.cell? ⟨b, o + n.toNat * 5 + 1, none⟩ = some (.bool sv) ∧ w'.cell? ⟨b, o + n.toNat * 5 + 2, none⟩ = some (.string nm) ∧ w'.cell? ⟨b, o + n.toNat * 5 + 3, none⟩ = some (.slice za zs.length zcap) ∧ w'.cell? ⟨b, o + n.toNat * 5 + 4, none⟩ = some (.int .i64 jump)) (first | with_reducible exact hO | (simpa [go_sem] using hO))
    (first
      | (go_at_call 73; refine (HPL.out _ (by repeat (with_reducible first | exact Gr.refl _ | refine Gr.drew ?_))).mono ?_; rintro e w5 ⟨i, v5, n5, D5, rfl, ⟨y, hy, hyv⟩, hor, hF5, hg5⟩
         have hg5' : Fga base M lb w w5 := ⟨hg5.os, hg5.out, hg5.size, hg5.block, hg5.typed⟩
         obtain ⟨hM5, hS5, hC5⟩ := h.call hF5 hg5' hm hor
         have g := fun o => World.cell?_of_block (w := w) (a := ⟨b, o, none⟩) (hC5.block b hb)
         have e0 : w5.cell? ⟨cb, 0, none⟩ = some (.func (.func 73) #[] #[.pointer (some ⟨kb, 0, none⟩), .pointer (some ⟨mb, 0, none⟩), .pointer (some ⟨lb, 0, none⟩)]) := (row_all hM5.cbox).1 0
         have e1 : w5.cell? ⟨fb, 1, none⟩ = some (.slice aa answers.length acap) := (row_all hM5.fbox).1 1
         rw [hAA] at e1
         replace hO := And.intro e0 (And.intro e1 (And.intro ((g _).trans hO.2.2.1) (And.intro ((g _).trans hO.2.2.2.1) (And.intro ((g _).trans hO.2.2.2.2.1) (And.intro ((g _).trans hO.2.2.2.2.2.1) ((g _).trans hO.2.2.2.2.2.2))))))
         clear e0 e1 g))
  go_wp2
  go_ret
  exact ⟨(v5, n5, D5), i, rfl, hM5, hS5, ⟨_, y, HX.out, hy, hyv⟩, hC5⟩
theorem merge_tells (f : Fst) (low kb mb lb M base cb fb : Nat) (h6 : ∀ x ∈ f.answers, x.zs.length ≤ 6) (ha : f.answers.length ≤ 2000) (hcap : f.answers.length ≤ f.acap) : TellsM cb fb f.answers.length low (MgI f low kb mb lb M base cb fb) mgSt (mgSay f) where
  call := fun s n W h h0 h1 => mergeTell_any f low kb mb lb M base cb fb h6 ha hcap s n W h h0 h1
  keep := fun s W W' h hp => h.pw hp
  low := fun s W h => h.low
  refl := fun s => ⟨[], by simp⟩
  trans := fun a b c h1 h2 => by
    obtain ⟨l, e⟩ := h1
    obtain ⟨m, e'⟩ := h2
    exact ⟨l ++ m, by rw [e', e, List.append_assoc]⟩
  mono := fun a b n i h1 h2 => by
    obtain ⟨l, e⟩ := h1
    obtain ⟨x, y, hx, hy, hv⟩ := h2
    exact ⟨x, y, hx, by rw [e, List.getElem?_append_left (List.getElem?_eq_some_iff.1 hy).1]; exact hy, hv⟩
  small := fun s n i W h hs => by
    obtain ⟨x, y, hx, hy, hv⟩ := hs
    have := (List.getElem?_eq_some_iff.1 hy).1
    have := h.len
    omega
end Go.Proofs.YtcpmbjlhblkniaaDoor
namespace Go.Proofs.YtcpmbjlhblkniaaDoor
open Go.ChangeShapes Go.WideShapes Go.ChangeAt Go.RowKit Go.Maps
set_option linter.unusedVariables false
set_option maxRecDepth 100000
/-- What growing a tree answers. -/
structure GrowPost (b many : Nat) (ps : List (Int × Int)) (w w' : World) (e : Ending) (ns : List Tre.Nod) (v : Value) (base : Nat) : Prop where
  ret : e = .returned v
  row : w'.ownsRow base 65 5 v ns.length (nodL ns)
  base : w.heap.size ≤ base
  ok : ∀ n ∈ ns, NodOk n
  cg : Cg b w w'
  grew : Grew many [] ns (ns.length - 1) (compact ps).length (compact ps)
  len : 0 < ns.length
  nodup : ns.Nodup
theorem Cg.byFg {b base M lb : Nat} {w w1 w2 : World} (h : Cg b w w1) (g : Fg base M lb w1 w2) (h1 : w.heap.size ≤ base) (h2 : w.heap.size ≤ M) (h3 : w.heap.size ≤ lb) : Cg b w w2 :=
  ⟨g.os.trans h.os, g.out.trans h.out, Nat.le_trans h.size g.size, fun x hx hd => (g.block x (by omega) (by omega) (by omega)).trans (h.block x hx hd)⟩
theorem FinN.rebase {w : World} {kb mb lb M base b2 : Nat} {D : DataW Unit} (h : FinN w kb mb lb M base (.slice none 0 0) [] D) (h1 : base ≤ b2) (h2 : b2 ≤ w.heap.size) : FinN w kb mb lb M b2 (.slice none 0 0) [] D :=
  ⟨h.kbox, h.mbox, h.lbox, ⟨h.row.1, Or.inl ⟨rfl, rfl⟩⟩, h.map, h.isMap, h.ok, h.has, h.at_, h.nodup, Nat.lt_of_lt_of_le h.k1 h1, Nat.lt_of_lt_of_le h.m1 h1, Nat.lt_of_lt_of_le h.l1 h1, Nat.lt_of_lt_of_le h.M1 h1, h.ne1, h.ne2, h2⟩
theorem ng_nil (many : Int) : NG [] many := ⟨fun i nd h => by simp at h⟩
set_option maxHeartbeats 3200000 in
theorem grow_any (b cap many : Nat) (cs : Array Value) (ps : List (Int × Int)) (w : World) (hb : b < w.heap.size) (hrow : w.heap[b]? = some (.cells cs 147)) (hp : CmpR cs ps 0) (h0 : 0 < ps.length) (hn : ps.length ≤ 20000) (hcap : ps.length ≤ cap) (hcap' : cap ≤ 9223372036854775807) (hmany : many ≤ 100000) (hok : ∀ x ∈ ps, PartOk many x) (hR : Rise ps) :
    Calls Tryd.prog 58 #[.slice (some ⟨b, 0, none⟩) ps.length cap] w fun e w' => ∃ ns v base, GrowPost b many ps w w' e ns v base := by
  have H1 : Hid _ := fun W (hg : Gr w W) => compactFunc_any b cap cs ps W (Nat.lt_of_lt_of_le hb hg.size) ((hg.block b hb).trans hrow) hp h0 (by omega) hcap hcap'
  have H2 : Hid _ := fun W => finder_any W
  have hcl := compact_len ps
  have hcn : 0 < (compact ps).length := List.length_pos_iff.2 (compact_ne (List.length_pos_iff.1 h0))
  have hcok : ∀ x ∈ compact ps, PartOk many x := fun x hx => by
    cases ps with
    | nil => simp [compact] at hx
    | cons p r =>
      rcases List.mem_cons.1 hx with rfl | hx
      · exact hok _ (by simp)
      · exact hok x (List.mem_cons_of_mem _ ((comp_sub p.2 r).subset hx))
  go_enter Tryd.func58, Tryd.ntmps58
  go_wp2_with fail
  refine (H1.out _ (Gr.refl _)).mono ?_
  rintro e w1 ⟨rfl, hP1, hg1⟩
  go_wp2_with fail
  refine (H2.out _).mono ?_
  rintro e w2 ⟨kb, mb, lb, M, base, rfl, hF, hk, hl, hM, hbase, hg2⟩
  go_wp2_with fail
  obtain ⟨q, hq⟩ : ∃ q, (compact ps).length = q := ⟨_, rfl⟩
  have HR : Hid _ := fun W (h1 : W.heap[w2.heap.size]? = _) (h2 : W.heap[w2.heap.size + 1]? = _) (hg : Gr w2 W) (hs : W.heap.size = w2.heap.size + 2) => root_any kb mb lb M (w2.heap.size + 2) w2.heap.size (w2.heap.size + 1) b many (by omega) (by have := hF.M1; omega) (by have := hF.l1; omega) (by omega) (by have := hF.M1; omega) (by have := hF.l1; omega) (by have := hg1.size; have := hg2.size; omega) (by have := hg1.size; omega) (by have := hg1.size; omega) hmany (compact ps).length 0 cap (compact ps) _ [] _ W (Nat.le_refl _) hcn (by simp; omega) (by omega) hcap' ((hF.gr hg).rebase (by omega) (by omega)) (ng_nil _) hcok ((hP1.gr hg2 (Nat.lt_of_lt_of_le hb hg1.size)).gr hg (by have := hg1.size; have := hg2.size; omega)) h1 h2
  have HS := hg1.size
  have HS2 := hg2.size
  refine (HR.out _ (by exact heapB ..) (by exact heapC ..) (by repeat (with_reducible first | exact Gr.refl _ | refine Gr.alloc ?_ _ | refine Gr.setCell ?_ (by simp) _)) (by simp)).mono ?_
  rintro e w4 ⟨i, v, ns, D', rfl, hF4, hfg, hG⟩
  have HL : Hid _ := fun (_ : Unit) => listed_any kb mb lb M (w2.heap.size + 2) v ns D' w4 hF4
  have hcgx : Cg b w w4 := ((hg1.trans (Cg.ofGr hg2)).trans (Cg.ofGr (by repeat (with_reducible first | exact Gr.refl _ | refine Gr.alloc ?_ _ | refine Gr.setCell ?_ (by simp) _)))).byFg hfg (by omega) (by omega) (by omega)
  go_wp2_with fail
  refine (HL.out ()).mono ?_
  rintro e w5 ⟨rfl, rfl⟩
  go_wp2
  have hl := hG.last rfl (compact_rise hR).tail
  refine bodyPost_ret (v := v) (by simp [results, Tryd.results58, go_sem]) rfl ⟨ns, v, w2.heap.size + 2, rfl, hF4.row, by omega, hF4.ok, hcgx, ?_, by omega, hF4.nodup⟩
  rw [show ns.length - 1 = i by omega]; exact hG
end Go.Proofs.YtcpmbjlhblkniaaDoor
namespace Go.Proofs.YtcpmbjlhblkniaaDoor
set_option linter.unusedVariables false
/-- How many nodes of a list are leaves. -/
def leN (ns : List Tre.Nod) : Nat := ns.countP fun n => n.leaf
theorem in_le (ns : List Tre.Nod) : inN ns + leN ns = ns.length := by
  induction ns with
  | nil => rfl
  | cons n ns ih =>
    unfold inN leN at ih ⊢
    rw [List.countP_cons, List.countP_cons, List.length_cons]
    cases n.leaf <;> simp <;> omega
theorem NG.leaf0 {ns : List Tre.Nod} {many : Int} (h : NG ns many) {nd : Tre.Nod} (hm : nd ∈ ns) (hl : nd.leaf = true) : nd = ⟨true, nd.ans, 0, 0, 0⟩ := by
  obtain ⟨i, hi⟩ := List.getElem?_of_mem hm
  have := h.node i _ hi
  obtain ⟨leaf, a, b, l, m⟩ := nd
  simp only at hl
  subst hl
  cases hb : Tre.inB a 0 (many - 1) with
  | false => rw [Tre.nodF_l2 hb] at this; omega
  | true =>
    by_cases h4 : b = 0 ∧ l = 0 ∧ m = 0
    · obtain ⟨rfl, rfl, rfl⟩ := h4; rfl
    · rw [Tre.nodF_l4 hb h4] at this; omega
theorem leaves_le {ns fs : List Tre.Nod} {many : Int} (h : NG ns many) (hd : ns.Nodup) (R : Int → Int → Prop) (hR : ∀ a b n, R a n → R b n → a = b) (hx : ∀ nd ∈ ns, nd.leaf = true → ∃ m ∈ fs, m.leaf = true ∧ R nd.ans m.ans) : leN ns ≤ leN fs := by
  have hx' : ∀ nd : Tre.Nod, ∃ n : Int, nd ∈ ns → nd.leaf = true → R nd.ans n ∧ ∃ m ∈ fs, m.leaf = true ∧ m.ans = n := fun nd => by
    by_cases h1 : nd ∈ ns ∧ nd.leaf = true
    · obtain ⟨m, h2, h3, h4⟩ := hx nd h1.1 h1.2
      exact ⟨m.ans, fun _ _ => ⟨h4, m, h2, h3, rfl⟩⟩
    · exact ⟨0, fun a b => absurd ⟨a, b⟩ h1⟩
  have hg : ∀ nd, nd ∈ ns → nd.leaf = true → R nd.ans (Classical.choose (hx' nd)) ∧ ∃ m ∈ fs, m.leaf = true ∧ m.ans = Classical.choose (hx' nd) := fun nd => Classical.choose_spec (hx' nd)
  have := nodup_le _ ((ns.filter fun n => n.leaf).map fun nd => Classical.choose (hx' nd)) ((fs.filter fun n => n.leaf).map fun n => n.ans) (Nat.le_refl _) (by
    rw [List.nodup_iff_pairwise_ne, List.pairwise_map]
    refine List.Pairwise.imp_of_mem ?_ (List.nodup_iff_pairwise_ne.1 (hd.sublist (List.filter_sublist (p := fun n : Tre.Nod => n.leaf))))
    intro a b ha hb hne he
    obtain ⟨ha1, ha2⟩ := List.mem_filter.1 ha
    obtain ⟨hb1, hb2⟩ := List.mem_filter.1 hb
    have e1 := (hg a ha1 ha2).1
    have e2 := (hg b hb1 hb2).1
    rw [← he] at e2
    have e3 := hR _ _ _ e1 e2
    apply hne
    rw [h.leaf0 ha1 ha2, h.leaf0 hb1 hb2, e3]) (fun x hx => by
    obtain ⟨nd, h1, rfl⟩ := List.mem_map.1 hx
    obtain ⟨h2, h3⟩ := List.mem_filter.1 h1
    obtain ⟨m, h4, h5, h6⟩ := (hg nd h2 h3).2
    exact List.mem_map.2 ⟨m, List.mem_filter.2 ⟨h4, by simpa using h5⟩, h6⟩)
  rw [List.length_map, List.length_map] at this
  unfold leN
  rw [List.countP_eq_length_filter, List.countP_eq_length_filter]
  exact this
/-- Where a compacted part begins, another answer is told than ahead of it. -/
theorem comp_jump : ∀ (ps : List (Int × Int)) (d : Int), ps.Pairwise (fun a b => a.1 < b.1) → ∀ q ∈ comp d ps, lastG d (comp d ps) (q.1 - 1) ≠ lastG d (comp d ps) q.1
  | [], d, _, q, hq => by simp [comp] at hq
  | p :: ps, d, h, q, hq => by
    obtain ⟨h1, h2⟩ := List.pairwise_cons.1 h
    by_cases hp : p.2 = d
    · have e : comp d (p :: ps) = comp d ps := by rw [comp, if_pos hp]
      rw [e] at hq ⊢
      exact comp_jump ps d h2 q hq
    · have e : comp d (p :: ps) = p :: comp p.2 ps := by rw [comp, if_neg hp]
      rw [e] at hq ⊢
      have hb : ∀ x ∈ comp p.2 ps, p.1 < x.1 := fun x hx => h1 x ((comp_sub p.2 ps).subset hx)
      rw [lastG_cons, lastG_cons]
      rcases List.mem_cons.1 hq with rfl | hq
      · rw [if_neg (by omega), if_pos (Int.le_refl _), lastG_behind d (fun x hx => by have := hb x hx; omega), lastG_behind q.2 hb]
        exact fun e => hp e.symm
      · have := hb q hq
        rw [if_pos (by omega), if_pos (by omega)]
        exact comp_jump ps p.2 h2 q hq
theorem compact_jump {ps : List (Int × Int)} (h : Rise ps) {q : Int × Int} (hq : q ∈ (compact ps).tail) : lastA ps (q.1 - 1) ≠ lastA ps q.1 := by
  rw [← compact_last h, ← compact_last h]
  cases ps with
  | nil => simp [compact] at hq
  | cons p r => exact comp_jump r p.2 h.tail q hq
theorem rise_tells {ps : List (Int × Int)} (h : ps.Pairwise (fun a b => a.1 < b.1)) : ∀ {q : Int × Int}, q ∈ ps → ∀ d, lastG d ps q.1 = q.2 := by
  induction ps with
  | nil => intro q hq; simp at hq
  | cons p r ih =>
    intro q hq d
    obtain ⟨h1, h2⟩ := List.pairwise_cons.1 h
    rw [lastG_cons]
    rcases List.mem_cons.1 hq with rfl | hq
    · rw [if_pos (Int.le_refl _)]; exact lastG_behind _ h1
    · exact ih h2 hq _
theorem rise_tellsA {ps : List (Int × Int)} (h : ps.Pairwise (fun a b => a.1 < b.1)) {q : Int × Int} (hq : q ∈ ps) : lastA ps q.1 = q.2 := by
  have := rise_tells h hq 0
  cases ps with
  | nil => simp at hq
  | cons p r =>
    rw [lastG_cons] at this
    have hp : p.1 ≤ q.1 := by
      rcases List.mem_cons.1 hq with rfl | hq
      · exact Int.le_refl _
      · have := (List.pairwise_cons.1 h).1 q hq; omega
    rw [if_pos hp] at this
    exact this
/-- Where another answer is told than ahead, there is a node that asks. -/
theorem val_jump {nodes : List Tre.Nod} (h : Down nodes) (t : Int) : ∀ (n i : Nat) (nd : Tre.Nod), i < n → nodes[i]? = some nd → valD nodes (t - 1) n nd ≠ valD nodes t n nd → ∃ x ∈ nodes, x.leaf = false ∧ x.bound = t
  | 0, i, nd, hn, _, _ => by omega
  | n + 1, i, nd, hn, hi, hne => by
    by_cases hl : nd.leaf = true
    · unfold valD at hne; rw [if_pos hl, if_pos hl] at hne; exact absurd rfl hne
    · have hl' : nd.leaf = false := by simpa using hl
      obtain ⟨⟨k1, g1⟩, k2, g2⟩ := h.kid hi hl'
      unfold valD at hne
      rw [if_neg hl, if_neg hl] at hne
      by_cases hb : t < nd.bound
      · rw [if_pos (by omega), if_pos hb] at hne
        exact val_jump h t n _ _ (by omega) g1 hne
      · by_cases hb2 : t - 1 < nd.bound
        · exact ⟨nd, List.mem_of_getElem? hi, hl', by omega⟩
        · rw [if_neg hb2, if_neg hb] at hne
          exact val_jump h t n _ _ (by omega) g2 hne
theorem val_leaf {nodes : List Tre.Nod} (h : Down nodes) (t : Int) : ∀ (n i : Nat) (nd : Tre.Nod), i < n → nodes[i]? = some nd → ∃ x ∈ nodes, x.leaf = true ∧ x.ans = valD nodes t n nd
  | 0, i, nd, hn, _ => by omega
  | n + 1, i, nd, hn, hi => by
    by_cases hl : nd.leaf = true
    · exact ⟨nd, List.mem_of_getElem? hi, hl, by unfold valD; rw [if_pos hl]⟩
    · have hl' : nd.leaf = false := by simpa using hl
      obtain ⟨⟨k1, g1⟩, k2, g2⟩ := h.kid hi hl'
      unfold valD
      rw [if_neg hl]
      by_cases hb : t < nd.bound
      · rw [if_pos hb]; exact val_leaf h t n _ _ (by omega) g1
      · rw [if_neg hb]; exact val_leaf h t n _ _ (by omega) g2
theorem Good.root {f : Fst} (h : Good f) : ∃ root, f.nodes[f.nodes.length - 1]? = some root := ⟨_, List.getElem?_eq_getElem (by have := h.ne; omega)⟩
theorem Good.evalD {f : Fst} (h : Good f) {root : Tre.Nod} (hr : f.nodes[f.nodes.length - 1]? = some root) (t : Int) : evalI f t = (valD f.nodes t f.nodes.length root).toNat := by
  unfold evalI; rw [valD_N h.down t _ _ _ hr]
/-- Two forests tell the same. -/
structure Same (f g : Fst) : Prop where
  same : ∀ t, minI ≤ t → t ≤ maxI → ∃ y x, g.answers[evalI g t]? = some y ∧ f.answers[evalI f t]? = some x ∧ y.val = x.val
/-- What growing a forest anew leaves. -/
structure Grown2 (f : Fst) (qs : List (Int × Int)) (ns : List Ans) (S : Int → Nat → Prop) (nodes : List Tre.Nod) : Prop where
  good : Good f
  says : ∃ root, f.nodes[f.nodes.length - 1]? = some root ∧ Says S (wkD f.nodes f.nodes.length root minI maxI) qs
  say : ∀ n i, S n i → ∃ x y, f.answers[n.toNat]? = some x ∧ ns[i]? = some y ∧ y.val = x.val
  fromf : ∀ y ∈ ns, ∃ x ∈ f.answers, y.val = x.val
  few : ns.length ≤ f.answers.length
  grew : Grew ns.length [] nodes (nodes.length - 1) (compact qs).length (compact qs)
  ne : 0 < nodes.length
  nodup : nodes.Nodup
theorem minmax : minI ≤ maxI := by unfold minI maxI; omega
theorem Grown2.wk {f : Fst} {qs : List (Int × Int)} {ns : List Ans} {S : Int → Nat → Prop} {nodes : List Tre.Nod} (h : Grown2 f qs ns S nodes) : ∃ root, f.nodes[f.nodes.length - 1]? = some root ∧ Says S (wkD f.nodes f.nodes.length root minI maxI) qs ∧ Wk f.nodes f.nodes.length root minI maxI (wkD f.nodes f.nodes.length root minI maxI) := by
  obtain ⟨root, hr, hs⟩ := h.says
  exact ⟨root, hr, hs, wk_all h.good.down _ _ _ _ _ (by have := h.good.ne; omega) hr minmax⟩
theorem Says.tail {S : Int → Nat → Prop} {ps qs : List (Int × Int)} (h : Says S ps qs) {q : Int × Int} (hq : q ∈ qs.tail) : ∃ p ∈ ps.tail, p.1 = q.1 := by
  obtain ⟨j, hj⟩ := List.getElem?_of_mem hq
  rw [List.getElem?_tail] at hj
  have hl := h.len
  have := (List.getElem?_eq_some_iff.1 hj).1
  obtain ⟨i, h1, _⟩ := h.at_ (j + 1) _ (List.getElem?_eq_getElem (by omega))
  rw [hj] at h1
  cases h1
  exact ⟨ps[j + 1]'(by omega), List.mem_of_getElem? (i := j) (by rw [List.getElem?_tail]; exact List.getElem?_eq_getElem (by omega)), rfl⟩
theorem Says.mem {S : Int → Nat → Prop} {ps qs : List (Int × Int)} (h : Says S ps qs) {q : Int × Int} (hq : q ∈ qs) : ∃ p ∈ ps, ∃ i : Nat, q = (p.1, (i : Int)) ∧ S p.2 i := by
  obtain ⟨j, hj⟩ := List.getElem?_of_mem hq
  have hl := h.len
  have := (List.getElem?_eq_some_iff.1 hj).1
  obtain ⟨i, h1, h2⟩ := h.at_ j _ (List.getElem?_eq_getElem (by omega))
  rw [hj] at h1
  cases h1
  exact ⟨_, List.getElem_mem _, i, rfl, h2⟩
theorem compact_subset {ps : List (Int × Int)} {q : Int × Int} (h : q ∈ compact ps) : q ∈ ps := by
  cases ps with
  | nil => exact h
  | cons p r =>
    rcases List.mem_cons.1 h with rfl | h
    · simp
    · exact List.mem_cons_of_mem _ ((comp_sub p.2 r).subset h)
theorem compact_tail {ps : List (Int × Int)} {q : Int × Int} (h : q ∈ (compact ps).tail) : q ∈ ps.tail := by
  cases ps with
  | nil => exact h
  | cons p r => exact (comp_sub p.2 r).subset h
theorem Grown2.rise {f : Fst} {qs : List (Int × Int)} {ns : List Ans} {S : Int → Nat → Prop} {nodes : List Tre.Nod} (h : Grown2 f qs ns S nodes) : qs.Pairwise (fun a b => a.1 < b.1) ∧ Rise qs ∧ qs ≠ [] := by
  obtain ⟨root, hr, hs, hw⟩ := h.wk
  have := hs.rise hw.rise
  obtain ⟨q, r, e, _⟩ := hw.head
  have hl := hs.len
  rw [e] at hl
  cases qs with
  | nil => simp at hl
  | cons q r => exact ⟨this, ⟨(List.pairwise_cons.1 this).2⟩, by simp⟩
theorem Grown2.tells {f : Fst} {qs : List (Int × Int)} {ns : List Ans} {S : Int → Nat → Prop} {nodes : List Tre.Nod} (h : Grown2 f qs ns S nodes) (t : Int) : valN nodes t nodes.length (nodes.length - 1) = lastA qs t := by
  have h1 := h.grew.tells t
  have := h.ne
  rw [half_compact h.rise.2.2 h.rise.2.1 t (Nat.le_refl _), show nodes.length - 1 + 1 = nodes.length by omega] at h1
  exact h1
theorem Grown2.told {f : Fst} {qs : List (Int × Int)} {ns : List Ans} {S : Int → Nat → Prop} {nodes : List Tre.Nod} (h : Grown2 f qs ns S nodes) {t : Int} (h1 : minI ≤ t) (h2 : t ≤ maxI) : ∃ (i : Nat) (x y : Ans), lastA qs t = i ∧ f.answers[evalI f t]? = some x ∧ ns[i]? = some y ∧ y.val = x.val := by
  obtain ⟨root, hr, hs, hw⟩ := h.wk
  obtain ⟨q, r, e, _⟩ := hw.head
  obtain ⟨i, e1, e2⟩ := hs.tell (by rw [e]; simp) t
  rw [hw.tells t h1 h2] at e2
  obtain ⟨x, y, hx, hy, hv⟩ := h.say _ _ e2
  exact ⟨i, x, y, e1, by rw [h.good.evalD hr]; exact hx, hy, hv⟩
/-- As few nodes as any forest that tells the same has. -/
theorem Grown2.least {f : Fst} {qs : List (Int × Int)} {ns : List Ans} {S : Int → Nat → Prop} {nodes : List Tre.Nod} (h : Grown2 f qs ns S nodes) (hn : (ns.map Ans.val).Nodup) {g : Fst} (hg : Good g) (hs : Same f g) : nodes.length ≤ g.nodes.length := by
  obtain ⟨hp, hr, hne⟩ := h.rise
  obtain ⟨root, hro⟩ := hg.root
  obtain ⟨froot, hfr, hsay, hw⟩ := h.wk
  have hvals : ∀ (i j : Nat) (y z : Ans), ns[i]? = some y → ns[j]? = some z → y.val = z.val → i = j := fun i j y z hy hz e => by
    have h1 : (ns.map Ans.val)[i]? = some y.val := by simp [hy]
    have h2 : (ns.map Ans.val)[j]? = some y.val := by simp [hz, e]
    have l1 := (List.getElem?_eq_some_iff.1 h1).1
    exact (List.getElem?_inj l1 hn).1 (h1.trans h2.symm)
  have hlo : ∀ q ∈ qs, minI ≤ q.1 ∧ q.1 ≤ maxI := fun q hq => by
    obtain ⟨p, hp, i, rfl, _⟩ := hsay.mem hq
    exact hw.lo p hp
  have hin : inN nodes ≤ inN g.nodes := by
    have hc := h.grew.cnt
    have := nodup_le _ ((compact qs).tail.map fun q => q.1) ((g.nodes.filter fun n => !n.leaf).map fun n => n.bound) (Nat.le_refl _) (by
      rw [List.nodup_iff_pairwise_ne, List.pairwise_map]
      exact (compact_rise hr).tail.imp fun h => by omega) (fun x hx => by
      obtain ⟨q, hq, rfl⟩ := List.mem_map.1 hx
      have hj := compact_jump hr hq
      have hqt := compact_tail hq
      have hq2 : minI < q.1 := by
        cases qs with
        | nil => simp at hqt
        | cons p r =>
          have := (List.pairwise_cons.1 hp).1 q hqt
          have := hlo p (by simp)
          omega
      have hq3 := hlo q (List.mem_of_mem_tail hqt)
      obtain ⟨i, x, y, e1, e2, e3, e4⟩ := h.told (t := q.1 - 1) (by omega) (by omega)
      obtain ⟨i', x', y', e1', e2', e3', e4'⟩ := h.told (t := q.1) (by omega) (by omega)
      obtain ⟨u, v, s1, s2, s3⟩ := hs.same (q.1 - 1) (by omega) (by omega)
      obtain ⟨u', v', s1', s2', s3'⟩ := hs.same q.1 (by omega) (by omega)
      rw [e2] at s2
      rw [e2'] at s2'
      cases s2
      cases s2'
      obtain ⟨nd, k1, k2, k3⟩ := val_jump hg.down q.1 g.nodes.length _ root (by have := hg.ne; omega) hro (fun e => by
        have ee : evalI g (q.1 - 1) = evalI g q.1 := by rw [hg.evalD hro, hg.evalD hro, e]
        rw [ee, s1'] at s1
        cases s1
        apply hj
        rw [e1, e1', hvals i i' y y' e3 e3' (by rw [e4, e4', ← s3, ← s3'])])
      exact List.mem_map.2 ⟨nd, List.mem_filter.2 ⟨k1, by simp [k2]⟩, k3⟩)
    rw [List.length_map, List.length_map, List.length_tail] at this
    have e : inN g.nodes = (g.nodes.filter fun n => !n.leaf).length := by unfold inN; rw [List.countP_eq_length_filter]
    have z : inN ([] : List Tre.Nod) = 0 := rfl
    omega
  have hle : leN nodes ≤ leN g.nodes := by
    refine leaves_le h.grew.ng h.nodup (fun a n => ∃ x y, g.answers[n.toNat]? = some x ∧ ns[a.toNat]? = some y ∧ y.val = x.val ∧ 0 ≤ a) ?_ ?_
    · rintro a b n ⟨x, y, h1, h2, h3, h4⟩ ⟨x', y', k1, k2, k3, k4⟩
      rw [h1] at k1
      cases k1
      have := hvals _ _ _ _ h2 k2 (h3.trans k3.symm)
      omega
    · intro nd hnd hl
      rcases h.grew.lv nd hnd with k | k | ⟨q, hq, e⟩
      · simp at k
      · rw [hl] at k; cases k
      · have hqs := compact_subset hq
        have hq3 := hlo q hqs
        obtain ⟨i, x, y, e1, e2, e3, e4⟩ := h.told (t := q.1) hq3.1 hq3.2
        obtain ⟨u, v, s1, s2, s3⟩ := hs.same q.1 hq3.1 hq3.2
        rw [e2] at s2
        cases s2
        obtain ⟨m, m1, m2, m3⟩ := val_leaf hg.down q.1 g.nodes.length _ root (by have := hg.ne; omega) hro
        rw [rise_tellsA hp hqs, ← e] at e1
        refine ⟨m, m1, m2, u, y, ?_, by rw [e1]; exact e3, e4.trans s3.symm, by omega⟩
        rw [m3, ← hg.evalD hro]; exact s1
  have := in_le nodes
  have := in_le g.nodes
  omega
/-- No more nodes than there were, where each answer stands for itself. -/
theorem Grown2.fewer {f : Fst} {qs : List (Int × Int)} {ns : List Ans} {S : Int → Nat → Prop} {nodes : List Tre.Nod} (h : Grown2 f qs ns S nodes) (hS : ∀ n i, S n i → n = i) : nodes.length ≤ f.nodes.length := by
  obtain ⟨hp, hr, hne⟩ := h.rise
  obtain ⟨froot, hfr, hsay, hw⟩ := h.wk
  have hin : inN nodes ≤ inN f.nodes := by
    have hc := h.grew.cnt
    have h1 := compact_len qs
    have h2 := hw.len
    rw [← hsay.len, List.length_map] at h2
    have e : inN f.nodes = (f.nodes.filter fun n => !n.leaf).length := by unfold inN; rw [List.countP_eq_length_filter]
    have z : inN ([] : List Tre.Nod) = 0 := rfl
    omega
  have hle : leN nodes ≤ leN f.nodes := by
    refine leaves_le h.grew.ng h.nodup (fun a n => a = n) (fun a b n h1 h2 => h1.trans h2.symm) ?_
    intro nd hnd hl
    rcases h.grew.lv nd hnd with k | k | ⟨q, hq, e⟩
    · simp at k
    · rw [hl] at k; cases k
    · obtain ⟨p, hp, i, rfl, hi⟩ := hsay.mem (compact_subset hq)
      obtain ⟨m, m1, m2, m3⟩ := hw.ans p hp
      exact ⟨m, m1, m2, by rw [e, m3]; exact (hS _ _ hi).symm⟩
  have := in_le nodes
  have := in_le f.nodes
  omega
/-- What is asked for a number at most. -/
theorem Grown2.deep {f : Fst} {qs : List (Int × Int)} {ns : List Ans} {S : Int → Nat → Prop} {nodes : List Tre.Nod} (h : Grown2 f qs ns S nodes) (bs : List Int) (hb : ∀ nd ∈ f.nodes, nd.leaf = false → nd.bound ∈ bs) (K : Nat) (hK : bs.length + 1 ≤ 2 ^ K) (t : Int) : askN nodes t nodes.length (nodes.length - 1) ≤ K + 1 := by
  obtain ⟨froot, hfr, hsay, hw⟩ := h.wk
  obtain ⟨hp, hr, hne⟩ := h.rise
  have := nodup_le _ (qs.tail.map fun q => q.1) bs (Nat.le_refl _) (by
    rw [List.nodup_iff_pairwise_ne, List.pairwise_map]
    exact hr.tail.imp fun h => by omega) (fun x hx => by
    obtain ⟨q, hq, rfl⟩ := List.mem_map.1 hx
    obtain ⟨p, hp, e⟩ := hsay.tail hq
    obtain ⟨nd, k1, k2, k3⟩ := hw.from_ p hp
    rw [← e, ← k3]
    exact hb nd k1 k2)
  rw [List.length_map, List.length_tail] at this
  have h1 := compact_len qs
  have h2 := h.grew.deep t K (by omega)
  have := h.ne
  rwa [show nodes.length - 1 + 1 = nodes.length by omega] at h2
/-- The forest that is grown may be, and tells the same. -/
theorem Grown2.same {f : Fst} {qs : List (Int × Int)} {ns ys : List Ans} {S : Int → Nat → Prop} {nodes : List Tre.Nod} (h : Grown2 f qs ns S nodes) (h8 : nodes.length ≤ f.nodes.length ∨ nodes.length ≤ 8000) (hy : ys.map Ans.val = ns.map Ans.val) {na aa : Option Addr} {ncap acap : Nat} :
    forF ⟨na, ncap, nodes, aa, acap, ys⟩ = 0 ∧ Same f ⟨na, ncap, nodes, aa, acap, ys⟩ := by
  have hlen : ys.length = ns.length := by have := congrArg List.length hy; simpa using this
  have h1 := h.ne
  have h2 := h.good.n8
  have h3 := h.good.a2
  have h4 := h.few
  constructor
  · refine forF_0 (by show nodes.length ≠ 0; omega) (by show ¬ (8000 < nodes.length ∨ 2000 < ys.length); omega) (fun i hi => ?_) (fun i hi => ?_)
    · obtain ⟨y, hyi⟩ : ∃ y, ys[i]? = some y := ⟨_, List.getElem?_eq_getElem hi⟩
      rw [ansE_at hyi]
      have hm : y.val ∈ ns.map Ans.val := by rw [← hy]; exact List.mem_map_of_mem (List.mem_of_getElem? hyi)
      obtain ⟨z, hz, hzv⟩ := List.mem_map.1 hm
      obtain ⟨x, hx, hxv⟩ := h.fromf z hz
      have hg := h.good.ans x hx
      rw [hxv] at hzv
      simp only [Ans.val, Prod.mk.injEq] at hzv
      obtain ⟨e1, e2, e3, e4, e5⟩ := hzv
      unfold Ans.fault at hg ⊢
      rw [← e1, ← e3, ← e4, ← e5]
      exact hg
    · obtain ⟨nd, hnd⟩ : ∃ y, nodes[i]? = some y := ⟨_, List.getElem?_eq_getElem hi⟩
      rw [nodE_at hnd]
      have := h.grew.ng.node i nd hnd
      show Tre.nodF nd i (ys.length : Int) = 0
      rw [hlen]; exact this
  · refine ⟨fun t t1 t2 => ?_⟩
    obtain ⟨i, x, y, e1, e2, e3, e4⟩ := h.told t1 t2
    have he : evalI ⟨na, ncap, nodes, aa, acap, ys⟩ t = i := by unfold evalI; simp only; rw [h.tells, e1]; rfl
    have hv : (ys.map Ans.val)[i]? = some y.val := by rw [hy]; simp [e3]
    rw [List.getElem?_map] at hv
    cases hyi : ys[i]? with
    | none => rw [hyi] at hv; simp at hv
    | some z =>
      rw [hyi] at hv
      simp at hv
      exact ⟨z, x, by rw [he]; exact hyi, e2, hv.trans e4⟩
theorem Same.refl {f : Fst} (h : Good f) : Same f f := ⟨fun t _ _ => by
  obtain ⟨x, hx⟩ : ∃ x, f.answers[evalI f t]? = some x := ⟨_, List.getElem?_eq_getElem (h.evalI_lt t).1⟩
  exact ⟨x, x, hx, hx, rfl⟩⟩
/-- What a forest is that was made less: merged, shared, balanced. -/
structure Made (m s b : Bool) (f g : Fst) (w w' : World) : Prop where
  ok : FstOk w' g
  good : forF g = 0
  same : Same f g
  gr : Gr w w'
  twins : m = true → (g.answers.map Ans.val).Nodup
  least : m = true → ∀ g2, Good g2 → Same f g2 → g.nodes.length ≤ g2.nodes.length
  nodup : (m || s || b) = true → g.nodes.Nodup
  deep : (m || b) = true → ∀ (bs : List Int), (∀ nd ∈ f.nodes, nd.leaf = false → nd.bound ∈ bs) → ∀ K, bs.length + 1 ≤ 2 ^ K → ∀ t, askN g.nodes t g.nodes.length (g.nodes.length - 1) ≤ K + 1
  few : g.nodes.length ≤ f.nodes.length
theorem Gr.wl {low : Nat} {w1 w w' : World} (h : Gr w1 w) (g : Wl low w w') (h1 : w1.heap.size ≤ low) : Gr w1 w' :=
  ⟨g.os.trans h.os, g.out.trans h.out, Nat.le_trans h.size g.size, fun b hb => (g.block b (by omega)).trans (h.block b hb)⟩
end Go.Proofs.YtcpmbjlhblkniaaDoor
namespace Go.Proofs.YtcpmbjlhblkniaaDoor
open Go.ChangeShapes Go.WideShapes Go.ChangeAt Go.RowKit
set_option linter.unusedVariables false
theorem flat5V {α : Type} {cells : α → List Value} (h5 : ∀ x, (cells x).length = 5) : ∀ (l : List α) (i j : Nat) (x : α), l[i]? = some x → j < 5 → (l.flatMap cells)[i * 5 + j]? = (cells x)[j]?
  | [], i, j, x, h, _ => by simp at h
  | y :: l, 0, j, x, h, hj => by
    simp at h
    subst h
    rw [List.flatMap_cons, List.getElem?_append_left (by rw [h5]; omega)]
    simp
  | y :: l, i + 1, j, x, h, hj => by
    rw [List.flatMap_cons, List.getElem?_append_right (by rw [h5]; omega), h5]
    have := flat5V h5 l i j x (by simpa using h) hj
    rwa [show (i + 1) * 5 + j - 5 = i * 5 + j by omega]
theorem owns_fivesV {α : Type} {w : World} {base : Nat} {t : TypeId} {v : Value} {l : List α} {cells : α → List Value} (h5 : ∀ x, (cells x).length = 5) (h : w.ownsRow base t 5 v l.length (l.flatMap cells)) : ∃ a cap, v = .slice a l.length cap ∧ l.length ≤ cap ∧ cap ≤ maxLen ∧ FivesAt w a l cells := by
  rcases h.2 with ⟨hv, hn⟩ | ⟨g, cap, cur, hv, hb, hg, h1, h2, h3⟩
  · refine ⟨none, 0, by rw [hv, hn], by omega, Nat.zero_le _, by rw [hn]; exact Nat.zero_le _, fun i x hx => ?_⟩
    have := (List.getElem?_eq_some_iff.1 hx).1
    omega
  · have cl : ∀ i (x : α) j, l[i]? = some x → j < 5 → w.cell? ⟨g, 0 + (i * 5 + j), none⟩ = (cells x)[j]? := fun i x j hx hj => by
      have hf := flat5V h5 l i j x hx hj
      have hj' : j < (cells x).length := by rw [h5]; exact hj
      rw [List.getElem?_eq_getElem hj'] at hf ⊢
      have hc := h.cells (g := g) (by rw [hv]; rfl) (i * 5 + j) _ hf
      rwa [show (⟨g, 0, none⟩ : Addr).add (i * 5 + j) = ⟨g, 0 + (i * 5 + j), none⟩ from Go.WideShapes.add_plain ..] at hc
    exact ⟨some ⟨g, 0, none⟩, cap, hv, h1, h2, Nat.le_trans h1 h2, fun i x hx => ⟨g, 0, rfl, (Array.getElem?_eq_some_iff.1 hg).1, by simpa using cl i x 0 hx (by decide), by simpa [Nat.add_assoc] using cl i x 1 hx (by decide), by simpa [Nat.add_assoc] using cl i x 2 hx (by decide), by simpa [Nat.add_assoc] using cl i x 3 hx (by decide), by simpa [Nat.add_assoc] using cl i x 4 hx (by decide)⟩⟩
end Go.Proofs.YtcpmbjlhblkniaaDoor
namespace Go.Proofs.YtcpmbjlhblkniaaDoor
open Go.ChangeShapes Go.WideShapes Go.ChangeAt Go.RowKit
set_option linter.unusedVariables false
/-- A box of two slices. -/
structure Box2 (w : World) (rb : Nat) : Prop where
  row : ∃ T, w.heap[rb]? = some (.cells #[.slice none 0 0, .slice none 0 0] T)
theorem Box2.ne {w : World} {rb b o : Nat} {v : Value} (h : Box2 w rb) (hc : w.cell? ⟨b, o, none⟩ = some v) (hv : ∀ a n c, v ≠ .slice a n c) : b ≠ rb := by
  rintro rfl
  obtain ⟨T, k⟩ := h.row
  rw [(row_all k).1 o] at hc
  match o with
  | 0 => exact hv _ _ _ (by simpa using hc.symm)
  | 1 => exact hv _ _ _ (by simpa using hc.symm)
  | n + 2 => simp at hc
/-- Nothing but one block has been written. -/
structure But (w w' : World) (rb : Nat) : Prop where
  size : w'.heap.size = w.heap.size
  block : ∀ b, b ≠ rb → w'.heap[b]? = w.heap[b]?
theorem but2 (w : World) (rb : Nat) (u u' : Value) : But w ((w.setCell ⟨rb, 0, none⟩ u).setCell ⟨rb, 1, none⟩ u') rb :=
  ⟨by simp [World.setCell], fun b hb => (heap_setCell_other _ ⟨rb, 1, none⟩ b u' (by simpa using hb)).trans (heap_setCell_other _ ⟨rb, 0, none⟩ b u (by simpa using hb))⟩
theorem AnsOk.but {w w' : World} {rb : Nat} {x : Ans} (h : AnsOk w x) (k : Box2 w rb) (hb : But w w' rb) : AnsOk w' x :=
  ⟨h.off, h.jump, h.nm, h.cap, ⟨h.zs.len, fun i z hz => by
    obtain ⟨b, o, e, hlt, hc⟩ := h.zs.cell i z hz
    have hne := k.ne hc (fun _ _ _ e => by cases e)
    exact ⟨b, o, e, by rw [hb.size]; exact hlt, (World.cell?_of_block (w := w) (a := ⟨b, o + i, none⟩) (hb.block b hne)).trans hc⟩⟩, h.wz⟩
theorem FivesAt.but {α : Type} {w w' : World} {rb : Nat} {a : Option Addr} {l : List α} {cells : α → List Value} (h : FivesAt w a l cells) (k : Box2 w rb) (hb : But w w' rb) (hc : ∀ x, ∃ v, (cells x)[0]? = some v ∧ ∀ a n c, v ≠ .slice a n c) : FivesAt w' a l cells :=
  ⟨h.len, fun i x hx => by
    obtain ⟨b, o, e, hlt, h0, h1, h2, h3, h4⟩ := h.cell i x hx
    obtain ⟨v, hv, hv2⟩ := hc x
    have hne := k.ne (h0.trans hv) hv2
    have g := fun o => World.cell?_of_block (w := w) (a := ⟨b, o, none⟩) (hb.block b hne)
    exact ⟨b, o, e, by rw [hb.size]; exact hlt, (g _).trans h0, (g _).trans h1, (g _).trans h2, (g _).trans h3, (g _).trans h4⟩⟩
theorem FstOk.but {w w' : World} {rb : Nat} {f : Fst} (h : FstOk w f) (k : Box2 w rb) (hb : But w w' rb) : FstOk w' f :=
  ⟨h.ncap, h.acap, h.nat.but k hb (fun x => ⟨_, rfl, fun _ _ _ e => by cases e⟩), h.nok, h.aat.but k hb (fun x => ⟨_, rfl, fun _ _ _ e => by cases e⟩), fun x hx => (h.aok x hx).but k hb⟩
end Go.Proofs.YtcpmbjlhblkniaaDoor
namespace Go.Proofs.YtcpmbjlhblkniaaDoor
open Go.ChangeShapes Go.WideShapes Go.ChangeAt Go.RowKit Go.Maps
set_option linter.unusedVariables false
set_option maxRecDepth 100000
theorem low_of {w : World} {f : Fst} (hf : FstOk w f) : NodesLow w.heap.size w f.na f.nodes :=
  ⟨fun i x hx => by
    obtain ⟨b, o, e, hb, hc⟩ := hf.nat.cell i x hx
    exact ⟨b, o, e, hb, hc⟩⟩
set_option maxHeartbeats 3200000 in
theorem merge_any (f : Fst) (w : World) (hf : FstOk w f) (hG : Good f) :
    Calls Tryd.prog 30 #[.agg f.cells.toArray] w fun e w' => ∃ g : Fst, e = .returned (.agg g.cells.toArray) ∧ Made true true true f g w w' := by
  have HF : Hid _ := fun W => finderA_any W
  have hfa := hf.acap
  have HFO : Hid _ := hf
  have HG : Hid _ := hG
  have g1 := hG.ne
  have g2 := hG.n8
  have g3 := hG.a2
  obtain ⟨F, hF⟩ : ∃ F : Fst, F = f := ⟨_, rfl⟩
  have HFF : Hid _ := hF
  clear hF hG hf
  obtain ⟨na, ncap, nodes, aa, acap, answers⟩ := f
  simp only at g1 g2 g3 hfa
  simp only [Fst.cells]
  go_enter Tryd.func30, Tryd.ntmps30
  go_wp2_with fail
  refine (HF.out _).mono ?_
  rintro e w2 ⟨kb, mb, lb, M, base, rfl, hFA, hkb, hlb, hM, hbase, hg2⟩
  have k1 := (hg2.block w.heap.size (by simp; omega)).trans (heapB w _ _)
  have k2 := (hg2.block (w.heap.size + 1) (by simp)).trans (heapC w _ _)
  have z2 : w.heap.size + 2 ≤ w2.heap.size := by have := hg2.size; simp at this; omega
  have zA : w.heap.size < w2.heap.size := by omega
  have zB : w.heap.size + 1 < w2.heap.size := by omega
  have hgw2 : Gr w w2 := (((Gr.refl _).alloc _).alloc _).trans hg2
  obtain ⟨c1, f1⟩ := row_all k1
  obtain ⟨c2, f2⟩ := row_all k2
  have K1 : Hid _ := k1
  have K2 : Hid _ := k2
  have hkb2 : w.heap.size + 2 ≤ kb := by simpa using hkb
  have hlb2 : w.heap.size + 2 ≤ lb := by simpa using hlb
  have hM2 : w.heap.size + 2 ≤ M := by simpa using hM
  clear k1 k2
  go_wp2_with fail
  refine name_worldP (p := fun W => Calls _ _ _ W _) _ (fun W hW => ?_)
  have gW : Gr w2 W := by rw [hW]; exact (Gr.refl _).alloc _
  have kc : W.heap[w2.heap.size]? = some (.cells #[.func (.func 73) #[] #[.pointer (some ⟨kb, 0, none⟩), .pointer (some ⟨mb, 0, none⟩), .pointer (some ⟨lb, 0, none⟩)]] 115) := by rw [hW]; exact heapA _ _
  clear hW
  have hgW := hgw2.trans gW
  have kf := (gW.block w.heap.size zA).trans K1.out
  have hfo := HFO.out
  have hI : MgI ⟨na, ncap, nodes, aa, acap, answers⟩ w.heap.size kb mb lb M base w2.heap.size w.heap.size (.slice none 0 0, [], .map []) W := by
    refine ⟨(hFA.gr gW).rebase (Nat.le_refl _) (by have := gW.size; omega) (by simp; omega), kc, kf, fun y hy => by simp at hy, fun i x hx => ?_, fun x hx => (hfo.aok x hx).gr hgW, fun x hx => ((hfo.aok x hx).far (Nat.le_refl _)).gr hgW, by have := gW.size; omega⟩
    obtain ⟨b, o, e, hb, hc⟩ := hfo.aat.cell i x hx
    exact ⟨b, o, e, hb, hc.gr hb hgW⟩
  have h6 : ∀ x ∈ answers, x.zs.length ≤ 6 := fun x hx => (fault_small (HG.out.ans x hx)).1
  have hT := merge_tells ⟨na, ncap, nodes, aa, acap, answers⟩ w.heap.size kb mb lb M base w2.heap.size w.heap.size h6 (by simp only; omega) hfa
  obtain ⟨root, hroot⟩ : ∃ root, nodes[nodes.length - 1]? = some root := ⟨_, List.getElem?_eq_getElem (by omega)⟩
  have HC : Hid _ := fun (_ : Unit) => partsOfM_any w2.heap.size w.heap.size answers.length w.heap.size _ _ _ hT na ncap nodes (by omega) hfo.ncap HG.out.down hfo.nok (fun nd hn hl => by
    obtain ⟨i, hi⟩ := List.getElem?_of_mem hn
    obtain ⟨leaf, a, b, l, m⟩ := nd
    simp only at hl
    subst hl
    exact HG.out.leaf hi) root hroot _ W hI ((low_of hfo).gr hgW (Nat.le_refl _))
  have HROOT : Hid _ := hroot
  clear hroot hT hI hfo c1 f1 c2 f2
  refine (HC.out ()).mono ?_
  rintro e w3 ⟨s3, v3, qs, pbase, rfl, hp⟩
  have hPP : Hid _ := hp
  clear hp
  have hwk : Wk nodes nodes.length root minI maxI (wkD nodes nodes.length root minI maxI) := wk_all HG.out.down nodes.length (nodes.length - 1) root minI maxI (by omega) HROOT.out (by unfold minI maxI; omega)
  have hq0 : 0 < qs.length := by
    obtain ⟨q, r, e, _⟩ := hwk.head
    rw [hPP.out.says.len, e]; simp
  have hlen : qs.length = (wkD nodes nodes.length root minI maxI).length := hPP.out.says.len
  have hql : qs.length ≤ 9000 := by have := hwk.len2; omega
  obtain ⟨pg, pcap, pcs, rfl, hpg1, hpg2, hpg3, hpg4, hpg5, hpg6⟩ := owns_cmp hPP.out.row hq0
  unfold maxLen at hpg6
  obtain ⟨v3', ns3, D3⟩ := s3
  have hns := hPP.out.i.len
  simp only at hns
  have hRise : Rise qs := by
    have := hPP.out.says.rise hwk.rise
    cases qs with
    | nil => simp at hq0
    | cons q r => exact ⟨(List.pairwise_cons.1 this).2⟩
  have hok : ∀ x ∈ qs, PartOk ns3.length x := fun x hx => by
    obtain ⟨i, hi⟩ := List.getElem?_of_mem hx
    have hl := hPP.out.says.len
    have hlt := (List.getElem?_eq_some_iff.1 hi).1
    obtain ⟨k, e1, e2⟩ := hPP.out.says.at_ i _ (List.getElem?_eq_getElem (by omega))
    rw [hi] at e1
    cases e1
    obtain ⟨x', y, _, hy, _⟩ := e2
    have hb := hwk.lo _ (List.getElem_mem (by omega : i < (wkD nodes nodes.length root minI maxI).length))
    have hb1 : -9223372036854775808 ≤ ((wkD nodes nodes.length root minI maxI)[i]'(by omega)).fst := hb.1
    have hb2 : ((wkD nodes nodes.length root minI maxI)[i]'(by omega)).fst ≤ 9223372036854775807 := hb.2
    have := (List.getElem?_eq_some_iff.1 hy).1
    exact ⟨WalkArith.wf_i64 ⟨hb1, hb2⟩, by simp only; omega, by simp only at this ⊢; omega⟩
  have hwl := hPP.out.wl
  have zW3 := hwl.size
  have z3 : w2.heap.size + 1 ≤ w3.heap.size := by have := hPP.out.i.low; have := (Array.getElem?_eq_some_iff.1 hPP.out.i.cbox).1; omega
  have K3 : Hid _ := hwl.typed _ _ _ ((gW.block _ (by omega)).trans K2.out) (by decide) (by decide) (by decide) (by decide)
  have HGW : Hid _ := hgW.wl hwl (Nat.le_refl _)
  have HG2 : Hid _ := fun (_ : Unit) => grow_any pg pcap ns3.length pcs qs w3 hpg2 hpg3 hpg4 hq0 (by omega) hpg5 (by omega) (by omega) hok hRise
  have HLEN : Hid _ := hlen
  have HWK : Hid _ := fun (_ : Unit) => hwk
  have H6 : Hid _ := fun (_ : Unit) => h6
  clear hgW hok hRise hwl hlen hwk h6 hpg4 hpg5 HC hgw2 hg2 gW kc
  go_wp2_with fail
  refine (HG2.out ()).mono ?_
  rintro e w4 ⟨nodes4, nv, nb, rfl, n2, n3, n4, n5, n6, n7, n8⟩
  have hF3 : FinA w3 kb mb lb M base w.heap.size v3' ns3 D3 := hPP.out.i.fin
  have hF4 := hF3.cg n5 hpg3 (Nat.le_trans hPP.out.low2 hpg1)
  have hgr4 := HGW.out.cg n5 (Nat.le_trans hPP.out.low2 hpg1)
  have K4 : Hid _ := (n5.block (w.heap.size + 1) (by omega) (fun e => by have h := K3.out; rw [e, hpg3] at h; cases h)).trans K3.out
  have z4 : w.heap.size + 1 < w4.heap.size := (Array.getElem?_eq_some_iff.1 K4.out).1
  have HF4 : Hid _ := hF4
  have POST : Hid _ := fun (_ : Unit) => And.intro n2 (And.intro n3 (And.intro n4 (And.intro n6 (And.intro n7 (And.intro n8 hgr4)))))
  obtain ⟨nga, ngcap, hnv⟩ : ∃ na ncap, nv = .slice na nodes4.length ncap := row_formA n2
  obtain ⟨ya, ycap, hav, hacap, hmx, hfive⟩ := owns_fivesV (fun _ => rfl) hF4.row
  subst hnv
  subst hav
  have HFI : Hid _ := fun (_ : Unit) => hfive
  clear n2 n3 n4 n5 n6 n7 n8 hgr4 hF4 hfive hF3
  go_wp2_with fail
  refine (listedA_any kb mb lb M base w.heap.size _ ns3 D3 w4 HF4.out).mono ?_
  rintro e w5 ⟨rfl, hw5⟩
  subst w5
  have HCO : Hid _ := fun W (hg : Gr w4 W) => copies_any ya ycap ns3 W ((HFI.out ()).gr hg) (fun y hy => ⟨(HF4.out.ok y hy).gr hg, by have := HF4.out.ok6 y hy; omega, by
    obtain ⟨x, hx, hv⟩ := hPP.out.i.from_ y hy
    simp only [Ans.val, Prod.mk.injEq] at hv
    have := (fault_small (HG.out.ans x hx)).2
    rw [hv.2.2.1]; omega⟩) (by omega)
  go_wp2_with fail
  refine (HCO.out _ (by repeat (with_reducible first | exact Gr.refl _ | refine Gr.drew ?_))).mono ?_
  rintro e w6 ⟨ob, ys, rfl, hyl, hyv, hyf, hyok, hob, hg6⟩
  have hgr6 := (POST.out ()).2.2.2.2.2.2.trans hg6
  have k6 := (hg6.block (w.heap.size + 1) z4).trans K4.out
  obtain ⟨c6, f6⟩ := row_all k6
  have HY : Hid _ := fun (_ : Unit) => And.intro hyv (And.intro hyf (And.intro hyok (And.intro hg6 hgr6)))
  have HYL : Hid _ := hyl
  clear hyv hyf hyok hg6 hgr6 hyl
  go_wp2_with fail
  obtain ⟨pr, pb, pok, pg', pl, pn, _⟩ := POST.out ()
  obtain ⟨hyv, hyf, hyok, hg6, hgr6⟩ := HY.out ()
  have hyl := HYL.out
  obtain ⟨na', ncap', hne, hncap, hnmx, hnfive⟩ := owns_fivesV (fun _ => rfl) (owns_gr pr hg6)
  cases hne
  have hGG : Grown2 ⟨na, ncap, nodes, aa, acap, answers⟩ qs ns3 (mgSay ⟨na, ncap, nodes, aa, acap, answers⟩ (.slice ya ns3.length ycap, ns3, D3)) nodes4 := ⟨HG.out, ⟨root, HROOT.out, hPP.out.says⟩, fun n i h => h, fun y hy => hPP.out.i.from_ y hy, hns, pg', pl, pn⟩
  have hleast := fun g2 (h2 : Good g2) hs => hGG.least HF4.out.nodup h2 hs
  have hfew : nodes4.length ≤ nodes.length := hleast _ HG.out (Same.refl HG.out)
  obtain ⟨fg1, fg2⟩ := hGG.same (na := nga) (ncap := ngcap) (aa := some ⟨ob, 0, none⟩) (acap := ns3.length) (Or.inl hfew) hyv
  have hfst : FstOk w6 ⟨nga, ngcap, nodes4, some ⟨ob, 0, none⟩, ns3.length, ys⟩ := ⟨hncap, by show ys.length ≤ ns3.length; omega, hnfive, pok, hyf, hyok⟩
  refine bodyPost_ret (v := .agg (Fst.cells ⟨nga, ngcap, nodes4, some ⟨ob, 0, none⟩, ns3.length, ys⟩).toArray) (by simp [results, Tryd.results30, go_sem, c6, Fst.cells, hyl]) rfl ⟨_, rfl, hfst.but ⟨⟨_, k6⟩⟩ (but2 _ _ _ _), fg1, fg2, ?_, fun _ => by rw [hyv]; exact HF4.out.nodup, fun _ => hleast, fun _ => pn, fun _ bs hb K hK t => hGG.deep bs hb K hK t, hfew⟩
  repeat (with_reducible first | exact hgr6 | refine Gr.setCell ?_ (by simp) _)
end Go.Proofs.YtcpmbjlhblkniaaDoor
namespace Go.Proofs.YtcpmbjlhblkniaaDoor
open Go.ChangeShapes Go.WideShapes Go.ChangeAt Go.RowKit Go.Maps
set_option linter.unusedVariables false
set_option maxRecDepth 100000
theorem balTell_any (n : Int) (w : World) : Calls Tryd.prog 59 #[.int .i64 n] w fun e w' => e = .returned (.int .i64 n) ∧ w' = w := by
  go_enter Tryd.func59, Tryd.ntmps59
  go_wp2
  go_ret
  exact ⟨rfl, rfl⟩
structure BlI (low : Nat) (f : Fst) (fb rb : Nat) (W : World) : Prop where
  lw : low ≤ W.heap.size
  fbox : W.heap[fb]? = some (.cells #[.slice f.na f.nodes.length f.ncap, .slice f.aa f.answers.length f.acap] 42)
  box : W.heap[rb]? = some (.cells #[.slice none 0 0, .slice none 0 0] 42)
  aat : ∀ (i : Nat) x, f.answers[i]? = some x → ∃ b o, f.aa = some ⟨b, o, none⟩ ∧ b < low ∧ Five W b (o + i * 5) (Ans.cells x)
  aok : ∀ x ∈ f.answers, AnsOk W x
  far : ∀ x ∈ f.answers, Far W low x
theorem BlI.pw {low fb rb : Nat} {f : Fst} {w w' : World} (h : BlI low f fb rb w) (hp : Pw low w w') : BlI low f fb rb w' :=
  have hk : ∀ (b : Nat) (cs : Array Value), w.heap[b]? = some (.cells cs 42) → w'.heap[b]? = some (.cells cs 42) := fun b cs e =>
    (hp.block b (Array.getElem?_eq_some_iff.1 e).1 (Or.inr ⟨fun ds g => by rw [e] at g; revert g; simp, fun ds g => by rw [e] at g; revert g; simp⟩)).trans e
  ⟨Nat.le_trans h.lw hp.size, hk _ _ h.fbox, hk _ _ h.box, fun i x hx => by
    obtain ⟨b, o, e, hb, h0, h1, h2, h3, h4⟩ := h.aat i x hx
    have hl := h.lw
    have g := fun o => World.cell?_of_block (w := w) (a := ⟨b, o, none⟩) (hp.block b (by omega) (Or.inl hb))
    exact ⟨b, o, e, hb, (g _).trans h0, (g _).trans h1, (g _).trans h2, (g _).trans h3, (g _).trans h4⟩, fun x hx => (h.aok x hx).pw (h.far x hx) hp, fun x hx => (h.far x hx).pw hp⟩
def blSay (many : Nat) (_ : Unit) (n : Int) (i : Nat) : Prop := n = (i : Int) ∧ i < many
theorem balance_tells (low : Nat) (f : Fst) (fb rb : Nat) (ha : f.answers.length ≤ 2000) : TellsB f.answers.length low (fun (_ : Unit) => BlI low f fb rb) (fun _ _ => True) (blSay f.answers.length) where
  call := fun s n W h h0 h1 => (balTell_any n W).mono fun e W' ⟨he, hw⟩ => ⟨(), n.toNat, by rw [he, Int.toNat_of_nonneg h0], by rw [hw]; exact h, trivial, ⟨(Int.toNat_of_nonneg h0).symm, by omega⟩, by rw [hw]; exact Wc.ofGr (Gr.refl _) h.lw⟩
  keep := fun s W W' h hp => h.pw hp
  low := fun s W h => h.lw
  refl := fun _ => trivial
  trans := fun _ _ _ _ _ => trivial
  mono := fun a b n i _ h => h
  small := fun s n i W h hs => by have := hs.2; omega
set_option maxHeartbeats 3200000 in
theorem balance_any (f : Fst) (w : World) (hf : FstOk w f) (hG : Good f) :
    Calls Tryd.prog 31 #[.agg f.cells.toArray] w fun e w' => ∃ g : Fst, e = .returned (.agg g.cells.toArray) ∧ Made false true true f g w w' := by
  have hfa := hf.acap
  have HFO : Hid _ := hf
  have HG : Hid _ := hG
  have g1 := hG.ne
  have g2 := hG.n8
  have g3 := hG.a2
  clear hG hf
  obtain ⟨na, ncap, nodes, aa, acap, answers⟩ := f
  simp only at g1 g2 g3 hfa
  simp only [Fst.cells]
  go_enter Tryd.func31, Tryd.ntmps31
  go_wp2_with fail
  refine name_worldP (p := fun W => Calls _ _ _ W _) _ (fun W hW => ?_)
  have gW : Gr w W := by rw [hW]; first | exact ((Gr.refl _).alloc _).alloc _ | (repeat (with_reducible first | exact Gr.refl _ | refine Gr.alloc ?_ _ | refine Gr.setCell ?_ (by simp) _))
  have kf : W.heap[w.heap.size]? = some (.cells #[.slice na nodes.length ncap, .slice aa answers.length acap] 42) := by rw [hW]; exact heapB _ _ _
  have kr : W.heap[w.heap.size + 1]? = some (.cells #[.slice none 0 0, .slice none 0 0] 42) := by rw [hW]; exact heapC _ _ _
  clear hW
  have hfo := HFO.out
  have hI : BlI w.heap.size ⟨na, ncap, nodes, aa, acap, answers⟩ w.heap.size (w.heap.size + 1) W := ⟨gW.size, kf, kr, fun i x hx => by
      obtain ⟨b, o, e, hb, hc⟩ := hfo.aat.cell i x hx
      exact ⟨b, o, e, hb, hc.gr hb gW⟩, fun x hx => (hfo.aok x hx).gr gW, fun x hx => ((hfo.aok x hx).far (Nat.le_refl _)).gr gW⟩
  have hT := balance_tells w.heap.size ⟨na, ncap, nodes, aa, acap, answers⟩ w.heap.size (w.heap.size + 1) (by simp only; omega)
  obtain ⟨root, hroot⟩ : ∃ root, nodes[nodes.length - 1]? = some root := ⟨_, List.getElem?_eq_getElem (by omega)⟩
  have HC : Hid _ := fun (_ : Unit) => partsOfB_any answers.length w.heap.size _ _ _ hT na ncap nodes (by omega) hfo.ncap HG.out.down hfo.nok (fun nd hn hl => by
    obtain ⟨i, hi⟩ := List.getElem?_of_mem hn
    obtain ⟨leaf, a, b, l, m⟩ := nd
    simp only at hl
    subst hl
    exact HG.out.leaf hi) root hroot () W hI ((low_of hfo).gr gW (Nat.le_refl _))
  have HROOT : Hid _ := hroot
  have HGW : Hid _ := gW
  clear hroot hT hI hfo gW kf kr
  refine (HC.out ()).mono ?_
  rintro e w3 ⟨s3, v3, qs, pbase, rfl, hp⟩
  have hPP : Hid _ := hp
  have hwk : Wk nodes nodes.length root minI maxI (wkD nodes nodes.length root minI maxI) := wk_all HG.out.down nodes.length (nodes.length - 1) root minI maxI (by omega) HROOT.out (by unfold minI maxI; omega)
  have hq0 : 0 < qs.length := by
    obtain ⟨q, r, e, _⟩ := hwk.head
    rw [hp.says.len, e]; simp
  have hql : qs.length ≤ 9000 := by have := hwk.len2; have := hp.says.len; omega
  obtain ⟨pg, pcap, pcs, rfl, hpg1, hpg2, hpg3, hpg4, hpg5, hpg6⟩ := owns_cmp hp.row hq0
  clear hp
  unfold maxLen at hpg6
  have hRise : Rise qs := by
    have := hPP.out.says.rise hwk.rise
    cases qs with
    | nil => simp at hq0
    | cons q r => exact ⟨(List.pairwise_cons.1 this).2⟩
  have hok : ∀ x ∈ qs, PartOk answers.length x := fun x hx => by
    obtain ⟨p, hpm, i, rfl, hi⟩ := hPP.out.says.mem hx
    have hb := hwk.lo p hpm
    have hb1 : -9223372036854775808 ≤ p.1 := hb.1
    have hb2 : p.1 ≤ 9223372036854775807 := hb.2
    have hi2 : i < answers.length := hi.2
    exact ⟨WalkArith.wf_i64 ⟨hb1, hb2⟩, by simp only; omega, by simp only; omega⟩
  have hwl := hPP.out.wl
  have zW3 := hwl.size
  have hgw := HGW.out.wl hwl (Nat.le_refl _)
  have hI3 : Hid _ := hPP.out.i
  have HGW3 : Hid _ := hgw
  have HWK : Hid _ := fun (_ : Unit) => hwk
  have hpl : w.heap.size ≤ pg := Nat.le_trans hPP.out.low2 hpg1
  have HG2 : Hid _ := fun W (hg : Gr w3 W) => grow_any pg pcap answers.length pcs qs W (Nat.lt_of_lt_of_le hpg2 hg.size) ((hg.block pg hpg2).trans hpg3) hpg4 hq0 (by omega) hpg5 (by omega) (by omega) hok hRise
  have h6 : ∀ x ∈ answers, x.zs.length ≤ 6 := fun x hx => (fault_small (HG.out.ans x hx)).1
  have H6 : Hid _ := fun (_ : Unit) => h6
  clear hok hRise hwl hwk hgw h6 hpg4 hpg5 HC
  have hO : w3.cell? ⟨w.heap.size, 1, none⟩ = some (.slice aa answers.length acap) := (row_all hI3.out.fbox).1 1
  go_upto_region 2 with fail
  go_region_held3 (fun w' => w'.cell? ⟨w.heap.size, 1, none⟩ = some (.slice aa answers.length acap)) (first | with_reducible exact hO | (simpa [go_sem] using hO))
    (first
      | (go_at_call 58; refine (HG2.out _ (by repeat (with_reducible first | exact Gr.refl _ | refine Gr.drew ?_))).mono ?_; rintro e w4 ⟨nodes4, nv, nb, rfl, n2, n3, n4, n5x, n6, n7, n8⟩
         have n5 : Cg pg w3 w4 := ⟨n5x.os, n5x.out, n5x.size, n5x.block⟩
         have hP4 : Pw w.heap.size w3 w4 := ⟨n5.os, n5.out, n5.size, fun b hb hor => n5.block b hb (fun e => by
           rcases hor with g | ⟨g, _⟩
           · omega
           · exact g pcs (by rw [e]; exact hpg3))⟩
         have hI4 := hI3.out.pw hP4
         have hgr4 := HGW3.out.cg n5 hpl
         have K4 : Hid _ := hI4.box
         have kf4 := hI4.fbox
         have z4 : w.heap.size + 1 < w4.heap.size := (Array.getElem?_eq_some_iff.1 K4.out).1
         have POST : Hid _ := fun (_ : Unit) => And.intro n2 (And.intro n3 (And.intro n4 (And.intro n6 (And.intro n7 (And.intro n8 (And.intro hgr4 hI4))))))
         obtain ⟨nga, ngcap, hnv⟩ : ∃ na ncap, nv = .slice na nodes4.length ncap := row_formA n2
         subst hnv
         have HCO : Hid _ := fun W (hg : Gr w4 W) => copies_any aa acap answers W ⟨by unfold maxLen; omega, fun i x hx => by
             obtain ⟨b, o, e, hb, hc⟩ := (POST.out ()).2.2.2.2.2.2.2.aat i x hx
             have h5 := (POST.out ()).2.2.2.2.2.2.2.lw
             have h6 := hg.size
             exact ⟨b, o, e, Nat.lt_of_lt_of_le hb (Nat.le_trans h5 h6), hc.gr (by omega) hg⟩⟩ (fun y hy => ⟨((POST.out ()).2.2.2.2.2.2.2.aok y hy).gr hg, by have := (H6.out ()) y hy; omega, by
           have := (fault_small (HG.out.ans y hy)).2
           omega⟩) (by omega)
         replace hO : w4.cell? ⟨w.heap.size, 1, none⟩ = some (.slice aa answers.length acap) := (row_all kf4).1 1
         clear n2 n3 n4 n5x n5 n6 n7 n8 hgr4 hI4 hP4 kf4)
      | (go_at_call 34; refine (HCO.out _ (by repeat (with_reducible first | exact Gr.refl _ | refine Gr.drew ?_))).mono ?_; rintro e w6 ⟨ob, ys, rfl, hyl, hyv, hyf, hyok, hob, hg6x⟩
         have hg6 : Gr w4 w6 := ⟨hg6x.os, hg6x.out, hg6x.size, hg6x.block⟩
         replace hO : w6.cell? ⟨w.heap.size, 1, none⟩ = some (.slice aa answers.length acap) := (hg6.cell _ _ (by omega)).trans hO
         have k6 := (hg6.block (w.heap.size + 1) z4).trans K4.out
         have c6 := (row_all k6).1
         have f6 := (row_all k6).2
         clear hg6x))
  have hgr6 := (POST.out ()).2.2.2.2.2.2.1.trans hg6
  have HY : Hid _ := fun (_ : Unit) => And.intro hyv (And.intro hyf (And.intro hyok (And.intro hg6 hgr6)))
  have HYL : Hid _ := hyl
  clear hyv hyf hyok hg6 hgr6 hyl
  go_wp2_with fail
  obtain ⟨pr, pb, pok, pg', pl, pn, _⟩ := POST.out ()
  obtain ⟨hyv, hyf, hyok, hg6, hgr6⟩ := HY.out ()
  have hyl := HYL.out
  obtain ⟨na', ncap', hne, hncap, hnmx, hnfive⟩ := owns_fivesV (fun _ => rfl) (owns_gr pr hg6)
  cases hne
  have hGG : Grown2 ⟨na, ncap, nodes, aa, acap, answers⟩ qs answers (fun n i => n = (i : Int) ∧ i < answers.length) nodes4 := ⟨HG.out, ⟨root, HROOT.out, hPP.out.says⟩, fun n i h => by
      obtain ⟨x, hx⟩ : ∃ x, answers[i]? = some x := ⟨_, List.getElem?_eq_getElem h.2⟩
      exact ⟨x, x, by rw [h.1]; exact hx, hx, rfl⟩, fun y hy => ⟨y, hy, rfl⟩, Nat.le_refl _, pg', pl, pn⟩
  obtain ⟨fg1, fg2⟩ := hGG.same (na := nga) (ncap := ngcap) (aa := some ⟨ob, 0, none⟩) (acap := answers.length) (Or.inl (hGG.fewer (fun n i h => h.1))) hyv
  have hfst : FstOk w6 ⟨nga, ngcap, nodes4, some ⟨ob, 0, none⟩, answers.length, ys⟩ := ⟨hncap, by show ys.length ≤ answers.length; omega, hnfive, pok, hyf, hyok⟩
  refine bodyPost_ret (v := .agg (Fst.cells ⟨nga, ngcap, nodes4, some ⟨ob, 0, none⟩, answers.length, ys⟩).toArray) (by simp [results, Tryd.results31, go_sem, c6, Fst.cells, hyl]) rfl ⟨_, rfl, hfst.but ⟨⟨_, k6⟩⟩ (but2 _ _ _ _), fg1, fg2, ?_, fun h => (by cases h), fun h => (by cases h), fun _ => pn, fun _ bs hb K hK t => hGG.deep bs hb K hK t, hGG.fewer (fun n i h => h.1)⟩
  repeat (with_reducible first | exact hgr6 | refine Gr.setCell ?_ (by simp) _)
end Go.Proofs.YtcpmbjlhblkniaaDoor
namespace Go.Proofs.YtcpmbjlhblkniaaDoor
set_option linter.unusedVariables false
set_option maxRecDepth 100000
/-- Which nodes the root leads to, bs far bs the ones behind a number say. -/
structure AskK (nodes : List Tre.Nod) (bs : List Bool) (k : Nat) : Prop where
  len : bs.length = nodes.length
  root : bs[nodes.length - 1]? = some true
  kids : ∀ j nd, k ≤ j → bs[j]? = some true → nodes[j]? = some nd → nd.leaf = false → bs[nd.less.toNat]? = some true ∧ bs[nd.more.toNat]? = some true
  par : ∀ i, bs[i]? = some true → i = nodes.length - 1 ∨ ∃ j nd, i < j ∧ k ≤ j ∧ bs[j]? = some true ∧ nodes[j]? = some nd ∧ nd.leaf = false ∧ (nd.less.toNat = i ∨ nd.more.toNat = i)
theorem set_true {bs : List Bool} {i j : Nat} (h : bs[j]? = some true) : (bs.set i true)[j]? = some true := by
  rw [List.getElem?_set]
  split
  · rename_i e
    have := (List.getElem?_eq_some_iff.1 h).1
    rw [if_pos (by omega)]
  · exact h
theorem set_at {bs : List Bool} {i : Nat} (h : i < bs.length) : (bs.set i true)[i]? = some true := by
  rw [List.getElem?_set_self h]
theorem set_inv {bs : List Bool} {i j : Nat} (h : (bs.set i true)[j]? = some true) : bs[j]? = some true ∨ j = i := by
  by_cases e : i = j
  · exact Or.inr e.symm
  · rw [List.getElem?_set_ne e] at h; exact Or.inl h
theorem AskK.skip {nodes : List Tre.Nod} {bs : List Bool} {k : Nat} (h : AskK nodes bs (k + 1)) {nd : Tre.Nod} (hn : nodes[k]? = some nd) (hs : bs[k]? = some false ∨ nd.leaf = true) : AskK nodes bs k :=
  ⟨h.len, h.root, fun j x hj ha hx hl => by
    rcases Nat.lt_or_ge k j with g | g
    · exact h.kids j x g ha hx hl
    · have e : j = k := by omega
      subst e
      rw [hn] at hx
      cases hx
      rcases hs with g | g
      · rw [g] at ha; exact absurd ha (by simp)
      · rw [g] at hl; exact absurd hl (by simp), fun i hi => by
    rcases h.par i hi with g | ⟨j, x, g1, g2, g3⟩
    · exact Or.inl g
    · exact Or.inr ⟨j, x, g1, by omega, g3⟩⟩
theorem AskK.step {nodes : List Tre.Nod} {bs : List Bool} {k : Nat} (h : AskK nodes bs (k + 1)) (hD : Down nodes) {nd : Tre.Nod} (hn : nodes[k]? = some nd) (ha : bs[k]? = some true) (hl : nd.leaf = false) : AskK nodes ((bs.set nd.less.toNat true).set nd.more.toNat true) k := by
  obtain ⟨⟨k1, g1⟩, k2, g2⟩ := hD.kid hn hl
  have hz := h.len
  have hk := (List.getElem?_eq_some_iff.1 hn).1
  refine ⟨by simp [h.len], set_true (set_true h.root), fun j x hj hja hx hxl => ?_, fun i hi => ?_⟩
  · rcases Nat.lt_or_ge k j with g | g
    · have hja2 : bs[j]? = some true := by
        rcases set_inv hja with u | u
        · rcases set_inv u with v | v
          · exact v
          · omega
        · omega
      obtain ⟨u, v⟩ := h.kids j x g hja2 hx hxl
      exact ⟨set_true (set_true u), set_true (set_true v)⟩
    · have e : j = k := by omega
      subst e
      rw [hn] at hx
      cases hx
      exact ⟨set_true (set_at (by omega)), set_at (by simp; omega)⟩
  · have hor : bs[i]? = some true ∨ i = nd.less.toNat ∨ i = nd.more.toNat := by
      rcases set_inv hi with u | u
      · rcases set_inv u with v | v
        · exact Or.inl v
        · exact Or.inr (Or.inl v)
      · exact Or.inr (Or.inr u)
    rcases hor with u | u | u
    · rcases h.par i u with g | ⟨j, x, q1, q2, q3, q4⟩
      · exact Or.inl g
      · exact Or.inr ⟨j, x, q1, by omega, set_true (set_true q3), q4⟩
    · exact Or.inr ⟨k, nd, by omega, Nat.le_refl _, set_true (set_true ha), hn, hl, Or.inl u.symm⟩
    · exact Or.inr ⟨k, nd, by omega, Nat.le_refl _, set_true (set_true ha), hn, hl, Or.inr u.symm⟩
theorem AskK.start {nodes : List Tre.Nod} (h : 0 < nodes.length) : AskK nodes ((List.replicate nodes.length false).set (nodes.length - 1) true) nodes.length :=
  ⟨by simp, set_at (by simp; omega), fun j nd hj ha _ _ => by
    have := (List.getElem?_eq_some_iff.1 ha).1
    simp at this
    exact absurd hj (by omega), fun i hi => by
    rcases set_inv hi with u | u
    · have := List.mem_of_getElem? u
      simp at this
    · exact Or.inl u⟩
/-- A node whose trees have been laid elsewhere. -/
def ren (zs : List Int) (nd : Tre.Nod) : Tre.Nod := if nd.leaf = true then nd else ⟨false, nd.ans, nd.bound, (zs[nd.less.toNat]?).getD 0, (zs[nd.more.toNat]?).getD 0⟩
structure Shr (nodes : List Tre.Nod) (bs : List Bool) (many : Int) (k : Nat) (zs : List Int) (ns : List Tre.Nod) : Prop where
  ng : NG ns many
  at_ : ∀ i, i < k → bs[i]? = some true → ∃ (p : Nat) (nd : Tre.Nod), nodes[i]? = some nd ∧ zs[i]? = some (p : Int) ∧ ns[p]? = some (ren zs nd)
  all : ∀ p, p < ns.length → ∃ i, i < k ∧ bs[i]? = some true ∧ zs[i]? = some (p : Int)
  len : ns.length ≤ k
  zl : zs.length = nodes.length
theorem Shr.start {nodes : List Tre.Nod} {bs : List Bool} {many : Int} : Shr nodes bs many 0 (List.replicate nodes.length 0) [] :=
  ⟨⟨fun i nd h => by simp at h⟩, fun i h => by omega, fun p h => by simp at h, by simp, by simp⟩
theorem Shr.skip {nodes : List Tre.Nod} {bs : List Bool} {many : Int} {k : Nat} {zs : List Int} {ns : List Tre.Nod} (h : Shr nodes bs many k zs ns) (ha : bs[k]? ≠ some true) : Shr nodes bs many (k + 1) zs ns :=
  ⟨h.ng, fun i hi hia => by
    rcases Nat.lt_or_ge i k with g | g
    · exact h.at_ i g hia
    · have e : i = k := by omega
      subst e
      exact absurd hia ha, fun p hp => by
    obtain ⟨i, h1, h2⟩ := h.all p hp
    exact ⟨i, by omega, h2⟩, by have := h.len; omega, h.zl⟩
theorem ren_set {nodes : List Tre.Nod} (hD : Down nodes) {zs : List Int} {i k : Nat} {nd : Tre.Nod} (hi : nodes[i]? = some nd) (hik : i ≤ k) (v : Int) : ren (zs.set k v) nd = ren zs nd := by
  unfold ren
  by_cases hl : nd.leaf = true
  · rw [if_pos hl, if_pos hl]
  · have hl' : nd.leaf = false := by simpa using hl
    obtain ⟨⟨k1, _⟩, k2, _⟩ := hD.kid hi hl'
    rw [if_neg hl, if_neg hl, List.getElem?_set_ne (by omega), List.getElem?_set_ne (by omega)]
/-- A node that is to be laid may be. -/
theorem Shr.fits {nodes : List Tre.Nod} {bs : List Bool} {many : Int} {k : Nat} {zs : List Int} {ns : List Tre.Nod} (h : Shr nodes bs many k zs ns) (hA : AskK nodes bs 0) (hN : NG nodes many) {nd : Tre.Nod} (hk : nodes[k]? = some nd) (ha : bs[k]? = some true) :
    Tre.nodF (ren zs nd) ns.length many = 0 ∧ (nd.leaf = false → ∃ p q : Nat, zs[nd.less.toNat]? = some (p : Int) ∧ zs[nd.more.toNat]? = some (q : Int) ∧ p < ns.length ∧ q < ns.length ∧ ren zs nd = ⟨false, nd.ans, nd.bound, p, q⟩) := by
  by_cases hl : nd.leaf = true
  · refine ⟨?_, fun h => by rw [hl] at h; cases h⟩
    have := hN.node k nd hk
    unfold ren
    rw [if_pos hl]
    obtain ⟨leaf, a, b, l, m⟩ := nd
    simp only at hl
    subst hl
    exact this
  · have hl' : nd.leaf = false := by simpa using hl
    obtain ⟨⟨k1, _⟩, k2, _⟩ := hN.down.kid hk hl'
    obtain ⟨a1, a2⟩ := hA.kids k nd (Nat.zero_le _) ha hk hl'
    obtain ⟨p, x, _, p2, p3⟩ := h.at_ _ k1 a1
    obtain ⟨q, y, _, q2, q3⟩ := h.at_ _ k2 a2
    have lp := (List.getElem?_eq_some_iff.1 p3).1
    have lq := (List.getElem?_eq_some_iff.1 q3).1
    have e : ren zs nd = ⟨false, nd.ans, nd.bound, p, q⟩ := by unfold ren; rw [if_neg hl, p2, q2]; rfl
    refine ⟨?_, fun _ => ⟨p, q, p2, q2, lp, lq, e⟩⟩
    rw [e]
    obtain ⟨leaf, a, b, l, m⟩ := nd
    simp only at hl'
    subst hl'
    have h0 := (hN.inner hk).1
    subst h0
    exact Tre.nodF_n0 (Tre.inB_t (by omega) (by omega)) (Tre.inB_t (by omega) (by omega))
theorem Shr.step {nodes : List Tre.Nod} {bs : List Bool} {many : Int} {k : Nat} {zs : List Int} {ns ns' : List Tre.Nod} (h : Shr nodes bs many k zs ns) (hA : AskK nodes bs 0) (hN : NG nodes many) {nd : Tre.Nod} (hk : nodes[k]? = some nd) (ha : bs[k]? = some true) {p : Nat} (hp : ns'[p]? = some (ren zs nd)) (hn : ns' = ns ∨ ns' = ns ++ [ren zs nd]) (hd : ns'.Nodup) : Shr nodes bs many (k + 1) (zs.set k p) ns' := by
  obtain ⟨g1, g2, g3⟩ := placed h.ng (h.fits hA hN hk ha).1 hn
  have hkl := (List.getElem?_eq_some_iff.1 hk).1
  have hzl := h.zl
  refine ⟨g1, fun i hi hia => ?_, fun q hq => ?_, by have := h.len; omega, by simp [h.zl]⟩
  · rcases Nat.lt_or_ge i k with g | g
    · obtain ⟨r, x, e1, e2, e3⟩ := h.at_ i g hia
      exact ⟨r, x, e1, by rw [List.getElem?_set_ne (by omega)]; exact e2, by rw [ren_set hN.down e1 (by omega)]; exact g2 _ _ e3⟩
    · have e : i = k := by omega
      subst e
      exact ⟨p, nd, hk, by rw [List.getElem?_set_self (by omega)], by rw [ren_set hN.down hk (Nat.le_refl _)]; exact hp⟩
  · rcases Nat.lt_or_ge q ns.length with g | g
    · obtain ⟨i, h1, h2, h3⟩ := h.all q g
      exact ⟨i, by omega, h2, by rw [List.getElem?_set_ne (by omega)]; exact h3⟩
    · rcases hn with rfl | rfl
      · omega
      · have hq' : q = ns.length := by simp at hq; omega
        have hpq : p = q := by
          have e1 : (ns ++ [ren zs nd])[q]? = some (ren zs nd) := by rw [hq']; simp
          exact (List.getElem?_inj (List.getElem?_eq_some_iff.1 hp).1 hd).1 (hp.trans e1.symm)
        exact ⟨k, by omega, ha, by rw [List.getElem?_set_self (by omega), hpq]⟩
theorem valN_more2 {nodes : List Tre.Nod} (hD : Down nodes) (t : Int) : ∀ (n m i : Nat), i < n → i < m → i < nodes.length → valN nodes t n i = valN nodes t m i := by
  intro n
  induction n with
  | zero => intro m i hi; omega
  | succ n ih =>
    intro m i hi hm hl
    obtain ⟨m, rfl⟩ : ∃ q, m = q + 1 := ⟨m - 1, by omega⟩
    obtain ⟨⟨leaf, a, b, l, r⟩, hx⟩ : ∃ x, nodes[i]? = some x := ⟨_, List.getElem?_eq_getElem hl⟩
    cases leaf with
    | true => rw [valN_leaf hx, valN_leaf hx]
    | false =>
      have := hD.less i _ hx rfl
      simp only at this
      by_cases ht : t < b
      · rw [valN_less hx ht, valN_less hx ht]; exact ih m _ (by omega) (by omega) (by omega)
      · rw [valN_more hx ht, valN_more hx ht]; exact ih m _ (by omega) (by omega) (by omega)
theorem Shr.val {nodes : List Tre.Nod} {bs : List Bool} {many : Int} {zs : List Int} {ns : List Tre.Nod} (h : Shr nodes bs many nodes.length zs ns) (hA : AskK nodes bs 0) (hN : NG nodes many) (t : Int) : ∀ (n i p : Nat), i < n → bs[i]? = some true → zs[i]? = some (p : Int) → valN ns t (p + 1) p = valN nodes t (i + 1) i
  | 0, i, p, hn, _, _ => by omega
  | n + 1, i, p, hn, ha, hz => by
    have hil : i < nodes.length := by have := (List.getElem?_eq_some_iff.1 ha).1; have := hA.len; omega
    obtain ⟨q, nd, e1, e2, e3⟩ := h.at_ i hil ha
    rw [hz] at e2
    have hpq : p = q := by have := Option.some.inj e2; omega
    subst hpq
    have hpl := (List.getElem?_eq_some_iff.1 e3).1
    by_cases hl : nd.leaf = true
    · have er : ren zs nd = nd := by unfold ren; rw [if_pos hl]
      rw [er] at e3
      obtain ⟨leaf, a, b, l, m⟩ := nd
      simp only at hl
      subst hl
      rw [valN_leaf e3, valN_leaf e1]
    · have hl' : nd.leaf = false := by simpa using hl
      obtain ⟨⟨k1, _⟩, k2, _⟩ := hN.down.kid e1 hl'
      obtain ⟨a1, a2⟩ := hA.kids i nd (Nat.zero_le _) ha e1 hl'
      obtain ⟨u, x, u1, u2, u3⟩ := h.at_ _ (by omega) a1
      obtain ⟨v, y, v1, v2, v3⟩ := h.at_ _ (by omega) a2
      have er : ren zs nd = ⟨false, nd.ans, nd.bound, u, v⟩ := by unfold ren; rw [if_neg hl, u2, v2]; rfl
      rw [er] at e3
      have hin := h.ng.inner e3
      have r1 := Shr.val h hA hN t n _ u (by omega) a1 u2
      have r2 := Shr.val h hA hN t n _ v (by omega) a2 v2
      obtain ⟨leaf, a, b, l, m⟩ := nd
      simp only at hl' k1 k2 r1 r2 e3
      subst hl'
      have lu := (List.getElem?_eq_some_iff.1 u3).1
      have lv := (List.getElem?_eq_some_iff.1 v3).1
      by_cases ht : t < b
      · rw [valN_less e3 ht, valN_less e1 ht]
        simp only [Int.toNat_natCast]
        rw [h.ng.fuel t p (u + 1) u (by omega) (by omega) lu, r1]
        exact valN_more2 hN.down t _ _ _ (by omega) k1 (by omega)
      · rw [valN_more e3 ht, valN_more e1 ht]
        simp only [Int.toNat_natCast]
        rw [h.ng.fuel t p (v + 1) v (by omega) (by omega) lv, r2]
        exact valN_more2 hN.down t _ _ _ (by omega) k2 (by omega)
/-- No tree is laid behind the root's. -/
theorem Shr.below {nodes : List Tre.Nod} {bs : List Bool} {many : Int} {zs : List Int} {ns : List Tre.Nod} (h : Shr nodes bs many nodes.length zs ns) (hA : AskK nodes bs 0) (hN : NG nodes many) {r : Nat} (hr : zs[nodes.length - 1]? = some (r : Int)) : ∀ (n i p : Nat), nodes.length - i ≤ n → bs[i]? = some true → zs[i]? = some (p : Int) → p ≤ r
  | 0, i, p, hn, ha, _ => by
    have := (List.getElem?_eq_some_iff.1 ha).1
    have := hA.len
    omega
  | n + 1, i, p, hn, ha, hz => by
    rcases hA.par i ha with g | ⟨j, nd, g1, _, g2, g3, g4, g5⟩
    · subst g
      rw [hz] at hr
      have := Option.some.inj hr; omega
    · have hjl := (List.getElem?_eq_some_iff.1 g3).1
      obtain ⟨q, x, e1, e2, e3⟩ := h.at_ j hjl g2
      have := Shr.below h hA hN hr n j q (by omega) g2 e2
      rw [g3] at e1
      cases e1
      have er : ren zs nd = ⟨false, nd.ans, nd.bound, (zs[nd.less.toNat]?).getD 0, (zs[nd.more.toNat]?).getD 0⟩ := by unfold ren; rw [if_neg (by simp [g4])]
      rw [er] at e3
      have hin := h.ng.inner e3
      rcases g5 with g | g
      · rw [g, hz] at hin; simp at hin; omega
      · rw [g, hz] at hin; simp at hin; omega
theorem Shr.last {nodes : List Tre.Nod} {bs : List Bool} {many : Int} {zs : List Int} {ns : List Tre.Nod} (h : Shr nodes bs many nodes.length zs ns) (hA : AskK nodes bs 0) (hN : NG nodes many) (h0 : 0 < nodes.length) : zs[nodes.length - 1]? = some ((ns.length - 1 : Nat) : Int) ∧ 0 < ns.length := by
  obtain ⟨r, nd, e1, e2, e3⟩ := h.at_ (nodes.length - 1) (by omega) hA.root
  have hrl := (List.getElem?_eq_some_iff.1 e3).1
  obtain ⟨i, h1, h2, h3⟩ := h.all (ns.length - 1) (by omega)
  have := h.below hA hN e2 (nodes.length - i) i _ (Nat.le_refl _) h2 h3
  have er : r = ns.length - 1 := by omega
  rw [er] at e2
  exact ⟨e2, by omega⟩
theorem Good.ng {f : Fst} (h : Good f) : NG f.nodes f.answers.length := ⟨h.node⟩
/-- What sharing leaves. -/
theorem Shr.same {f : Fst} (hG : Good f) {bs : List Bool} {zs : List Int} {ns : List Tre.Nod} (h : Shr f.nodes bs f.answers.length f.nodes.length zs ns) (hA : AskK f.nodes bs 0) {ys : List Ans} (hy : ys.map Ans.val = f.answers.map Ans.val) {na aa : Option Addr} {ncap acap : Nat} :
    forF ⟨na, ncap, ns, aa, acap, ys⟩ = 0 ∧ Same f ⟨na, ncap, ns, aa, acap, ys⟩ := by
  have hlen : ys.length = f.answers.length := by have := congrArg List.length hy; simpa using this
  have h1 := hG.ne
  have h2 := hG.n8
  have h3 := hG.a2
  have h4 := h.len
  obtain ⟨l1, l2⟩ := h.last hA hG.ng h1
  have hval : ∀ i : Nat, (ys[i]?).map Ans.val = (f.answers[i]?).map Ans.val := fun i => by
    rw [← List.getElem?_map, ← List.getElem?_map, hy]
  constructor
  · refine forF_0 (by show ns.length ≠ 0; omega) (by show ¬ (8000 < ns.length ∨ 2000 < ys.length); omega) (fun i hi => ?_) (fun i hi => ?_)
    · obtain ⟨y, hyi⟩ : ∃ y, ys[i]? = some y := ⟨_, List.getElem?_eq_getElem hi⟩
      rw [ansE_at hyi]
      have hv := hval i
      rw [hyi] at hv
      cases hx : f.answers[i]? with
      | none => rw [hx] at hv; simp at hv
      | some x =>
        rw [hx] at hv
        simp only [Option.map_some, Option.some.injEq] at hv
        have hg := hG.ans x (List.mem_of_getElem? hx)
        simp only [Ans.val, Prod.mk.injEq] at hv
        obtain ⟨e1, e2, e3, e4, e5⟩ := hv
        unfold Ans.fault at hg ⊢
        rw [e1, e3, e4, e5]
        exact hg
    · obtain ⟨nd, hnd⟩ : ∃ y, ns[i]? = some y := ⟨_, List.getElem?_eq_getElem hi⟩
      rw [nodE_at hnd]
      have := h.ng.node i nd hnd
      show Tre.nodF nd i (ys.length : Int) = 0
      rw [hlen]; exact this
  · refine ⟨fun t t1 t2 => ?_⟩
    have hv := h.val hA hG.ng t f.nodes.length (f.nodes.length - 1) (ns.length - 1) (by omega) hA.root l1
    rw [show ns.length - 1 + 1 = ns.length by omega, show f.nodes.length - 1 + 1 = f.nodes.length by omega] at hv
    have he : evalI ⟨na, ncap, ns, aa, acap, ys⟩ t = evalI f t := by unfold evalI; simp only; rw [hv]
    obtain ⟨x, hx⟩ : ∃ x, f.answers[evalI f t]? = some x := ⟨_, List.getElem?_eq_getElem (hG.evalI_lt t).1⟩
    have hv := hval (evalI f t)
    rw [hx] at hv
    cases hyi : ys[evalI f t]? with
    | none => rw [hyi] at hv; simp at hv
    | some y =>
      rw [hyi] at hv
      simp only [Option.map_some, Option.some.injEq] at hv
      exact ⟨y, x, by rw [he]; exact hyi, hx, hv⟩
end Go.Proofs.YtcpmbjlhblkniaaDoor
namespace Go.Proofs.YtcpmbjlhblkniaaDoor
open Go.ChangeShapes Go.WideShapes Go.ChangeAt Go.RowKit Go.Maps
set_option linter.unusedVariables false
set_option maxRecDepth 100000
def boolC (bs : List Bool) : Array Value := (bs.map Value.bool).toArray
theorem boolC_at {bs : List Bool} {i : Nat} {b : Bool} (h : bs[i]? = some b) : (boolC bs)[i]? = some (.bool b) := by simp [boolC, h]
theorem boolC_set (bs : List Bool) (i : Nat) : (boolC bs).setIfInBounds i (.bool true) = boolC (bs.set i true) := by
  simp [boolC, List.map_set]
theorem Tryd.infoBool : ∃ i, Tryd.prog.info? 4 = some i ∧ i.zero = some (.bool false) ∧ i.size = 1 ∧ i.bytes = 1 :=
  ⟨_, rfl, by kernel_rfl, by kernel_rfl, by kernel_rfl⟩
set_option maxHeartbeats 3200000 in
theorem askedOf_any (a : Option Addr) (cap : Nat) (nodes : List Tre.Nod) (w : World) (hN : FivesAt w a nodes Nod.cells) (h0 : 0 < nodes.length) (h8 : nodes.length ≤ 8000) (hc : nodes.length ≤ cap) (hD : Down nodes) (hok : ∀ n ∈ nodes, NodOk n) :
    Calls Tryd.prog 60 #[.slice a nodes.length cap] w fun e w' => ∃ (ab : Nat) (bs : List Bool), e = .returned (.slice (some ⟨ab, 0, none⟩) nodes.length nodes.length) ∧ w'.heap[ab]? = some (.cells (boolC bs) 4) ∧ w.heap.size ≤ ab ∧ AskK nodes bs 0 ∧ Gr w w' := by
  obtain ⟨i0, hi, hi1, hi2, hi3⟩ := Tryd.infoBool
  have hmk : ∀ W : World, (Instr.makeSlice 127 (.int .i64 (nodes.length : Int)) (.int .i64 (nodes.length : Int))).run Tryd.prog W = .ok (.slice (some ⟨W.heap.size, 0, none⟩) nodes.length nodes.length) (W.alloc (.cells (boolC (List.replicate nodes.length false)) 4)) := fun W => by
    have := run_makeSlice (P := Tryd.prog) W 127 4 i0 _ Tryd.underlying127 hi hi1 .i64 .i64 (nodes.length : Int) (nodes.length : Int) (by omega) (Int.le_refl _) (by rw [hi2]; simp; omega) (by rw [hi3]; omega) (by omega)
    rw [hi2] at this
    rw [show boolC (List.replicate nodes.length false) = madeCells #[.bool false] nodes.length from by
      apply Array.ext
      · simp [boolC, madeCells]
      · intro i h1 h2
        simp [boolC, madeCells, Nat.mod_one]]
    simpa [Value.cells] using this
  have HD : Hid _ := hD
  have hwr : IntKind.i64.wrap ((nodes.length : Int) - 1) = (nodes.length : Int) - 1 := IntWalk.i64_in _ ⟨by omega, by omega⟩
  have i3 : ((nodes.length : Int) - 1).toNat = nodes.length - 1 := by omega
  have i1 : (nodes.length : Int) - 1 < (nodes.length : Int) := by omega
  have i2 : (0 : Int) ≤ (nodes.length : Int) - 1 := by omega
  have i5 : nodes.length - 1 < nodes.length := by omega
  go_enter Tryd.func60, Tryd.ntmps60
  go_upto_region 2 with fail
  obtain ⟨W0, hW0⟩ : ∃ W0, W0 = w.alloc (.cells (boolC (List.replicate nodes.length false)) 4) := ⟨_, rfl⟩
  rw [← hW0]
  have r0 : W0.heap[w.heap.size]? = some (.cells (boolC (List.replicate nodes.length false)) 4) := by rw [hW0]; exact heapA _ _
  have g0 : Gr w W0 := by rw [hW0]; exact (Gr.refl w).alloc _
  have z0 : w.heap.size < W0.heap.size := by rw [hW0]; simp
  clear hW0 hmk
  have c0 := (row_all r0).1 (nodes.length - 1)
  have f0 := (row_all r0).2
  rw [boolC_at (b := false) (by rw [List.getElem?_replicate, if_pos i5])] at c0
  have r1 := heap_setCell_same W0 w.heap.size (nodes.length - 1) _ _ (.bool true) r0
  rw [boolC_set] at r1
  have g1 : Gr w (W0.setCell ⟨w.heap.size, nodes.length - 1, none⟩ (.bool true)) := g0.setCell (Nat.le_refl _) _
  have R1 : Hid _ := r1
  have G1 : Hid _ := g1
  clear r0 g0 r1 g1
  go_wp2_with fail
  go_loopw [4] (fun t wr => ∃ (k : Nat) (bs : List Bool), k ≤ nodes.length ∧ t = .int .i64 ((k : Int) - 1) ∧ AskK nodes bs k ∧ wr.heap[w.heap.size]? = some (.cells (boolC bs) 4) ∧ Gr w wr) (fun t _ => (intOf t + 1).toNat)
  case atStart => exact ⟨nodes.length, _, Nat.le_refl _, rfl, AskK.start h0, R1.out, G1.out⟩
  case round =>
    obtain ⟨k, bs, hk, rfl, hA, hrow, hgr⟩ := hrel
    match k with
    | 0 =>
      go_wp2
      go_ret
      exact ⟨w.heap.size, bs, rfl, hrow, Nat.le_refl _, hA, hgr⟩
    | k + 1 =>
      have hk1 : ((k + 1 : Nat) : Int) - 1 = (k : Int) := by omega
      obtain ⟨nd, hnd⟩ : ∃ x, nodes[k]? = some x := ⟨_, List.getElem?_eq_getElem (by omega)⟩
      obtain ⟨bk, hbk⟩ : ∃ x, bs[k]? = some x := ⟨_, List.getElem?_eq_getElem (by rw [hA.len]; omega)⟩
      have hno := hok _ (List.mem_of_getElem? hnd)
      obtain ⟨b, o, rfl, hb, hcc⟩ := (hN.gr hgr).cell k nd hnd
      obtain ⟨q0, q1, q2, q3, q4⟩ := hcc
      have HND : Hid _ := hnd
      have HBK : Hid _ := hbk
      have hz := hA.len
      have zr : w.heap.size < wr.heap.size := (Array.getElem?_eq_some_iff.1 hrow).1
      have ck := (row_all hrow).1 k
      have fr := (row_all hrow).2
      rw [boolC_at hbk] at ck
      have i6 : (k : Int) < (nodes.length : Int) := by omega
      have i7 : k < nodes.length := by omega
      have hwk : IntKind.i64.wrap ((k : Int) - 1) = (k : Int) - 1 := IntWalk.i64_in _ ⟨by omega, by omega⟩
      have HA : Hid _ := hA
      have HROW : Hid _ := hrow
      have HGR : Hid _ := hgr
      have HNO : Hid _ := hno
      rw [hk1]
      obtain ⟨leaf, an, bo, le, mo⟩ := nd
      simp [Nod.cells] at q0 q1 q2 q3 q4
      clear hnd hbk hA hrow hgr hno
      cases bk with
      | false =>
        go_wp2_with fail
        go_roundw
        case rel => exact ⟨k, bs, by omega, rfl, HA.out.skip HND.out (Or.inl HBK.out), (((Gr.refl wr).alloc _).block _ zr).trans HROW.out, HGR.out.alloc _⟩
        case measure => simp [intOf]
      | true =>
        cases leaf with
        | true =>
          go_wp2_with fail
          go_roundw
          case rel => exact ⟨k, bs, by omega, rfl, HA.out.skip HND.out (Or.inr rfl), (((Gr.refl wr).alloc _).block _ zr).trans HROW.out, HGR.out.alloc _⟩
          case measure => simp [intOf]
        | false =>
          have hin := HD.out.less k _ HND.out rfl
          simp only at hin
          have j1 : le < (nodes.length : Int) := by omega
          have j2 : mo < (nodes.length : Int) := by omega
          have j3 : (0 : Int) ≤ le := hin.1
          have j4 : (0 : Int) ≤ mo := hin.2.2.1
          have j5 : le.toNat < nodes.length := by omega
          have j6 : mo.toNat < nodes.length := by omega
          obtain ⟨vl, hvl⟩ : ∃ x, bs[le.toNat]? = some x := ⟨_, List.getElem?_eq_getElem (by omega)⟩
          obtain ⟨vm, hvm⟩ : ∃ x, bs[mo.toNat]? = some x := ⟨_, List.getElem?_eq_getElem (by omega)⟩
          go_upto_region 8 with fail
          obtain ⟨W, hW⟩ : ∃ W, W = wr.alloc (Obj.cells #[.bool false, .int .i64 an, .int .i64 bo, .int .i64 le, .int .i64 mo] 65) := ⟨_, rfl⟩
          rw [← hW]
          have kn : W.heap[wr.heap.size]? = some (.cells #[.bool false, .int .i64 an, .int .i64 bo, .int .i64 le, .int .i64 mo] 65) := by rw [hW]; exact heapA _ _
          have gW : Gr wr W := by rw [hW]; exact (Gr.refl _).alloc _
          clear hW fr ck
          have kr := (gW.block _ zr).trans HROW.out
          have cl := (row_all kr).1 le.toNat
          have cm := (row_all kr).1 mo.toNat
          have fr := (row_all kr).2
          rw [boolC_at hvl] at cl
          rw [boolC_at hvm] at cm
          have hne : w.heap.size ≠ wr.heap.size := by omega
          have HKR : Hid _ := kr
          have HGW : Hid _ := gW
          have hO : W.cell? ⟨wr.heap.size, 3, none⟩ = some (.int .i64 le) ∧ W.cell? ⟨wr.heap.size, 4, none⟩ = some (.int .i64 mo) := ⟨(row_all kn).1 3, (row_all kn).1 4⟩
          clear kr gW kn hvl hvm hin
          have hfin : ∀ W' : World, (∀ x : Nat, W'.heap[x]? = ((W.setCell ⟨w.heap.size, le.toNat, none⟩ (.bool true)).setCell ⟨w.heap.size, mo.toNat, none⟩ (.bool true)).heap[x]?) → W'.heap[w.heap.size]? = some (.cells (boolC ((bs.set le.toNat true).set mo.toNat true)) 4) := fun W' hW' => by
            have k1 := heap_setCell_same _ w.heap.size mo.toNat _ _ (.bool true) (heap_setCell_same W w.heap.size le.toNat _ _ (.bool true) HKR.out)
            rw [boolC_set, boolC_set] at k1
            rw [hW']; exact k1
          have HFIN : Hid _ := hfin
          clear hfin
          by_cases hlm : le = mo
          · subst hlm
            clear cm
            go_region_held3 (fun w' => w'.cell? ⟨wr.heap.size, 3, none⟩ = some (.int .i64 le) ∧ w'.cell? ⟨wr.heap.size, 4, none⟩ = some (.int .i64 le)) (first | with_reducible exact hO | (simpa [go_sem, hne, Ne.symm hne] using hO)) (fail)
            go_wp2_with fail
            go_roundw
            case rel => exact ⟨k, _, by omega, rfl, HA.out.step HD.out HND.out HBK.out rfl, HFIN.out _ (fun _ => rfl), by repeat (with_reducible first | exact HGR.out.trans HGW.out | refine Gr.drew ?_ | refine Gr.setCell ?_ (Nat.le_refl _) _)⟩
            case measure => simp [intOf]
          · have hne2 : le.toNat ≠ mo.toNat := by omega
            go_region_held3 (fun w' => w'.cell? ⟨wr.heap.size, 3, none⟩ = some (.int .i64 le) ∧ w'.cell? ⟨wr.heap.size, 4, none⟩ = some (.int .i64 mo)) (first | with_reducible exact hO | (simpa [go_sem, hne, Ne.symm hne] using hO)) (fail)
            go_wp2_with fail
            go_roundw
            case rel => exact ⟨k, _, by omega, rfl, HA.out.step HD.out HND.out HBK.out rfl, HFIN.out _ (fun _ => rfl), by repeat (with_reducible first | exact HGR.out.trans HGW.out | refine Gr.drew ?_ | refine Gr.setCell ?_ (Nat.le_refl _) _)⟩
            case measure => simp [intOf]
end Go.Proofs.YtcpmbjlhblkniaaDoor
namespace Go.Proofs.YtcpmbjlhblkniaaDoor
open Go.ChangeShapes Go.WideShapes Go.ChangeAt Go.RowKit Go.Maps
set_option linter.unusedVariables false
set_option maxRecDepth 100000
theorem FinN.cg {w w' : World} {kb mb lb M base pb : Nat} {v : Value} {ns : List Tre.Nod} {D : DataW Unit} {cs : Array Value} (h : FinN w kb mb lb M base v ns D) (hc : Cg pb w w') (ht : w.heap[pb]? = some (.cells cs 3)) : FinN w' kb mb lb M base v ns D := by
  have hs := h.size
  have hlt : ∀ {b o}, w.heap[b]? = some o → b < w.heap.size := fun e => (Array.getElem?_eq_some_iff.1 e).1
  have hk : kb ≠ pb := fun e => by have := h.kbox; rw [e, ht] at this; cases this
  have hm : mb ≠ pb := fun e => by have := h.mbox; rw [e, ht] at this; cases this
  have hl : lb ≠ pb := fun e => by have := h.lbox; rw [e, ht] at this; cases this
  have hM : M ≠ pb := fun e => by
    obtain ⟨es, cl, h1, _⟩ := h.map
    rw [e, ht] at h1; cases h1
  refine ⟨(hc.block kb (hlt h.kbox) hk).trans h.kbox, (hc.block mb (hlt h.mbox) hm).trans h.mbox, (hc.block lb (hlt h.lbox) hl).trans h.lbox, owns_same h.row fun g hg => hc.block g (owns_lt h.row hg).2 (fun e => ?_), owns_map_sameA h.map (hc.block M (by have := h.M1; omega) hM), h.isMap, h.ok, h.has, h.at_, h.nodup, h.k1, h.m1, h.l1, h.M1, h.ne1, h.ne2, Nat.le_trans hs hc.size⟩
  obtain ⟨cur, hr⟩ := owns_typed h.row hg
  rw [e, ht] at hr; cases hr
theorem FinN.rebase2 {w : World} {kb mb lb M base b2 : Nat} {D : DataW Unit} (h : FinN w kb mb lb M base (.slice none 0 0) [] D) (h1 : base ≤ b2) (h2 : b2 ≤ w.heap.size) : FinN w kb mb lb M b2 (.slice none 0 0) [] D :=
  ⟨h.kbox, h.mbox, h.lbox, ⟨h.row.1, Or.inl ⟨rfl, rfl⟩⟩, h.map, h.isMap, h.ok, h.has, h.at_, h.nodup, Nat.lt_of_lt_of_le h.k1 h1, Nat.lt_of_lt_of_le h.m1 h1, Nat.lt_of_lt_of_le h.l1 h1, Nat.lt_of_lt_of_le h.M1 h1, h.ne1, h.ne2, h2⟩
theorem Gr.fgN {base M lb : Nat} {w1 w w' : World} (h : Gr w1 w) (g : Fg base M lb w w') (h1 : w1.heap.size ≤ base) (h2 : w1.heap.size ≤ M) (h3 : w1.heap.size ≤ lb) : Gr w1 w' :=
  ⟨g.os.trans h.os, g.out.trans h.out, Nat.le_trans h.size g.size, fun b hb => (g.block b (by omega) (by omega) (by omega)).trans (h.block b hb)⟩
theorem name_exit {C : Exit → Act → World → Prop} {x : Exit} {a : Act} (w : World) (h : ∀ W, W = w → C x a W) : C x a w := h w rfl
def intC (zs : List Int) : Array Value := (zs.map fun z => Value.int .i64 z).toArray
theorem intC_at {zs : List Int} {i : Nat} {z : Int} (h : zs[i]? = some z) : (intC zs)[i]? = some (.int .i64 z) := by simp [intC, h]
theorem intC_set (zs : List Int) (i : Nat) (z : Int) : (intC zs).setIfInBounds i (.int .i64 z) = intC (zs.set i z) := by
  simp [intC, List.map_set]
theorem Tryd.infoIntS : ∃ i, Tryd.prog.info? 3 = some i ∧ i.zero = some (.int .i64 0) ∧ i.size = 1 ∧ i.bytes = 8 :=
  ⟨_, rfl, by kernel_rfl, by kernel_rfl, by kernel_rfl⟩
set_option maxHeartbeats 3200000 in
theorem share_any (f : Fst) (w : World) (hf : FstOk w f) (hG : Good f) :
    Calls Tryd.prog 32 #[.agg f.cells.toArray] w fun e w' => ∃ g : Fst, e = .returned (.agg g.cells.toArray) ∧ Made false true false f g w w' := by
  have hfa := hf.acap
  have hfn := hf.ncap
  have HFO : Hid _ := hf
  have HG : Hid _ := hG
  have g1 := hG.ne
  have g2 := hG.n8
  have g3 := hG.a2
  have HF : Hid _ := fun W => finder_any W
  have HAS : Hid _ := fun W (hg : Gr w W) => askedOf_any f.na f.ncap f.nodes W (hf.nat.gr hg) hG.ne hG.n8 hf.ncap hG.down hf.nok
  clear hG hf
  obtain ⟨na, ncap, nodes, aa, acap, answers⟩ := f
  simp only at g1 g2 g3 hfa hfn HAS
  obtain ⟨i0, hi, hi1, hi2, hi3⟩ := Tryd.infoIntS
  have hmk : ∀ W : World, (Instr.makeSlice 24 (.int .i64 (nodes.length : Int)) (.int .i64 (nodes.length : Int))).run Tryd.prog W = .ok (.slice (some ⟨W.heap.size, 0, none⟩) nodes.length nodes.length) (W.alloc (.cells (intC (List.replicate nodes.length 0)) 3)) := fun W => by
    have := run_makeSlice (P := Tryd.prog) W 24 3 i0 _ Tryd.underlying24 hi hi1 .i64 .i64 (nodes.length : Int) (nodes.length : Int) (by omega) (Int.le_refl _) (by rw [hi2]; simp; omega) (by rw [hi3]; omega) (by omega)
    rw [hi2] at this
    rw [show intC (List.replicate nodes.length 0) = madeCells #[.int .i64 0] nodes.length from by
      apply Array.ext
      · simp [intC, madeCells]
      · intro i h1 h2
        simp [intC, madeCells, Nat.mod_one]]
    simpa [Value.cells] using this
  simp only [Fst.cells]
  go_enter Tryd.func32, Tryd.ntmps32
  go_wp2_with fail
  refine (HAS.out _ (by repeat (with_reducible first | exact Gr.refl _ | refine Gr.drew ?_ | refine Gr.alloc ?_ _))).mono ?_
  rintro e w1 ⟨ab, bs, rfl, hbs, hab, hA, hg1⟩
  have hgw1 : Gr w w1 := (((Gr.refl _).alloc _).alloc _).trans hg1
  have k1 : w1.heap[w.heap.size]? = some (.cells #[.slice na nodes.length ncap, .slice aa answers.length acap] 42) := (hg1.block w.heap.size (by simp; omega)).trans (heapB w _ _)
  have k2 : w1.heap[w.heap.size + 1]? = some (.cells #[.slice none 0 0, .slice none 0 0] 42) := (hg1.block (w.heap.size + 1) (by simp)).trans (heapC w _ _)
  have zab : ab < w1.heap.size := (Array.getElem?_eq_some_iff.1 hbs).1
  have z1 : w.heap.size + 1 < w1.heap.size := (Array.getElem?_eq_some_iff.1 k2).1
  clear hg1 hab
  go_wp2_with fail
  refine (HF.out _).mono ?_
  rintro e w2 ⟨kb, mb, lb, M, base, rfl, hFA, hkb, hlb, hM, hbase, hg2⟩
  have K1 : Hid _ := (hg2.block _ (by omega)).trans k1
  have K2 : Hid _ := (hg2.block _ z1).trans k2
  have HGW : Hid _ := hgw1.trans hg2
  have KB : Hid _ := (hg2.block _ zab).trans hbs
  have HA : Hid _ := hA
  have z2 := hg2.size
  obtain ⟨c1, f1⟩ := row_all K1.out
  have HGW1 : Hid _ := hgw1
  have HBS : Hid _ := hbs
  have K11 : Hid _ := k1
  have K12 : Hid _ := k2
  clear k1 k2 hbs hA hgw1
  go_upto_region 4 with fail
  obtain ⟨W0, hW0⟩ : ∃ W0, W0 = w2.alloc (.cells (intC (List.replicate nodes.length 0)) 3) := ⟨_, rfl⟩
  rw [← hW0]
  have gA2 : Gr w2 W0 := by rw [hW0]; exact (Gr.refl _).alloc _
  have KP : Hid _ := (show W0.heap[w2.heap.size]? = some (.cells (intC (List.replicate nodes.length 0)) 3) from by rw [hW0]; exact heapA _ _)
  have zW0 : W0.heap.size = w2.heap.size + 1 := by rw [hW0]; simp
  clear hW0 hmk c1 f1
  have zf : w.heap.size < w2.heap.size := (Array.getElem?_eq_some_iff.1 K1.out).1
  obtain ⟨c1, f1⟩ := row_all ((gA2.block _ zf).trans K1.out)
  have ST : Hid _ := (hFA.gr gA2).rebase2 (by omega) (by omega : w2.heap.size + 1 ≤ W0.heap.size)
  have HG0 : Hid _ := hg2.trans gA2
  go_wp2_with fail
  have hM2 : M < w2.heap.size := Nat.lt_of_lt_of_le hFA.M1 hbase
  have hl2 : lb < w2.heap.size := Nat.lt_of_lt_of_le hFA.l1 hbase
  clear c1 f1 hFA
  go_loopw [23] (fun t wr => ∃ (k : Nat) (zs : List Int) (v : Value) (ns : List Tre.Nod) (D : DataW Unit), k ≤ nodes.length ∧ t = .int .i64 k ∧ Gr w1 wr ∧ FinN wr kb mb lb M (w2.heap.size + 1) v ns D ∧ wr.heap[w2.heap.size]? = some (.cells (intC zs) 3) ∧ Shr nodes bs answers.length k zs ns) (fun t _ => nodes.length - (intOf t).toNat)
  case atStart => exact ⟨0, _, _, [], _, Nat.zero_le _, rfl, HG0.out, ST.out, KP.out, Shr.start⟩
  case round =>
    obtain ⟨k, zs, v, ns, D, hk, rfl, hgr, hF, hrow, hS⟩ := hrel
    by_cases hlt : k < nodes.length
    · obtain ⟨nd, hnd⟩ : ∃ x, nodes[k]? = some x := ⟨_, List.getElem?_eq_getElem hlt⟩
      obtain ⟨bk, hbk⟩ : ∃ x, bs[k]? = some x := ⟨_, List.getElem?_eq_getElem (by rw [HA.out.len]; omega)⟩
      have hgw : Gr w wr := HGW1.out.trans hgr
      obtain ⟨b, o, rfl, hb, hcc⟩ := (HFO.out.nat.gr hgw).cell k nd hnd
      obtain ⟨q0, q1, q2, q3, q4⟩ := hcc
      have hno := HFO.out.nok nd (List.mem_of_getElem? hnd)
      have kas := (hgr.block ab zab).trans HBS.out
      have cas := (row_all kas).1 k
      have fas := (row_all kas).2
      rw [boolC_at hbk] at cas
      have zr : w2.heap.size < wr.heap.size := (Array.getElem?_eq_some_iff.1 hrow).1
      have i6 : (k : Int) < (nodes.length : Int) := by omega
      have HND : Hid _ := hnd
      have HBK : Hid _ := hbk
      have HGR : Hid _ := hgr
      have HFF : Hid _ := hF
      have HROW : Hid _ := hrow
      have HS : Hid _ := hS
      have HNO : Hid _ := hno
      have hzl := hS.zl
      have hnl := hS.len
      obtain ⟨leaf, an, bo, le, mo⟩ := nd
      simp [Nod.cells] at q0 q1 q2 q3 q4
      have z3 : ab < wr.heap.size := Nat.lt_of_lt_of_le zab hgr.size
      clear hnd hbk hgr hF hrow hS hno kas hgw
      cases bk with
      | false =>
        go_wp2_with fail
        go_roundw
        case rel => exact ⟨k + 1, zs, v, ns, D, by omega, by go_num, HGR.out.alloc _, HFF.out.gr ((Gr.refl _).alloc _), (((Gr.refl wr).alloc _).block _ zr).trans HROW.out, HS.out.skip (by rw [HBK.out]; simp)⟩
        case measure => simp [intOf]; omega
      | true =>
        cases leaf with
        | true =>
          obtain ⟨zk, hzk⟩ : ∃ x, zs[k]? = some x := ⟨_, List.getElem?_eq_getElem (by omega)⟩
          have HPL : Hid _ := fun W (h : FinN W kb mb lb M (w2.heap.size + 1) v ns D) => place_any kb mb lb M (w2.heap.size + 1) v ns D ⟨true, an, bo, le, mo⟩ W h HNO.out (by omega)
          simp only [Nod.cells] at HPL
          go_upto_region 8 with fail
          obtain ⟨WX, hWX⟩ : ∃ WX, WX = wr.alloc (Obj.cells #[.bool true, .int .i64 an, .int .i64 bo, .int .i64 le, .int .i64 mo] 65) := ⟨_, rfl⟩
          rw [← hWX]
          have kn : WX.heap[wr.heap.size]? = some (.cells #[.bool true, .int .i64 an, .int .i64 bo, .int .i64 le, .int .i64 mo] 65) := by rw [hWX]; exact heapA _ _
          have gX : Gr wr WX := by rw [hWX]; exact (Gr.refl _).alloc _
          clear hWX cas fas
          have KX := (gX.block _ zr).trans HROW.out
          have HGX : Hid _ := gX
          obtain ⟨cn, fn⟩ := row_all kn
          clear gX kn
          go_wp2_with (go_at_call 79; refine (HPL.out _ (HFF.out.gr (by exact HGX.out))).mono ?_; rintro e w5 ⟨i5, v5, n5, D5, rfl, hi5, hor5, hF5, hg5⟩; have k5 := (hg5.block w2.heap.size (by omega) (by omega) (by omega)).trans KX; have c5 := (row_all k5).1 k; have f5 := (row_all k5).2; rw [intC_at hzk] at c5)
          go_roundw
          case rel =>
            have hg5' : Fg (w2.heap.size + 1) M lb WX w5 := ⟨hg5.os, hg5.out, hg5.size, hg5.block⟩
            have cg5 : Cg w2.heap.size w5 (w5.setCell ⟨w2.heap.size, k, none⟩ (.int .i64 (i5 : Int))) := (Cg.ofGr (Gr.refl _)).setCell _ _
            have k6 := heap_setCell_same w5 w2.heap.size k _ _ (.int .i64 (i5 : Int)) k5
            rw [intC_set] at k6
            exact ⟨k + 1, _, v5, n5, D5, by omega, by go_num, ((HGR.out.trans HGX.out).fgN hg5' (by omega) hM hlb).setCell z2 _, hF5.cg cg5 k5, k6, HS.out.step HA.out HG.out.ng HND.out HBK.out (hi5) (hor5) hF5.nodup⟩
          case measure => simp [intOf]; omega
        | false =>
          obtain ⟨zk, hzk⟩ : ∃ x, zs[k]? = some x := ⟨_, List.getElem?_eq_getElem (by omega)⟩
          have hin := HG.out.ng.down.less k _ HND.out rfl
          simp only at hin
          obtain ⟨hnf, hpq⟩ := HS.out.fits HA.out HG.out.ng HND.out HBK.out
          obtain ⟨p, q, hp, hq, lp, lq, hren⟩ := hpq rfl
          simp only at hp hq hren
          have h4 := HG.out.n8
          simp only at h4
          have HNR : Hid _ := (show NodOk ⟨false, an, bo, p, q⟩ from ⟨HNO.out.ans, HNO.out.bound, WalkArith.wf_i64 ⟨by simp only; omega, by simp only; omega⟩, WalkArith.wf_i64 ⟨by simp only; omega, by simp only; omega⟩⟩)
          have HPL : Hid _ := fun W (h : FinN W kb mb lb M (w2.heap.size + 1) v ns D) => place_any kb mb lb M (w2.heap.size + 1) v ns D ⟨false, an, bo, p, q⟩ W h HNR.out (by omega)
          simp only [Nod.cells] at HPL
          have HREN : Hid _ := hren
          have j1 : le < (nodes.length : Int) := by omega
          have j2 : mo < (nodes.length : Int) := by omega
          have j3 : (0 : Int) ≤ le := hin.1
          have j4 : (0 : Int) ≤ mo := hin.2.2.1
          have j5 : le.toNat < nodes.length := by omega
          have j6 : mo.toNat < nodes.length := by omega
          go_upto_region 9 with fail
          obtain ⟨WX, hWX⟩ : ∃ WX, WX = wr.alloc (Obj.cells #[.bool false, .int .i64 an, .int .i64 bo, .int .i64 le, .int .i64 mo] 65) := ⟨_, rfl⟩
          rw [← hWX]
          have kn : WX.heap[wr.heap.size]? = some (.cells #[.bool false, .int .i64 an, .int .i64 bo, .int .i64 le, .int .i64 mo] 65) := by rw [hWX]; exact heapA _ _
          have gX : Gr wr WX := by rw [hWX]; exact (Gr.refl _).alloc _
          clear hWX cas fas hin hpq hren
          have KX := (gX.block _ zr).trans HROW.out
          have HGX : Hid _ := gX
          have HKN : Hid _ := kn
          obtain ⟨cn, fn⟩ := row_all kn
          have cp := (row_all KX).1 le.toNat
          have cq := (row_all KX).1 mo.toNat
          have hne : wr.heap.size ≠ w2.heap.size := by omega
          rw [intC_at hp] at cp
          rw [intC_at hq] at cq
          have cn3 := cn 3
          have cn4 := cn 4
          simp at cn3 cn4
          clear gX cn
          have kn2 := heap_setCell_same _ wr.heap.size 4 _ _ (.int .i64 (q : Int)) (heap_setCell_same WX wr.heap.size 3 _ _ (.int .i64 (p : Int)) kn)
          simp at kn2
          have KN2 : Hid _ := kn2
          clear kn2 kn
          go_region
          refine name_exit _ (fun WY hWY => ?_)
          have gY : Gr wr WY := by rw [hWY]; exact ((HGX.out.setCell (p := ⟨wr.heap.size, 3, none⟩) (Nat.le_refl _) _).setCell (p := ⟨wr.heap.size, 4, none⟩) (Nat.le_refl _) _).drew
          have kY : WY.heap[wr.heap.size]? = some (.cells #[.bool false, .int .i64 an, .int .i64 bo, .int .i64 p, .int .i64 q] 65) := by rw [hWY]; exact KN2.out
          have HGY : Hid _ := gY
          have KY := (gY.block _ zr).trans HROW.out
          have cY := (row_all kY).1
          clear hWY KX cp cq cn3 cn4 fn kY gY
          go_wp2_with (go_at_call 79; refine (HPL.out _ (HFF.out.gr (by exact HGY.out))).mono ?_; rintro e w5 ⟨i5, v5, n5, D5, rfl, hi5, hor5, hF5, hg5⟩; have k5 := (hg5.block w2.heap.size (by omega) (by omega) (by omega)).trans KY; have c5 := (row_all k5).1 k; have f5 := (row_all k5).2; rw [intC_at hzk] at c5)
          go_roundw
          case rel =>
            have hg5' : Fg (w2.heap.size + 1) M lb WY w5 := ⟨hg5.os, hg5.out, hg5.size, hg5.block⟩
            have cg5 : Cg w2.heap.size w5 (w5.setCell ⟨w2.heap.size, k, none⟩ (.int .i64 (i5 : Int))) := (Cg.ofGr (Gr.refl _)).setCell _ _
            have k6 := heap_setCell_same w5 w2.heap.size k _ _ (.int .i64 (i5 : Int)) k5
            rw [intC_set] at k6
            exact ⟨k + 1, _, v5, n5, D5, by omega, by go_num, ((HGR.out.trans HGY.out).fgN hg5' (by omega) hM hlb).setCell z2 _, hF5.cg cg5 k5, k6, HS.out.step HA.out HG.out.ng HND.out HBK.out (by rw [HREN.out]; exact hi5) (by rw [HREN.out]; exact hor5) hF5.nodup⟩
          case measure => simp [intOf]; omega
    · have hk' : k = nodes.length := by omega
      have hgw := HGW1.out.trans hgr
      have hnl := hS.len
      obtain ⟨nga, ngcap, hav⟩ : ∃ a c, v = .slice a ns.length c := row_form hF.row
      subst hav
      have K6 := (hgr.block _ z1).trans K12.out
      have kf := (hgr.block _ (by omega : w.heap.size < w1.heap.size)).trans K11.out
      have hO : wr.cell? ⟨w.heap.size, 1, none⟩ = some (.slice aa answers.length acap) := (row_all kf).1 1
      have z4 : w.heap.size + 1 < wr.heap.size := Nat.lt_of_lt_of_le z1 hgr.size
      have HCO : Hid _ := fun W (hg : Gr wr W) => copies_any aa acap answers W ((HFO.out.aat.gr hgw).gr hg) (fun y hy => ⟨((HFO.out.aok y hy).gr hgw).gr hg, by have := (fault_small (HG.out.ans y hy)).1; omega, by have := (fault_small (HG.out.ans y hy)).2; omega⟩) (by omega)
      have HFE : Hid _ := hF
      have HS : Hid _ := hS
      have HGWE : Hid _ := hgw
      have HK6 : Hid _ := K6
      have HK' : Hid _ := hk'
      clear hF hS hgw hgr hrow K6 kf hk'
      go_upto_region 12 with fail
      go_region_held3 (fun w' => w'.cell? ⟨w.heap.size, 1, none⟩ = some (.slice aa answers.length acap)) (first | with_reducible exact hO | (simpa [go_sem] using hO))
        (first
          | (go_at_call 80; refine (listed_any kb mb lb M (w2.heap.size + 1) _ ns D _ (HFE.out.gr (by repeat (with_reducible first | exact Gr.refl _ | refine Gr.drew ?_)))).mono ?_; rintro e w4 ⟨rfl, hw4⟩; subst w4)
          | (go_at_call 34; refine (HCO.out _ (by repeat (with_reducible first | exact Gr.refl _ | refine Gr.drew ?_))).mono ?_; rintro e w6 ⟨ob, ys, rfl, hyl, hyv, hyf, hyok, hob, hg6x⟩
             have hg6 : Gr wr w6 := ⟨hg6x.os, hg6x.out, hg6x.size, hg6x.block⟩
             replace hO : w6.cell? ⟨w.heap.size, 1, none⟩ = some (.slice aa answers.length acap) := (hg6.cell _ _ (by omega)).trans hO
             have k6 := (hg6.block (w.heap.size + 1) z4).trans HK6.out
             have c6 := (row_all k6).1
             have f6 := (row_all k6).2
             clear hg6x))
      have hgr6 := HGWE.out.trans hg6
      have HY : Hid _ := fun (_ : Unit) => And.intro hyv (And.intro hyf (And.intro hyok (And.intro hg6 hgr6)))
      have HYL : Hid _ := hyl
      clear hyv hyf hyok hg6 hgr6 hyl
      go_wp2_with fail
      obtain ⟨hyv, hyf, hyok, hg6, hgr6⟩ := HY.out ()
      have hyl := HYL.out
      have hS := HS.out
      rw [HK'.out] at hS
      obtain ⟨na', ncap', hne, hncap, hnmx, hnfive⟩ := owns_fivesV (fun _ => rfl) (owns_gr HFE.out.row hg6)
      cases hne
      obtain ⟨fg1, fg2⟩ := Shr.same (f := ⟨na, ncap, nodes, aa, acap, answers⟩) HG.out hS HA.out hyv (na := nga) (ncap := ngcap) (aa := some ⟨ob, 0, none⟩) (acap := answers.length)
      have hfst : FstOk w6 ⟨nga, ngcap, ns, some ⟨ob, 0, none⟩, answers.length, ys⟩ := ⟨hncap, by show ys.length ≤ answers.length; omega, hnfive, HFE.out.ok, hyf, hyok⟩
      refine bodyPost_ret (v := .agg (Fst.cells ⟨nga, ngcap, ns, some ⟨ob, 0, none⟩, answers.length, ys⟩).toArray) (by simp [results, Tryd.results32, go_sem, c6, Fst.cells, hyl]) rfl ⟨_, rfl, hfst.but ⟨⟨_, k6⟩⟩ (but2 _ _ _ _), fg1, fg2, ?_, fun h => (by cases h), fun h => (by cases h), fun _ => HFE.out.nodup, fun h => (by cases h), hS.len⟩
      repeat (with_reducible first | exact hgr6 | refine Gr.setCell ?_ (by simp) _)
end Go.Proofs.YtcpmbjlhblkniaaDoor
namespace Go.Proofs.YtcpmbjlhblkniaaDoor
open Go.ChangeShapes Go.WideShapes Go.ChangeAt Go.RowKit Go.Maps
set_option linter.unusedVariables false
set_option maxRecDepth 100000
theorem nodL_len (l : List Tre.Nod) : (nodL l).length = l.length * 5 := by
  unfold nodL
  induction l with
  | nil => rfl
  | cons x l ih => rw [List.flatMap_cons, List.length_append, ih]; simp [Nod.cells]; omega
theorem news_nodes {w : World} {b o : Nat} {l : List Tre.Nod} (h : FivesAt w (some ⟨b, o, none⟩) l Nod.cells) : ∀ j u, (nodL l)[j]? = some u → w.cell? ⟨b, o + j, none⟩ = some u := by
  intro j u hu
  have hj := (List.getElem?_eq_some_iff.1 hu).1
  rw [nodL_len] at hj
  obtain ⟨i, r, rfl, hr⟩ : ∃ i r, j = i * 5 + r ∧ r < 5 := ⟨j / 5, j % 5, by omega, by omega⟩
  obtain ⟨x, hx⟩ : ∃ x, l[i]? = some x := ⟨_, List.getElem?_eq_getElem (by omega)⟩
  have hf := flat5V (cells := Nod.cells) (fun _ => rfl) l i r x hx hr
  obtain ⟨b', o', e, _, h0, h1, h2, h3, h4⟩ := h.cell i x hx
  cases e
  unfold nodL at hu
  rw [hf] at hu
  rw [show o + (i * 5 + r) = o + i * 5 + r by omega]
  match r, hr with
  | 0, _ => rw [Nat.add_zero]; exact h0.trans hu
  | 1, _ => exact h1.trans hu
  | 2, _ => exact h2.trans hu
  | 3, _ => exact h3.trans hu
  | 4, _ => exact h4.trans hu
theorem nodL_one (l : List Tre.Nod) : ∀ u ∈ nodL l, u.oneCell' = true := fun u hu => by
  obtain ⟨x, _, hx⟩ := List.mem_flatMap.1 hu
  exact nod_cellF x u hx
set_option maxHeartbeats 1600000 in
theorem cloneN_any (a : Option Addr) (cap : Nat) (l : List Tre.Nod) (w : World) (hN : FivesAt w a l Nod.cells) (h0 : 0 < l.length) (h8 : l.length ≤ 8000) :
    Calls Tryd.prog 33 #[.slice a l.length cap] w fun e w' => ∃ v base, e = .returned v ∧ w'.ownsRow base 65 5 v l.length (nodL l) ∧ w.heap.size ≤ base ∧ Gr w w' := by
  obtain ⟨x, hx⟩ : ∃ x, l[0]? = some x := ⟨_, List.getElem?_eq_getElem h0⟩
  obtain ⟨b, o, rfl, hb, _⟩ := hN.cell 0 x hx
  have q22 : ∀ (w : World) (a : Option Addr) (n c n' c' : Nat), (binOp .eql 40 (.slice a n c) (.slice none n' c')).run Tryd.prog w = .ok (.bool a.isNone) w := fun w a n c n' c' => Go.Lib.run_eql_slice_nil w _ _ a n c n' c' Tryd.underlying40
  obtain ⟨i0, hi, hi1, hi2, hi3⟩ := Tryd.infoNodeF
  go_enter Tryd.func33, Tryd.ntmps33
  go_wp2_with (at_builtin; refine wpList_append_own _ rfl _ _ 40 rfl w.heap.size 65 i0 _ 5 40 Tryd.underlying40 hi hi1 hi2 hi3 rfl (by decide) _ _ _ rfl (World.ownsRow_made w #[] 0 (Nat.le_refl _) (Nat.zero_le _) (by simp)) ⟨b, o, none⟩ l.length cap (nodL l) rfl (nodL_len l) ?qc2 (nodL_one l) (by unfold maxLen; omega) (by omega) (by simp) ?_)
  case qc2 =>
    intro j u hj
    rw [Addr.add_lit]
    exact Go.Lib.cell?_alloc_some _ (news_nodes hN j u hj)
  intro v' w1 hown hgrow hnil
  go_wp2
  go_ret
  exact ⟨v', w.heap.size, rfl, by simpa using hown, Nat.le_refl _, ((Gr.refl _).alloc _).by_ hgrow (by intro k hk; simp [Value.ownBlock] at hk; omega)⟩
end Go.Proofs.YtcpmbjlhblkniaaDoor
namespace Go.Proofs.YtcpmbjlhblkniaaDoor
open Go.ChangeShapes Go.WideShapes Go.ChangeAt Go.RowKit Go.Maps
set_option linter.unusedVariables false
set_option maxRecDepth 100000
theorem Made.weak {m s b m' s' b' : Bool} {f g : Fst} {w1 w w' : World} (h : Made m s b f g w w') (hg : Gr w1 w) (h1 : m' = true → m = true) (h2 : (m' || s' || b') = true → (m || s || b) = true) (h3 : (m' || b') = true → (m || b) = true) : Made m' s' b' f g w1 w' :=
  ⟨h.ok, h.good, h.same, hg.trans h.gr, fun k => h.twins (h1 k), fun k => h.least (h1 k), fun k => h.nodup (h2 k), fun k => h.deep (h3 k), h.few⟩
theorem Made.but {m s b : Bool} {f g : Fst} {w w1 w' : World} {rb : Nat} (h : Made m s b f g w w1) (k : Box2 w1 rb) (hb : But w1 w' rb) (hr : w.heap.size ≤ rb) (ho : w'.os = w1.os) (ht : w'.output = w1.output) : Made m s b f g w w' :=
  ⟨h.ok.but k hb, h.good, h.same, ⟨ho.trans h.gr.os, ht.trans h.gr.out, by have := h.gr.size; have := hb.size; omega, fun x hx => (hb.block x (by omega)).trans (h.gr.block x hx)⟩, h.twins, h.least, h.nodup, h.deep, h.few⟩
theorem same_copy {f : Fst} (hG : Good f) (h0 : forF f = 0) {ys : List Ans} (hy : ys.map Ans.val = f.answers.map Ans.val) {na aa : Option Addr} {ncap acap : Nat} :
    forF ⟨na, ncap, f.nodes, aa, acap, ys⟩ = 0 ∧ Same f ⟨na, ncap, f.nodes, aa, acap, ys⟩ := by
  have hlen : ys.length = f.answers.length := by have := congrArg List.length hy; simpa using this
  have h1 := hG.ne
  have h2 := hG.n8
  have h3 := hG.a2
  have hval : ∀ i : Nat, (ys[i]?).map Ans.val = (f.answers[i]?).map Ans.val := fun i => by
    rw [← List.getElem?_map, ← List.getElem?_map, hy]
  constructor
  · refine forF_0 (by show f.nodes.length ≠ 0; omega) (by show ¬ (8000 < f.nodes.length ∨ 2000 < ys.length); omega) (fun i hi => ?_) (fun i hi => ?_)
    · obtain ⟨y, hyi⟩ : ∃ y, ys[i]? = some y := ⟨_, List.getElem?_eq_getElem hi⟩
      rw [ansE_at hyi]
      have hv := hval i
      rw [hyi] at hv
      cases hx : f.answers[i]? with
      | none => rw [hx] at hv; simp at hv
      | some x =>
        rw [hx] at hv
        simp only [Option.map_some, Option.some.injEq] at hv
        have hg := hG.ans x (List.mem_of_getElem? hx)
        simp only [Ans.val, Prod.mk.injEq] at hv
        obtain ⟨e1, e2, e3, e4, e5⟩ := hv
        unfold Ans.fault at hg ⊢
        rw [e1, e3, e4, e5]
        exact hg
    · obtain ⟨nd, hnd⟩ : ∃ y, f.nodes[i]? = some y := ⟨_, List.getElem?_eq_getElem hi⟩
      rw [nodE_at hnd]
      have := hG.node i nd hnd
      show Tre.nodF nd i (ys.length : Int) = 0
      rw [hlen]; exact this
  · refine ⟨fun t t1 t2 => ?_⟩
    obtain ⟨x, hx⟩ : ∃ x, f.answers[evalI f t]? = some x := ⟨_, List.getElem?_eq_getElem (hG.evalI_lt t).1⟩
    have hv := hval (evalI f t)
    rw [hx] at hv
    cases hyi : ys[evalI f t]? with
    | none => rw [hyi] at hv; simp at hv
    | some y =>
      rw [hyi] at hv
      simp only [Option.map_some, Option.some.injEq] at hv
      exact ⟨y, x, hyi, hx, hv⟩
def isM (n : Int) : Bool := decide (n % 2 = 1)
def isS (n : Int) : Bool := decide (n / 2 % 2 = 1)
def isB (n : Int) : Bool := decide (n / 4 % 2 = 1)
set_option maxHeartbeats 3200000 in
theorem opt_far (f : Fst) (n : Int) (w : World) (hf : FstOk w f) (hn : forF f = 0 → n < 0 ∨ 7 < n) :
    Calls Tryd.prog 15 #[.agg f.cells.toArray, .int .i64 n] w fun e w' => e = .returned (.tuple #[.agg #[.slice none 0 0, .slice none 0 0], .int .i64 (if forF f = 0 then 2 else forF f)]) ∧ Gr w w' := by
  have HC : Hid _ := fun W (hg : Gr w W) => check_any f W (hf.gr hg)
  obtain ⟨E, hE⟩ : ∃ E, forF f = E := ⟨_, rfl⟩
  rw [hE] at hn
  simp only [hE] at HC ⊢
  have HFC : Hid _ := hE
  clear hE
  obtain ⟨na, ncap, nodes, aa, acap, answers⟩ := f
  simp only [Fst.cells] at HC ⊢
  have HN : Hid _ := hn
  by_cases hE0 : E = 0
  · subst hE0
    have hn' := HN.out rfl
    clear hn
    simp only [if_true]
    go_enter Tryd.func15, Tryd.ntmps15
    go_wp2_with fail
    refine (HC.out _ (by repeat (with_reducible first | exact Gr.refl _ | refine Gr.drew ?_ | refine Gr.alloc ?_ _))).mono ?_
    rintro e w1 ⟨rfl, hgn⟩
    have hg1 := Gr.ofGrown hgn
    have hgw : Gr w w1 := (((Gr.refl _).alloc _).alloc _).trans hg1
    have k2 : w1.heap[w.heap.size + 1]? = some (.cells #[.slice none 0 0, .slice none 0 0] 42) := (hg1.block (w.heap.size + 1) (by simp)).trans (heapC w _ _)
    obtain ⟨c2, f2⟩ := row_all k2
    have HGW : Hid _ := hgw
    clear hg1 hgn hgw k2
    rcases Int.lt_or_le n 0 with g | g
    · have hb : decide (n < 0) = true := by simpa using g
      go_wp2_with fail
      refine bodyPost_ret (v := .tuple #[.agg #[.slice none 0 0, .slice none 0 0], .int .i64 2]) (by simp [results, Tryd.results15, go_sem, c2]) rfl ⟨rfl, ?_⟩
      repeat (with_reducible first | exact HGW.out | refine Gr.setCell ?_ (by simp) _)
    · have h7 : 7 < n := by omega
      have hb : decide (n < 0) = false := by simpa using g
      go_wp2_with fail
      refine bodyPost_ret (v := .tuple #[.agg #[.slice none 0 0, .slice none 0 0], .int .i64 2]) (by simp [results, Tryd.results15, go_sem, c2]) rfl ⟨rfl, ?_⟩
      repeat (with_reducible first | exact HGW.out | refine Gr.setCell ?_ (by simp) _)
  · rw [if_neg hE0]
    have g0 : (E != 0) = true := by simpa using hE0
    clear hn hE0
    go_enter Tryd.func15, Tryd.ntmps15
    go_wp2_with fail
    refine (HC.out _ (by repeat (with_reducible first | exact Gr.refl _ | refine Gr.drew ?_ | refine Gr.alloc ?_ _))).mono ?_
    rintro e w1 ⟨rfl, hgn⟩
    have hg1 := Gr.ofGrown hgn
    have hgw : Gr w w1 := (((Gr.refl _).alloc _).alloc _).trans hg1
    have k2 : w1.heap[w.heap.size + 1]? = some (.cells #[.slice none 0 0, .slice none 0 0] 42) := (hg1.block (w.heap.size + 1) (by simp)).trans (heapC w _ _)
    obtain ⟨c2, f2⟩ := row_all k2
    have HGW : Hid _ := hgw
    clear hg1 hgn hgw k2
    go_wp2_with fail
    refine bodyPost_ret (v := .tuple #[.agg #[.slice none 0 0, .slice none 0 0], .int .i64 E]) (by simp [results, Tryd.results15, go_sem, c2]) rfl ⟨rfl, ?_⟩
    repeat (with_reducible first | exact HGW.out | refine Gr.setCell ?_ (by simp) _)
set_option maxHeartbeats 6400000 in
theorem opt_merge (f : Fst) (n : Int) (w : World) (hf : FstOk w f) (h0 : forF f = 0) (hn : n = 1 ∨ n = 3 ∨ n = 5 ∨ n = 7) :
    Calls Tryd.prog 15 #[.agg f.cells.toArray, .int .i64 n] w fun e w' => ∃ g : Fst, e = .returned (.tuple #[.agg g.cells.toArray, .int .i64 0]) ∧ Made (isM n) (isS n) (isB n) f g w w' := by
  have HC : Hid _ := fun W (hg : Gr w W) => check_any f W (hf.gr hg)
  have HM : Hid _ := fun W (hg : Gr w W) => merge_any f W (hf.gr hg) (good_of h0)
  simp only [h0] at HC
  clear h0 hf
  obtain ⟨na, ncap, nodes, aa, acap, answers⟩ := f
  simp only [Fst.cells] at HC HM
  rcases hn with rfl | rfl | rfl | rfl
  all_goals
    simp only [Fst.cells]
    go_enter Tryd.func15, Tryd.ntmps15
    go_wp2_with fail
    refine (HC.out _ (by repeat (with_reducible first | exact Gr.refl _ | refine Gr.drew ?_ | refine Gr.alloc ?_ _))).mono ?_
    rintro e w1 ⟨rfl, hgn⟩
    have hg1 := Gr.ofGrown hgn
    have HGW : Hid _ := (show Gr w w1 from (((Gr.refl _).alloc _).alloc _).trans hg1)
    have k1 : w1.heap[w.heap.size]? = some (.cells #[.slice na nodes.length ncap, .slice aa answers.length acap] 42) := (hg1.block w.heap.size (by simp; omega)).trans (heapB w _ _)
    have k2 : w1.heap[w.heap.size + 1]? = some (.cells #[.slice none 0 0, .slice none 0 0] 42) := (hg1.block (w.heap.size + 1) (by simp)).trans (heapC w _ _)
    have K2 : Hid _ := k2
    have z2 : w.heap.size + 1 < w1.heap.size := (Array.getElem?_eq_some_iff.1 k2).1
    obtain ⟨c1, f1⟩ := row_all k1
    clear hg1 hgn k1 k2
    go_wp2_with fail
    refine (HM.out _ HGW.out).mono ?_
    rintro e w3 ⟨g, rfl, hM⟩
    have k3 := (hM.gr.block _ z2).trans K2.out
    obtain ⟨c3, f3⟩ := row_all k3
    have HMM : Hid _ := hM
    clear hM c1 f1
    go_wp2_with fail
    refine bodyPost_ret (v := .tuple #[.agg g.cells.toArray, .int .i64 0]) (by simp [results, Tryd.results15, go_sem, c3, Fst.cells]) rfl ⟨g, rfl, ((HMM.out.weak HGW.out (by decide) (by decide) (by decide)).but ⟨⟨_, k3⟩⟩ (but2 _ _ _ _) (by omega) rfl rfl)⟩
set_option maxHeartbeats 6400000 in
theorem opt_balance (f : Fst) (n : Int) (w : World) (hf : FstOk w f) (h0 : forF f = 0) (hn : n = 4 ∨ n = 6) :
    Calls Tryd.prog 15 #[.agg f.cells.toArray, .int .i64 n] w fun e w' => ∃ g : Fst, e = .returned (.tuple #[.agg g.cells.toArray, .int .i64 0]) ∧ Made (isM n) (isS n) (isB n) f g w w' := by
  have HC : Hid _ := fun W (hg : Gr w W) => check_any f W (hf.gr hg)
  have HM : Hid _ := fun W (hg : Gr w W) => balance_any f W (hf.gr hg) (good_of h0)
  simp only [h0] at HC
  clear h0 hf
  obtain ⟨na, ncap, nodes, aa, acap, answers⟩ := f
  simp only [Fst.cells] at HC HM
  rcases hn with rfl | rfl
  all_goals
    simp only [Fst.cells]
    go_enter Tryd.func15, Tryd.ntmps15
    go_wp2_with fail
    refine (HC.out _ (by repeat (with_reducible first | exact Gr.refl _ | refine Gr.drew ?_ | refine Gr.alloc ?_ _))).mono ?_
    rintro e w1 ⟨rfl, hgn⟩
    have hg1 := Gr.ofGrown hgn
    have HGW : Hid _ := (show Gr w w1 from (((Gr.refl _).alloc _).alloc _).trans hg1)
    have k1 : w1.heap[w.heap.size]? = some (.cells #[.slice na nodes.length ncap, .slice aa answers.length acap] 42) := (hg1.block w.heap.size (by simp; omega)).trans (heapB w _ _)
    have k2 : w1.heap[w.heap.size + 1]? = some (.cells #[.slice none 0 0, .slice none 0 0] 42) := (hg1.block (w.heap.size + 1) (by simp)).trans (heapC w _ _)
    have K2 : Hid _ := k2
    have z2 : w.heap.size + 1 < w1.heap.size := (Array.getElem?_eq_some_iff.1 k2).1
    obtain ⟨c1, f1⟩ := row_all k1
    clear hg1 hgn k1 k2
    go_wp2_with fail
    refine (HM.out _ HGW.out).mono ?_
    rintro e w3 ⟨g, rfl, hM⟩
    have k3 := (hM.gr.block _ z2).trans K2.out
    obtain ⟨c3, f3⟩ := row_all k3
    have HMM : Hid _ := hM
    clear hM c1 f1
    go_wp2_with fail
    refine bodyPost_ret (v := .tuple #[.agg g.cells.toArray, .int .i64 0]) (by simp [results, Tryd.results15, go_sem, c3, Fst.cells]) rfl ⟨g, rfl, ((HMM.out.weak HGW.out (by decide) (by decide) (by decide)).but ⟨⟨_, k3⟩⟩ (but2 _ _ _ _) (by omega) rfl rfl)⟩
set_option maxHeartbeats 6400000 in
theorem opt_share (f : Fst) (n : Int) (w : World) (hf : FstOk w f) (h0 : forF f = 0) (hn : n = 2) :
    Calls Tryd.prog 15 #[.agg f.cells.toArray, .int .i64 n] w fun e w' => ∃ g : Fst, e = .returned (.tuple #[.agg g.cells.toArray, .int .i64 0]) ∧ Made (isM n) (isS n) (isB n) f g w w' := by
  have HC : Hid _ := fun W (hg : Gr w W) => check_any f W (hf.gr hg)
  have HM : Hid _ := fun W (hg : Gr w W) => share_any f W (hf.gr hg) (good_of h0)
  simp only [h0] at HC
  clear h0 hf
  obtain ⟨na, ncap, nodes, aa, acap, answers⟩ := f
  simp only [Fst.cells] at HC HM
  rcases hn with rfl
  all_goals
    simp only [Fst.cells]
    go_enter Tryd.func15, Tryd.ntmps15
    go_wp2_with fail
    refine (HC.out _ (by repeat (with_reducible first | exact Gr.refl _ | refine Gr.drew ?_ | refine Gr.alloc ?_ _))).mono ?_
    rintro e w1 ⟨rfl, hgn⟩
    have hg1 := Gr.ofGrown hgn
    have HGW : Hid _ := (show Gr w w1 from (((Gr.refl _).alloc _).alloc _).trans hg1)
    have k1 : w1.heap[w.heap.size]? = some (.cells #[.slice na nodes.length ncap, .slice aa answers.length acap] 42) := (hg1.block w.heap.size (by simp; omega)).trans (heapB w _ _)
    have k2 : w1.heap[w.heap.size + 1]? = some (.cells #[.slice none 0 0, .slice none 0 0] 42) := (hg1.block (w.heap.size + 1) (by simp)).trans (heapC w _ _)
    have K2 : Hid _ := k2
    have z2 : w.heap.size + 1 < w1.heap.size := (Array.getElem?_eq_some_iff.1 k2).1
    obtain ⟨c1, f1⟩ := row_all k1
    clear hg1 hgn k1 k2
    go_wp2_with fail
    refine (HM.out _ HGW.out).mono ?_
    rintro e w3 ⟨g, rfl, hM⟩
    have k3 := (hM.gr.block _ z2).trans K2.out
    obtain ⟨c3, f3⟩ := row_all k3
    have HMM : Hid _ := hM
    clear hM c1 f1
    go_wp2_with fail
    refine bodyPost_ret (v := .tuple #[.agg g.cells.toArray, .int .i64 0]) (by simp [results, Tryd.results15, go_sem, c3, Fst.cells]) rfl ⟨g, rfl, ((HMM.out.weak HGW.out (by decide) (by decide) (by decide)).but ⟨⟨_, k3⟩⟩ (but2 _ _ _ _) (by omega) rfl rfl)⟩
set_option maxHeartbeats 6400000 in
theorem opt_none (f : Fst) (w : World) (hf : FstOk w f) (h0 : forF f = 0) :
    Calls Tryd.prog 15 #[.agg f.cells.toArray, .int .i64 0] w fun e w' => ∃ g : Fst, e = .returned (.tuple #[.agg g.cells.toArray, .int .i64 0]) ∧ Made false false false f g w w' := by
  have HC : Hid _ := fun W (hg : Gr w W) => check_any f W (hf.gr hg)
  have HFO : Hid _ := hf
  have HG : Hid _ := good_of h0
  have HCL : Hid _ := fun W (hg : Gr w W) => cloneN_any f.na f.ncap f.nodes W (hf.nat.gr hg) (good_of h0).ne (good_of h0).n8
  have HCO : Hid _ := fun W (hg : Gr w W) => copies_any f.aa f.acap f.answers W (hf.aat.gr hg) (fun y hy => ⟨(hf.aok y hy).gr hg, by have := (fault_small ((good_of h0).ans y hy)).1; omega, by have := (fault_small ((good_of h0).ans y hy)).2; omega⟩) (by have := (good_of h0).a2; omega)
  have HF0 : Hid _ := h0
  simp only [h0] at HC
  clear h0 hf
  obtain ⟨na, ncap, nodes, aa, acap, answers⟩ := f
  simp only [Fst.cells] at HC ⊢
  simp only at HCL HCO
  go_enter Tryd.func15, Tryd.ntmps15
  go_wp2_with fail
  refine (HC.out _ (by repeat (with_reducible first | exact Gr.refl _ | refine Gr.drew ?_ | refine Gr.alloc ?_ _))).mono ?_
  rintro e w1 ⟨rfl, hgn⟩
  have hg1 := Gr.ofGrown hgn
  have HGW : Hid _ := (show Gr w w1 from (((Gr.refl _).alloc _).alloc _).trans hg1)
  have k1 : w1.heap[w.heap.size]? = some (.cells #[.slice na nodes.length ncap, .slice aa answers.length acap] 42) := (hg1.block w.heap.size (by simp; omega)).trans (heapB w _ _)
  have k2 : w1.heap[w.heap.size + 1]? = some (.cells #[.slice none 0 0, .slice none 0 0] 42) := (hg1.block (w.heap.size + 1) (by simp)).trans (heapC w _ _)
  have K2 : Hid _ := k2
  have z2 : w.heap.size + 1 < w1.heap.size := (Array.getElem?_eq_some_iff.1 k2).1
  have c1 := (row_all k1).1
  have hO : w1.cell? ⟨w.heap.size, 0, none⟩ = some (.slice na nodes.length ncap) ∧ w1.cell? ⟨w.heap.size, 1, none⟩ = some (.slice aa answers.length acap) := ⟨c1 0, c1 1⟩
  clear hg1 hgn k1 k2 c1
  go_upto_region 12 with fail
  go_region_held3 (fun w' => w'.cell? ⟨w.heap.size, 0, none⟩ = some (.slice na nodes.length ncap) ∧ w'.cell? ⟨w.heap.size, 1, none⟩ = some (.slice aa answers.length acap)) (first | with_reducible exact hO | (simpa [go_sem] using hO))
    (first
      | (go_at_call 33; refine (HCL.out _ (by repeat (with_reducible first | exact HGW.out | refine Gr.drew ?_))).mono ?_; rintro e w3 ⟨v3, base, rfl, hrow3, hb3, hg3x⟩
         have hg3 : Gr w1 w3 := ⟨hg3x.os, hg3x.out, hg3x.size, hg3x.block⟩
         obtain ⟨nga, ngcap, hav⟩ : ∃ a c, v3 = .slice a nodes.length c := row_form hrow3
         subst hav
         have HROW : Hid _ := hrow3
         replace hO := And.intro ((hg3.cell _ 0 (by omega)).trans hO.1) ((hg3.cell _ 1 (by omega)).trans hO.2)
         clear hg3x hrow3)
      | (go_at_call 34; refine (HCO.out _ (by repeat (with_reducible first | exact HGW.out.trans hg3 | refine Gr.drew ?_))).mono ?_; rintro e w6 ⟨ob, ys, rfl, hyl, hyv, hyf, hyok, hob, hg6x⟩
         have hg6 : Gr w3 w6 := ⟨hg6x.os, hg6x.out, hg6x.size, hg6x.block⟩
         have hg16 := hg3.trans hg6
         replace hO := And.intro ((hg6.cell _ 0 (by have := hg3.size; omega)).trans hO.1) ((hg6.cell _ 1 (by have := hg3.size; omega)).trans hO.2)
         have k6 := (hg16.block (w.heap.size + 1) z2).trans K2.out
         have c6 := (row_all k6).1
         have f6 := (row_all k6).2
         clear hg6x))
  have hgr6 := HGW.out.trans hg16
  have HY : Hid _ := fun (_ : Unit) => And.intro hyv (And.intro hyf (And.intro hyok (And.intro hg6 hgr6)))
  have HYL : Hid _ := hyl
  clear hyv hyf hyok hg6 hgr6 hyl
  go_wp2_with fail
  obtain ⟨hyv, hyf, hyok, hg6, hgr6⟩ := HY.out ()
  have hyl := HYL.out
  obtain ⟨na', ncap', hne, hncap, hnmx, hnfive⟩ := owns_fivesV (cells := Nod.cells) (fun _ => rfl) (owns_gr HROW.out hg6)
  cases hne
  obtain ⟨fg1, fg2⟩ := same_copy (f := ⟨na, ncap, nodes, aa, acap, answers⟩) HG.out HF0.out hyv (na := nga) (ncap := ngcap) (aa := some ⟨ob, 0, none⟩) (acap := answers.length)
  have hfst : FstOk w6 ⟨nga, ngcap, nodes, some ⟨ob, 0, none⟩, answers.length, ys⟩ := ⟨hncap, by show ys.length ≤ answers.length; omega, hnfive, HFO.out.nok, hyf, hyok⟩
  refine bodyPost_ret (v := .tuple #[.agg (Fst.cells ⟨nga, ngcap, nodes, some ⟨ob, 0, none⟩, answers.length, ys⟩).toArray, .int .i64 0]) (by simp [results, Tryd.results15, go_sem, c6, Fst.cells, hyl]) rfl ⟨_, rfl, hfst.but ⟨⟨_, k6⟩⟩ (but2 _ _ _ _), fg1, fg2, ?_, fun h => (by cases h), fun h => (by cases h), fun h => (by cases h), fun h => (by cases h), Nat.le_refl _⟩
  repeat (with_reducible first | exact hgr6 | refine Gr.setCell ?_ (by simp) _)
theorem opt_ok (f : Fst) (n : Int) (w : World) (hf : FstOk w f) (h0 : forF f = 0) (hn : 0 ≤ n) (hn7 : n ≤ 7) :
    Calls Tryd.prog 15 #[.agg f.cells.toArray, .int .i64 n] w fun e w' => ∃ g : Fst, e = .returned (.tuple #[.agg g.cells.toArray, .int .i64 0]) ∧ Made (isM n) (isS n) (isB n) f g w w' := by
  by_cases h1 : n = 1 ∨ n = 3 ∨ n = 5 ∨ n = 7
  · exact opt_merge f n w hf h0 h1
  by_cases h2 : n = 4 ∨ n = 6
  · exact opt_balance f n w hf h0 h2
  by_cases h3 : n = 2
  · exact opt_share f n w hf h0 h3
  have h4 : n = 0 := by omega
  subst h4
  exact opt_none f w hf h0
end Go.Proofs.YtcpmbjlhblkniaaDoor
