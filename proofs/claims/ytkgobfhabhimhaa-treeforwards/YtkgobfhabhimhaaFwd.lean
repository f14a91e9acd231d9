/- Contract: Forward: a tree of spans. -/
import Derived.Test.YtkgobfhabhimhaaFwM
import Derived.Test.YtkgobfhabhimhaaGro
import Derived.Test.YtkgobfhabhimhaaFiP
import Derived.Test.YtkgobfhabhimhaaSpnC
import Derived.Test.YtkgobfhabhimhaaCop
import Derived.Test.YtkgobfhabhimhaaFlat
import Derived.Test.YtkgobfhabhimhaaFstB
namespace Go.Proofs.Ytkgobfhabhimhaa
open Go.ChangeShapes Go.WideShapes Go.ChangeAt Go.RowKit Go.Maps
set_option linter.unusedVariables false
theorem Gr.fga {base M lb : Nat} {w1 w w' : World} (h : Gr w1 w) (g : Fga base M lb w w') (h1 : w1.heap.size ≤ base) (h2 : w1.heap.size ≤ M) (h3 : w1.heap.size ≤ lb) : Gr w1 w' :=
  ⟨g.os.trans h.os, g.out.trans h.out, Nat.le_trans h.size g.size, fun b hb => (g.block b (by omega) (by omega) (by omega)).trans (h.block b hb)⟩
theorem Gr.cg {pb : Nat} {w1 w w' : World} (h : Gr w1 w) (g : Cg pb w w') (h1 : w1.heap.size ≤ pb) : Gr w1 w' :=
  ⟨g.os.trans h.os, g.out.trans h.out, Nat.le_trans h.size g.size, fun b hb => (g.block b (Nat.lt_of_lt_of_le hb h.size) (by omega)).trans (h.block b hb)⟩
theorem FinA.cg {w w' : World} {kb mb lb M base low pb : Nat} {v : Value} {ns : List Ans} {D : DataW Unit} {cs : Array Value} (h : FinA w kb mb lb M base low v ns D) (hc : Cg pb w w') (ht : w.heap[pb]? = some (.cells cs 57)) (hlow : low ≤ pb) : FinA w' kb mb lb M base low v ns D := by
  have hs := h.size
  have hlt : ∀ {b o}, w.heap[b]? = some o → b < w.heap.size := fun e => (Array.getElem?_eq_some_iff.1 e).1
  have hk : kb ≠ pb := fun e => by have := h.kbox; rw [e, ht] at this; cases this
  have hm : mb ≠ pb := fun e => by have := h.mbox; rw [e, ht] at this; cases this
  have hl : lb ≠ pb := fun e => by have := h.lbox; rw [e, ht] at this; cases this
  have hM : M ≠ pb := fun e => by
    obtain ⟨es, cl, h1, _⟩ := h.map
    rw [e, ht] at h1; cases h1
  have hi : ∀ {b : Nat} {ds : Array Value}, w.heap[b]? = some (.cells ds 3) → w'.heap[b]? = some (.cells ds 3) := fun {b : Nat} {ds : Array Value} e => (hc.block b (hlt e) (fun g => by rw [g, ht] at e; cases e)).trans e
  refine ⟨(hc.block kb (hlt h.kbox) hk).trans h.kbox, (hc.block mb (hlt h.mbox) hm).trans h.mbox, (hc.block lb (hlt h.lbox) hl).trans h.lbox, owns_same h.row fun g hg => hc.block g (owns_lt h.row hg).2 (fun e => ?_), owns_map_sameA h.map (hc.block M (by have := h.M1; omega) hM), h.isMap, fun n hn => ?_, h.ok6, fun n hn => ⟨fun b o sp e => ((h.far n hn).far b o sp e).imp id fun ⟨ds, hd⟩ => ⟨ds, hi hd⟩⟩, h.has, h.at_, h.nodup, h.k1, h.m1, h.l1, h.M1, h.ne1, h.ne2, h.low1, h.low2, Nat.le_trans hs hc.size⟩
  · obtain ⟨cur, hr⟩ := owns_typed h.row hg
    rw [e, ht] at hr; cases hr
  · have k := h.ok n hn
    refine ⟨k.off, k.jump, k.nm, k.cap, ⟨k.zs.len, fun i z hz => ?_⟩, k.wz⟩
    obtain ⟨b, o, e, hb, hcell⟩ := k.zs.cell i z hz
    refine ⟨b, o, e, Nat.lt_of_lt_of_le hb hc.size, ?_⟩
    rw [← hcell]
    refine World.cell?_of_block (w := w) (a := ⟨b, o + i, none⟩) (hc.block b hb ?_)
    rcases (h.far n hn).far b o _ e with g | ⟨ds, g⟩
    · omega
    · intro e2; rw [e2, ht] at g; cases g
/-- The cells of parts that are written so far. -/
structure PcR (cs : Array Value) (qs : List (Int × Int)) (n : Nat) : Prop where
  at_ : ∀ (j : Nat) x, qs[j]? = some x → cs[j * 2]? = some (.int .i64 x.1) ∧ cs[j * 2 + 1]? = some (.int .i64 x.2)
  size : cs.size = n * 2
theorem PcR.snoc {cs : Array Value} {qs : List (Int × Int)} {n : Nat} (h : PcR cs qs n) (hl : qs.length < n) (x : Int × Int) : PcR ((cs.setIfInBounds (qs.length * 2) (.int .i64 x.1)).setIfInBounds (qs.length * 2 + 1) (.int .i64 x.2)) (qs ++ [x]) n :=
  ⟨fun j y hj => by
    have hz := h.size
    rcases Nat.lt_or_ge j qs.length with g | g
    · rw [List.getElem?_append_left g] at hj
      have := h.at_ j y hj
      rw [Array.getElem?_setIfInBounds_ne (by omega), Array.getElem?_setIfInBounds_ne (by omega), Array.getElem?_setIfInBounds_ne (by omega), Array.getElem?_setIfInBounds_ne (by omega)]
      exact this
    · rw [List.getElem?_append_right g] at hj
      have h0 : j - qs.length = 0 := by
        have := (List.getElem?_eq_some_iff.1 hj).1
        simp at this; omega
      have hi : j = qs.length := by omega
      subst hi
      simp at hj
      subst hj
      rw [Array.getElem?_setIfInBounds_ne (by omega)]
      constructor
      · rw [Array.getElem?_setIfInBounds_self_of_lt (by omega)]
      · rw [Array.getElem?_setIfInBounds_self_of_lt (by simp; omega)], by simpa using h.size⟩
theorem PcR.cmp {cs : Array Value} {qs : List (Int × Int)} {n : Nat} (h : PcR cs qs n) (hl : qs.length = n) : CmpR cs qs 0 := by
  refine ⟨fun j x hj => ?_, fun j x _ hj => h.at_ j x hj, by have := h.size; omega⟩
  rw [compact_one, List.getElem?_take] at hj
  by_cases g : j < 0 + 1
  · rw [if_pos g] at hj; exact h.at_ j x hj
  · rw [if_neg g] at hj; cases hj
theorem Try.infoPart : ∃ i, Try.prog.info? 57 = some i ∧ i.zero = some (.agg #[.int .i64 0, .int .i64 0]) ∧ i.size = 2 ∧ i.bytes = 16 :=
  ⟨_, rfl, by kernel_rfl, by kernel_rfl, by kernel_rfl⟩
set_option maxHeartbeats 3200000 in
theorem forward_any (a : Option Addr) (cap : Nat) (l : List Spn) (w : World) (hl : SpansAt w a l) (h0 : spnsF l = 0) :
    Calls Try.prog 4 #[.slice a l.length cap] w fun e w' => ∃ f : Fst, e = .returned (.tuple #[.agg f.cells.toArray, .int .i64 0]) ∧ FstOk w' f ∧ forF f = 0 ∧ (∀ t, ∃ y, f.answers[evalI f t]? = some y ∧ y.val = ((spanV l t).1, (spanV l t).2.1, (spanV l t).2.2, [], 0)) ∧ Gr w w' := by
  have HC : Hid _ := fun W (h : SpansAt W a l) => checkSpans_any a cap l W h
  simp only [h0] at HC
  have HF : Hid _ := fun W => finderA_any W
  obtain ⟨s0, s1, s2, s3⟩ := spans_good h0
  have l1 := hl.len
  unfold maxLen at l1
  go_enter Try.func4, Try.ntmps4
  go_wp2_with fail
  have gA : Gr w (w.alloc (Obj.cells #[.slice none 0 0, .slice none 0 0] 26)) := (Gr.refl _).alloc _
  refine (HC.out _ (hl.gr gA)).mono ?_
  rintro e w1 ⟨rfl, hg1⟩
  have k1 := (hg1.block w.heap.size (by simp)).trans (heapA w _)
  have hgw1 := gA.trans hg1
  have z1 : w.heap.size < w1.heap.size := by have := hg1.size; simp at this; omega
  clear hg1 gA
  go_wp2_with fail
  refine (HF.out _).mono ?_
  rintro e w2 ⟨kb, mb, lb, M, base, rfl, hFA, hkb, hlb, hM, hbase, hg2⟩
  have k2 := (hg2.block w.heap.size z1).trans k1
  have hgw2 := hgw1.trans hg2
  have z2 : w1.heap.size ≤ w2.heap.size := hg2.size
  have K2 : Hid _ := k2
  have HK1 : Hid _ := k1
  have HGW : Hid _ := hgw1
  clear k1 k2 hgw1
  obtain ⟨i0, hi, hi1, hi2, hi3⟩ := Try.infoPart
  have hmk : ∀ W : World, (Instr.makeSlice 53 (.int .i64 (l.length : Int)) (.int .i64 (l.length : Int))).run Try.prog W = .ok (.slice (some ⟨W.heap.size, 0, none⟩) l.length l.length) (W.alloc (.cells (madeCells #[.int .i64 0, .int .i64 0] (l.length * 2)) 57)) := fun W => by
    have := run_makeSlice (P := Try.prog) W 53 57 i0 _ Try.underlying53 hi hi1 .i64 .i64 (l.length : Int) (l.length : Int) (by omega) (Int.le_refl _) (by rw [hi2]; simp; omega) (by rw [hi3]; omega) (by omega)
    rw [hi2] at this
    simpa [Value.cells] using this
  go_wp2_with fail
  have gA2 : Gr w2 (w2.alloc (.cells (madeCells #[.int .i64 0, .int .i64 0] (l.length * 2)) 57)) := (Gr.refl _).alloc _
  have kp := heapA w2 (.cells (madeCells #[.int .i64 0, .int .i64 0] (l.length * 2)) 57)
  have hst : FinA (w2.alloc (.cells (madeCells #[.int .i64 0, .int .i64 0] (l.length * 2)) 57)) kb mb lb M (w2.heap.size + 1) w1.heap.size (.slice none 0 0) [] (.map []) := (hFA.gr gA2).rebase (by omega) (by simp) (Nat.le_refl _)
  have KP : Hid _ := kp
  have ST : Hid _ := hst
  have hgst := hg2.trans gA2
  clear hmk hFA kp hst gA2 HC HF
  go_loopw [25] (fun t wr => ∃ (k : Nat) (cs : Array Value) (v : Value) (ns : List Ans) (D : DataW Unit) (qs : List (Int × Int)), k ≤ l.length ∧ t = .int .i64 k ∧ qs.length = k ∧ ns.length ≤ k ∧ Gr w1 wr ∧ FinA wr kb mb lb M (w2.heap.size + 1) w1.heap.size v ns D ∧ wr.heap[w2.heap.size]? = some (.cells cs 57) ∧ PcR cs qs l.length ∧ PartsSay l ns qs) (fun t _ => l.length - (intOf t).toNat)
  case atStart => exact ⟨0, _, _, [], _, [], Nat.zero_le _, rfl, rfl, Nat.le_refl _, hgst, ST.out, KP.out, ⟨fun j x h => by simp at h, by simp [madeCells]⟩, ⟨fun i q h => by simp at h, fun y h => by simp at h⟩⟩
  case round =>
    obtain ⟨k, cs, v, ns, D, qs, hk, rfl, hqk, hnk, hgr, hF, hrow, hP, hS⟩ := hrel
    by_cases hlt : k < l.length
    · obtain ⟨x, hx⟩ : ∃ x, l[k]? = some x := ⟨_, List.getElem?_eq_getElem hlt⟩
      obtain ⟨⟨n1, n2, n3⟩, b, o, rfl, hb, d0, d1, d2, d3⟩ := (hl.gr (HGW.out.trans hgr)).cell k x hx
      have hx2 := s2 x (List.mem_of_getElem? hx)
      have HX : Hid _ := hx
      obtain ⟨frm, off, sv, nm⟩ := x
      simp only at n1 n2 n3 d0 d1 d2 d3
      go_upto_region 9 with fail
      refine name_world (p := fun W => Code.wp _ _ _ _ W) _ (fun W hW => ?_)
      have gW : Gr wr W := by rw [hW]; exact (Gr.refl _).alloc _
      have kS : W.heap[wr.heap.size]? = some (.cells #[.int .i64 frm, .int .i64 off, .bool sv, .string nm] 55) := by rw [hW]; exact heapA _ _
      have kR : W.heap[w2.heap.size]? = some (.cells cs 57) := (gW.block _ (Array.getElem?_eq_some_iff.1 hrow).1).trans hrow
      have hF2 := hF.gr gW
      have hgW := hgr.trans gW
      have zW : wr.heap.size < W.heap.size := by rw [hW]; simp
      have zp : w2.heap.size < wr.heap.size := (Array.getElem?_eq_some_iff.1 hrow).1
      clear hW hF hrow hgr gW
      have hcz := hP.size
      obtain ⟨v0, hv0⟩ : ∃ v0, cs[k * 2]? = some v0 := ⟨_, Array.getElem?_eq_getElem (by omega)⟩
      obtain ⟨v1, hv1⟩ : ∃ v1, cs[k * 2 + 1]? = some v1 := ⟨_, Array.getElem?_eq_getElem (by omega)⟩
      have hpl : w2.heap.size ≠ lb := fun e => by have := hF2.lbox; rw [← e, kR] at this; cases this
      have hsl : wr.heap.size ≠ lb := fun e => by have := hF2.lbox; rw [← e, kS] at this; cases this
      have HPL : Hid _ := fun W' (h : FinA W' kb mb lb M (w2.heap.size + 1) w1.heap.size v ns D) => placeA_any kb mb lb M (w2.heap.size + 1) w1.heap.size v ns D ⟨off, sv, nm, none, 0, [], 0⟩ W' h ⟨n3, by show (Lit.int .i64 0).wf = true; decide, n1, Nat.le_refl _, IntsAt.nil _ _, fun z hz => by simp at hz⟩ (by simp) ⟨fun b o sp e => by cases e⟩ (by omega)
      simp only [Ans.cells, List.length_nil] at HPL
      have q0 := (row_all kS).1 0
      have q1 := (row_all kS).1 1
      have q2 := (row_all kS).1 2
      have q3 := (row_all kS).1 3
      have r0 := (row_all kR).1 (k * 2)
      have r1 := (row_all kR).1 (k * 2 + 1)
      have fR := (row_all kR).2
      rw [hv0] at r0
      rw [hv1] at r1
      have hne : wr.heap.size ≠ w2.heap.size := by omega
      have hO : W.cell? ⟨wr.heap.size, 0, none⟩ = some (.int .i64 frm) ∧ W.cell? ⟨wr.heap.size, 1, none⟩ = some (.int .i64 off) ∧ W.cell? ⟨wr.heap.size, 2, none⟩ = some (.bool sv) ∧ W.cell? ⟨wr.heap.size, 3, none⟩ = some (.string nm) := ⟨q0, q1, q2, q3⟩
      go_region_held3 (fun w' => w'.cell? ⟨wr.heap.size, 0, none⟩ = some (.int .i64 frm) ∧ w'.cell? ⟨wr.heap.size, 1, none⟩ = some (.int .i64 off) ∧ w'.cell? ⟨wr.heap.size, 2, none⟩ = some (.bool sv) ∧ w'.cell? ⟨wr.heap.size, 3, none⟩ = some (.string nm)) (first | with_reducible exact hO | (simpa [go_sem, hne, Ne.symm hne] using hO))
        (first
          | (go_at_call 27; refine (HPL.out _ (hF2.gr (by repeat (with_reducible first | exact Gr.refl _ | refine Gr.drew ?_)))).mono ?_; rintro e w5 ⟨i, v5, n5, D5, rfl, ⟨y, hy, hyv⟩, hor, hF5, hg5⟩
             have kS5 := hg5.typed _ _ _ kS (by decide) hsl
             have kR5 := hg5.typed _ _ _ kR (by decide) hpl
             have r5 := (row_all kR5).1 (k * 2)
             have r6 := (row_all kR5).1 (k * 2 + 1)
             have f5 := (row_all kR5).2
             rw [hv0] at r5
             rw [hv1] at r6
             replace hO := And.intro ((row_all kS5).1 0) (And.intro ((row_all kS5).1 1) (And.intro ((row_all kS5).1 2) ((row_all kS5).1 3)))))
      have hg5' : Fga (w2.heap.size + 1) M lb W w5 := ⟨hg5.os, hg5.out, hg5.size, hg5.block, hg5.typed⟩
      have hgr6 := (hgW.fga hg5' (by omega) hM hlb)
      have k6 := heap_setCell_same _ w2.heap.size (k * 2 + 1) _ _ (.int .i64 (i : Int)) (heap_setCell_same w5 w2.heap.size (k * 2) _ _ (.int .i64 frm) kR5)
      have cg6 : Cg w2.heap.size w5 ((w5.setCell ⟨w2.heap.size, k * 2, none⟩ (.int .i64 frm)).setCell ⟨w2.heap.size, k * 2 + 1, none⟩ (.int .i64 (i : Int))) := ((Cg.ofGr (Gr.refl _)).setCell _ _).setCell _ _
      have hF6 := hF5.cg cg6 kR5 z2
      have hgr7 := hgr6.cg cg6 z2
      have hS6 := (hS.more (hor.imp id fun h => ⟨_, h, _, List.mem_of_getElem? HX.out, rfl⟩)).snoc (by rw [hqk]; exact HX.out) hy hyv
      have hP6 := hP.snoc (by omega) (frm, (i : Int))
      rw [hqk] at hP6
      have hn6 : n5.length ≤ k + 1 := by
        rcases hor with h | h
        · rw [h]; omega
        · rw [h]; simp; omega
      have ALL : Hid _ := fun (_ : Unit) => And.intro hgr7 (And.intro hF6 (And.intro k6 (And.intro hP6 hS6)))
      clear hgr6 hgr7 hF6 k6 hP6 hS6 cg6 hg5' hg5 hF5 hor hF2 HPL hgW hS hP
      go_wp2
      go_roundw
      case rel => exact ⟨k + 1, _, _, n5, _, qs ++ [(frm, (i : Int))], by omega, by go_num, by simp; omega, by omega, (ALL.out ()).1, (ALL.out ()).2.1, (ALL.out ()).2.2.1, (ALL.out ()).2.2.2.1, (ALL.out ()).2.2.2.2⟩
      case measure => simp [intOf]; omega
    · have hk' : k = l.length := by omega
      have ALL : Hid _ := fun (_ : Unit) => And.intro hgr (And.intro hF (And.intro hrow (And.intro hP (And.intro hS (And.intro hnk hqk)))))
      clear hgr hF hrow hP hS hnk hqk
      have hmany : ∀ x ∈ qs, PartOk ns.length x := fun q hq => by
        obtain ⟨i, hi⟩ := List.getElem?_of_mem hq
        obtain ⟨x, j, y, e1, e2, e3, e4, e5⟩ := (ALL.out ()).2.2.2.2.1.say i q hi
        have g := s2 x (List.mem_of_getElem? e1)
        have gl := g.lo
        have gh := g.hi
        have hj := (List.getElem?_eq_some_iff.1 e4).1
        exact ⟨by rw [e2]; exact WalkArith.wf_i64 (by omega), by omega, by omega⟩
      have HG := grow_any w2.heap.size l.length ns.length cs qs wr (Array.getElem?_eq_some_iff.1 (ALL.out ()).2.2.1).1 (ALL.out ()).2.2.1 ((ALL.out ()).2.2.2.1.cmp ((ALL.out ()).2.2.2.2.2.2.trans hk')) (by have := (ALL.out ()).2.2.2.2.2.2; omega) (by have := (ALL.out ()).2.2.2.2.2.2; omega) (by have := (ALL.out ()).2.2.2.2.2.2; omega) (by omega) (by have := (ALL.out ()).2.2.2.2.2.1; omega) hmany ((ALL.out ()).2.2.2.2.1.rise h0)
      rw [(ALL.out ()).2.2.2.2.2.2, hk'] at HG
      have HGH : Hid _ := fun (_ : Unit) => HG
      clear HG hmany
      go_wp2_with fail
      refine (HGH.out ()).mono ?_
      rintro e w3 ⟨nodes, nv, nb, hpost⟩
      obtain ⟨rfl, n2, n3, n4, n5, n6, n7⟩ := hpost
      have hF3 := (ALL.out ()).2.1.cg n5 (ALL.out ()).2.2.1 z2
      have hgr3 := (ALL.out ()).1.cg n5 z2
      have HF3 : Hid _ := fun (_ : Unit) => hF3
      have POST : Hid _ := fun (_ : Unit) => And.intro n2 (And.intro n3 (And.intro n4 (And.intro n6 (And.intro n7 hgr3))))
      have hnv : ∃ na ncap, nv = .slice na nodes.length ncap := row_formA n2
      obtain ⟨na, ncap, hnv⟩ := hnv
      obtain ⟨aa, acap, hav, hacap, hmx, hfive⟩ := owns_fivesV (fun _ => rfl) hF3.row
      subst hnv
      subst hav
      have HFI : Hid _ := fun (_ : Unit) => hfive
      clear n2 n3 n4 n5 n6 n7 hgr3 hF3 hfive
      have hnk := (ALL.out ()).2.2.2.2.2.1
      go_wp2_with fail
      refine (listedA_any kb mb lb M (w2.heap.size + 1) w1.heap.size _ ns D w3 (HF3.out ())).mono ?_
      rintro e w4 ⟨rfl, hw4⟩
      subst w4
      have HCO : Hid _ := fun W (hg : Gr w3 W) => copies_any aa acap ns W ((HFI.out ()).gr hg) (fun y hy => ⟨((HF3.out ()).ok y hy).gr hg, by have := (HF3.out ()).ok6 y hy; omega, by
        obtain ⟨x, hx, hv⟩ := (ALL.out ()).2.2.2.2.1.all y hy
        simp only [Ans.val, Prod.mk.injEq] at hv
        have := (s2 x hx).nm
        rw [hv.2.2.1]; omega⟩) (by omega)
      go_wp2_with fail
      refine (HCO.out _ (by repeat (with_reducible first | exact Gr.refl _ | refine Gr.drew ?_))).mono ?_
      rintro e w5 ⟨ob, ys, rfl, hyl, hyv, hyf, hyok, hob, hg5⟩
      have hgr5 := (POST.out ()).2.2.2.2.2.trans hg5
      have k5 := (hgr5.block w.heap.size z1).trans HK1.out
      obtain ⟨c5, f5⟩ := row_all k5
      have HY : Hid _ := fun (_ : Unit) => And.intro hyv (And.intro hyf (And.intro hyok (And.intro hg5 hgr5)))
      clear hyv hyf hyok hg5 hgr5
      go_wp2_with fail
      obtain ⟨pr, pn, pok, pg, pl, _⟩ := POST.out ()
      obtain ⟨hyv, hyf, hyok, hg5, hgr5⟩ := HY.out ()
      obtain ⟨na', ncap', hne, hncap, hnmx, hnfive⟩ := owns_fivesV (fun _ => rfl) (owns_gr pr hg5)
      cases hne
      obtain ⟨fg1, fg2⟩ := fwd_good (na := na) (ncap := ncap) (aa := some ⟨ob, 0, none⟩) (acap := ns.length) h0 (ALL.out ()).2.2.2.2.1 ((ALL.out ()).2.2.2.2.2.2.trans hk') (by omega) pg pl hyv
      have hfst : FstOk w5 ⟨na, ncap, nodes, some ⟨ob, 0, none⟩, ns.length, ys⟩ := ⟨hncap, by show ys.length ≤ ns.length; omega, hnfive, pok, hyf, hyok⟩
      have hgg := (HGW.out.trans hgr5)
      refine bodyPost_ret (v := .tuple #[.agg (Fst.cells ⟨na, ncap, nodes, some ⟨ob, 0, none⟩, ns.length, ys⟩).toArray, .int .i64 0]) (by simp [results, Try.results4, go_sem, c5, Fst.cells, hyl]) rfl ⟨_, rfl, hfst.but ⟨⟨_, k5⟩⟩ (but2 _ _ _ _), fg1, fg2, ?_⟩
      repeat (with_reducible first | exact hgg | refine Gr.setCell ?_ (by simp) _)
set_option maxHeartbeats 1600000 in
theorem forward_bad (a : Option Addr) (cap : Nat) (l : List Spn) (w : World) (hl : SpansAt w a l) (h0 : spnsF l ≠ 0) :
    Calls Try.prog 4 #[.slice a l.length cap] w fun e w' => e = .returned (.tuple #[.agg #[.slice none 0 0, .slice none 0 0], .int .i64 (spnsF l)]) ∧ Gr w w' := by
  have HC : Hid _ := fun W (h : SpansAt W a l) => checkSpans_any a cap l W h
  obtain ⟨E, hE⟩ : ∃ E, spnsF l = E := ⟨_, rfl⟩
  rw [hE] at h0
  simp only [hE] at HC ⊢
  clear hE
  have g0 : (E != 0) = true := by simpa using h0
  have l1 := hl.len
  unfold maxLen at l1
  go_enter Try.func4, Try.ntmps4
  go_wp2_with fail
  have gA : Gr w (w.alloc (Obj.cells #[.slice none 0 0, .slice none 0 0] 26)) := (Gr.refl _).alloc _
  refine (HC.out _ (hl.gr gA)).mono ?_
  rintro e w1 ⟨rfl, hg1⟩
  have k1 := (hg1.block w.heap.size (by simp)).trans (heapA w _)
  obtain ⟨c1, f1⟩ := row_all k1
  have hgw1 := gA.trans hg1
  clear hg1 gA k1
  go_wp2_with fail
  refine bodyPost_ret (v := .tuple #[.agg #[.slice none 0 0, .slice none 0 0], .int .i64 E]) (by simp [results, Try.results4, go_sem, c1]) rfl ⟨rfl, ?_⟩
  repeat (with_reducible first | exact hgw1 | refine Gr.setCell ?_ (by simp) _)
end Go.Proofs.Ytkgobfhabhimhaa
