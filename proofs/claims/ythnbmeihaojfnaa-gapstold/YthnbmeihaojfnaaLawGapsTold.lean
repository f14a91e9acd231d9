/- Proved: at every three numbers the law GapsTold returns true: the tree of what two clocks show tells a jump where no instant is shown, and both offsets where two are. No condition. -/
import Derived.Test.YthnbmeihaojfnaaInv
import Derived.Test.YthnbmeihaojfnaaTreE
import Derived.Test.YthnbmeihaojfnaaOpn
import Derived.Test.YthnbmeihaojfnaaOpnS
import Derived.Deep.RegionHeld3
import Derived.Test.YthnbmeihaojfnaaInvB
namespace Go.Proofs.Ythnbmeihaojfnaa
open Go.ChangeShapes Go.WideShapes Go.ChangeAt Go.RowKit
set_option linter.unusedVariables false
set_option maxRecDepth 100000
/-- Two spans, the clock of the second k ahead of the first's. -/
def two (o T k : Int) : List Spn := [⟨-2208988800, o, false, ⟨#[]⟩⟩, ⟨T, o + k, false, ⟨#[]⟩⟩]
structure TwoOk (o T k : Int) : Prop where
  o0 : 0 ≤ o
  o1 : o < 7200
  k0 : -7200 ≤ k
  k1 : k ≤ 7200
  t0 : -2207988800 ≤ T
  t1 : T < -2206988800
theorem two_ok {o T k : Int} (h : TwoOk o T k) : spnsF (two o T k) = 0 := by
  obtain ⟨h1, h2, h3, h4, h5, h6⟩ := h
  refine spnsF_0 (by simp [two]) (by simp [two]) fun i hi => ?_
  have hi2 : i < 2 := by simpa [two] using hi
  have hc : i = 0 ∨ i = 1 := by omega
  rcases hc with rfl | rfl
  · rw [spnE_at (x := ⟨-2208988800, o, false, ⟨#[]⟩⟩) rfl]
    refine spnF_0 (by show ¬ 24 < 0; omega) ⟨by simp [Tre.inB], ?_⟩ (by simp)
    simp [Tre.okOff, Tre.inB]; omega
  · rw [spnE_at (x := ⟨T, o + k, false, ⟨#[]⟩⟩) rfl]
    refine spnF_0 (by show ¬ 24 < 0; omega) ⟨?_, ?_⟩ ?_
    · simp [Tre.inB]; omega
    · simp [Tre.okOff, Tre.inB]; omega
    · simp [prevF, two]; omega
theorem two_good {o T k : Int} (h : TwoOk o T k) : ∀ x ∈ two o T k, SpnGood x := (spans_good (two_ok h)).2.2.1
theorem offs_le (n : Int) : ∀ l : List Spn, (offsR n l).length ≤ l.length
  | [] => Nat.le_refl _
  | x :: r => by
    have := offs_le n r
    unfold offsR
    split <;> simp <;> omega
theorem two_no {o T k : Int} (h : TwoOk o T k) : ¬ ((∃ n ∈ edges (two o T k), 6 < (offsR n (two o T k)).length) ∨ 2000 < (edges (two o T k)).length) := by
  rintro (⟨n, _, h6⟩ | h2)
  · have := offs_le n (two o T k)
    have h3 : (two o T k).length = 2 := rfl
    omega
  · have := (edges_law (two_good h)).2
    have h3 : (two o T k).length = 2 := rfl
    omega
theorem two_local {o T k t : Int} (c1 : Bool) (c2 : Bool) (h1 : decide (-2208988800 + o ≤ t ∧ t < T + o) = c1) (h2 : decide (T + (o + k) ≤ t ∧ t < 4102444800 + (o + k)) = c2) : offsR t (two o T k) = (if c1 = true then [o] else []) ++ ((if c2 = true then [o + k] else []) ++ []) := by
  subst h1
  subst h2
  rfl
theorem two_gap {o T k p : Int} (h : TwoOk o T k) (p0 : 0 ≤ p) (p1 : p < k) : localV (two o T k) (T + o + p) = (0, false, ⟨#[]⟩, [], T) := by
  obtain ⟨h1, h2, h3, h4, h5, h6⟩ := h
  have e := two_local (o := o) (T := T) (k := k) (t := T + o + p) false false (by simp; omega) (by simp; omega)
  have j : jumpR (T + o + p) (two o T k) = T := by
    simp only [two, jumpR]
    rw [if_neg (by omega), if_pos (by omega)]
  simp [localV, localJ, e, j]
theorem two_low {o T k : Int} (h : TwoOk o T k) : localV (two o T k) (-2208988800 + o - 1) = (0, false, ⟨#[]⟩, [], -2208988800) := by
  obtain ⟨h1, h2, h3, h4, h5, h6⟩ := h
  have e := two_local (o := o) (T := T) (k := k) (t := -2208988800 + o - 1) false false (by simp; omega) (by simp; omega)
  have j : jumpR (-2208988800 + o - 1) (two o T k) = -2208988800 := by
    simp only [two, jumpR]
    rw [if_pos (by omega)]
  simp [localV, localJ, e, j]
theorem two_high {o T k : Int} (h : TwoOk o T k) : localV (two o T k) (4102444800 + o + k) = (0, false, ⟨#[]⟩, [], 4102444800) := by
  obtain ⟨h1, h2, h3, h4, h5, h6⟩ := h
  have e := two_local (o := o) (T := T) (k := k) (t := 4102444800 + o + k) false false (by simp; omega) (by simp; omega)
  have j : jumpR (4102444800 + o + k) (two o T k) = 4102444800 := by
    simp only [two, jumpR]
    rw [if_neg (by omega), if_neg (by omega)]
  simp [localV, localJ, e, j]
theorem two_both {o T k p : Int} (h : TwoOk o T (-k)) (p0 : 0 ≤ p) (p1 : p < k) : localV (two o T (-k)) (T + o - 1 - p) = (0, false, ⟨#[]⟩, [o, o - k], 0) := by
  obtain ⟨h1, h2, h3, h4, h5, h6⟩ := h
  have e := two_local (o := o) (T := T) (k := -k) (t := T + o - 1 - p) true true (by simp; omega) (by simp; omega)
  rw [show o + -k = o - k by omega] at e
  simp [localV, localJ, e]
/-- The two spans in memory. -/
theorem two_at {w : World} {g : Nat} {o T k : Int} {t : TypeId} (h : TwoOk o T k) (hb : w.heap[g]? = some (.cells #[.int .i64 (-2208988800), .int .i64 o, .bool false, .string ⟨#[]⟩, .int .i64 T, .int .i64 (o + k), .bool false, .string ⟨#[]⟩] t)) : SpansAt w (some ⟨g, 0, none⟩) (two o T k) := by
  obtain ⟨h1, h2, h3, h4, h5, h6⟩ := h
  have hlt := (Array.getElem?_eq_some_iff.1 hb).1
  have c := (row_all hb).1
  refine ⟨by unfold maxLen; simp [two], fun i x hx => ?_⟩
  have hi : i = 0 ∨ i = 1 := by
    have := (List.getElem?_eq_some_iff.1 hx).1
    simp [two] at this
    omega
  rcases hi with rfl | rfl
  · simp [two] at hx
    subst hx
    exact ⟨⟨Nat.zero_le _, WalkArith.wf_i64 ⟨by simp only; omega, by simp only; omega⟩, WalkArith.wf_i64 ⟨by simp only; omega, by simp only; omega⟩⟩, g, 0, rfl, hlt, c 0, c 1, c 2, c 3⟩
  · simp [two] at hx
    subst hx
    exact ⟨⟨Nat.zero_le _, WalkArith.wf_i64 ⟨by simp only; omega, by simp only; omega⟩, WalkArith.wf_i64 ⟨by simp only; omega, by simp only; omega⟩⟩, g, 0, rfl, hlt, c 4, c 5, c 6, c 7⟩
theorem two_ints {a b : Nat} {o z : Int} {w : World} (h : IntsAt w (some ⟨a, b, none⟩) [o, z]) : ∀ j, j < [o, z].length → w.cell? ⟨a, b + j, none⟩ = some (.int .i64 ([o, z].getD j 0)) := by
  intro j hj
  have h2 : j = 0 ∨ j = 1 := by simp at hj; omega
  rcases h2 with rfl | rfl
  · obtain ⟨a', b', e, _, hc⟩ := h.cell 0 o rfl
    cases e
    exact hc
  · obtain ⟨a', b', e, _, hc⟩ := h.cell 1 z rfl
    cases e
    exact hc
theorem two_row {o z : Int} (w : World) {t : TypeId} : ∀ j, j < [o, z].length → (w.alloc (.cells #[.int .i64 o, .int .i64 z] t)).cell? ⟨w.heap.size, 0 + j, none⟩ = some (.int .i64 ([o, z].getD j 0)) := by
  intro j hj
  have h2 : j = 0 ∨ j = 1 := by simp at hj; omega
  rcases h2 with rfl | rfl
  · exact (row_all (heapA w _)).1 0
  · exact (row_all (heapA w _)).1 1
theorem inv_two {o T k z : Int} {g : Nat} {t : TypeId} (w : World) (h : TwoOk o T k) (hz : o + k = z) (hb : w.heap[g]? = some (.cells #[.int .i64 (-2208988800), .int .i64 o, .bool false, .string ⟨#[]⟩, .int .i64 T, .int .i64 z, .bool false, .string ⟨#[]⟩] t)) :
    Calls Try.prog 5 #[.slice (some ⟨g, 0, none⟩) 2 2] w fun e w' => ∃ (f : Fst) (na aa : Option Addr) (nn nc mm mc : Nat), f.cells = [.slice na nn nc, .slice aa mm mc] ∧ e = .returned (.tuple #[.agg #[.slice na nn nc, .slice aa mm mc], .int .i64 0]) ∧ FstOk w' f ∧ forF f = 0 ∧ (∀ t, (evalA f t).val = localV (two o T k) t) ∧ Gr w w' := by
  subst hz
  refine (inverse_any (some ⟨g, 0, none⟩) 2 (two o T k) w (two_at h hb) (Nat.le_refl _) (by omega) (two_ok h)).mono fun e w' hp => ?_
  rcases hp.tells with ⟨f, rfl, hf, hg, ht⟩ | ⟨_, hno⟩
  · obtain ⟨na, nc, nodes, aa, mc, answers⟩ := f
    refine ⟨⟨na, nc, nodes, aa, mc, answers⟩, na, aa, nodes.length, nc, answers.length, mc, rfl, rfl, hf, hg, fun t => ?_, hp.gr⟩
    obtain ⟨y, hy, hv⟩ := ht t
    rw [evalA_yes hg hy, hv]
  · exact absurd hno (two_no h)
theorem eval_two {o T k t J : Int} {zs : List Int} {f : Fst} {na aa : Option Addr} {nn nc mm mc : Nat} (w : World) (hc : f.cells = [.slice na nn nc, .slice aa mm mc]) (hf : FstOk w f) (hg : forF f = 0) (ht : ∀ t, (evalA f t).val = localV (two o T k) t) (hv : localV (two o T k) t = (0, false, ⟨#[]⟩, zs, J)) :
    Calls Try.prog 16 #[.agg #[.slice na nn nc, .slice aa mm mc], .int .i64 t] w fun e w' => ∃ (a : Option Addr) (cap : Nat), e = .returned (.tuple #[.agg #[.int .i64 0, .bool false, .string ⟨#[]⟩, .slice a zs.length cap, .int .i64 J], .int .i64 0]) ∧ IntsAt w' a zs ∧ Gr w w' := by
  have h := eval_any f t w hf
  rw [hc] at h
  refine h.mono fun e w' ⟨y, he, hy, hyv, hgr⟩ => ?_
  rw [ht t, hv] at hyv
  obtain ⟨off, sv, nm, a, cap, ys, j⟩ := y
  unfold Ans.val at hyv
  simp only [Prod.mk.injEq] at hyv
  obtain ⟨rfl, rfl, rfl, rfl, rfl⟩ := hyv
  rw [hg] at he
  exact ⟨a, cap, he, hy.zs, hgr⟩
/-- A row of none or of two and more ints lies in no answer's box. -/
theorem ints_box {w w' : World} {gb : Nat} {a : Option Addr} {zs : List Int} (hz : IntsAt w a zs) (h1 : zs.length ≠ 1) (k : w.heap[gb]? = some (.cells #[.int .i64 0, .bool false, .string ⟨#[]⟩, .slice none 0 0, .int .i64 0] 39)) (hk : ∀ b, b ≠ gb → w'.heap[b]? = w.heap[b]?) (hs : w.heap.size ≤ w'.heap.size) : IntsAt w' a zs := by
  refine ⟨hz.len, fun i z hi => ?_⟩
  obtain ⟨b, o, e, hb, hc⟩ := hz.cell i z hi
  by_cases hg : b = gb
  · exfalso
    subst hg
    have hl := (List.getElem?_eq_some_iff.1 hi).1
    obtain ⟨_, _, e0, _, c0⟩ := hz.cell 0 zs[0] (List.getElem?_eq_getElem (by omega))
    obtain ⟨_, _, e1, _, c1⟩ := hz.cell 1 zs[1] (List.getElem?_eq_getElem (by omega))
    rw [e] at e0 e1
    cases e0
    cases e1
    rw [(row_all k).1] at c0 c1
    rcases o with _ | _ | _ | _ | _ | o
    all_goals simp at c0 c1
  · refine ⟨b, o, e, Nat.lt_of_lt_of_le hb hs, ?_⟩
    rw [← hc]
    simp only [World.cell?, hk b hg]
/-- An answer in a box of its own. -/
structure AnsBox (zs : List Int) (J : Int) (W wx : World) (gb : Nat) : Prop where
  box : ∃ (a : Option Addr) (cap : Nat), wx.heap[gb]? = some (.cells #[.int .i64 0, .bool false, .string ⟨#[]⟩, .slice a zs.length cap, .int .i64 J] 39) ∧ IntsAt wx a zs
  gr : Gr W wx
  lo : W.heap.size ≤ gb
theorem ansBox_alloc {zs : List Int} {n : Nat} {J : Int} {W w3 : World} {a : Option Addr} {cap : Nat} (hn : zs.length = n) (hg : Gr W w3) (hz : IntsAt w3 a zs) : AnsBox zs J W (w3.alloc (.cells #[.int .i64 0, .bool false, .string ⟨#[]⟩, .slice a n cap, .int .i64 J] 39)) w3.heap.size := by
  subst hn
  exact
  ⟨⟨a, cap, heapA _ _, hz.gr ((Gr.refl _).alloc _)⟩, hg.alloc _, hg.size⟩
theorem ansBox_set {zs : List Int} {n : Nat} {J : Int} {W w3 : World} {gb : Nat} {a : Option Addr} {cap : Nat} (hn : zs.length = n) (h1 : zs.length ≠ 1) (hg : Gr W w3) (hz : IntsAt w3 a zs) (k : w3.heap[gb]? = some (.cells #[.int .i64 0, .bool false, .string ⟨#[]⟩, .slice none 0 0, .int .i64 0] 39)) (hb : W.heap.size ≤ gb) : AnsBox zs J W (((((w3.setCell ⟨gb, 0, none⟩ (.int .i64 0)).setCell ⟨gb, 1, none⟩ (.bool false)).setCell ⟨gb, 2, none⟩ (.string ⟨#[]⟩)).setCell ⟨gb, 3, none⟩ (.slice a n cap)).setCell ⟨gb, 4, none⟩ (.int .i64 J)) gb := by
  subst hn
  have k1 := heap_setCell_same _ gb 4 _ _ (.int .i64 J) (heap_setCell_same _ gb 3 _ _ (.slice a zs.length cap) (heap_setCell_same _ gb 2 _ _ (.string ⟨#[]⟩) (heap_setCell_same _ gb 1 _ _ (.bool false) (heap_setCell_same w3 gb 0 _ _ (.int .i64 0) k))))
  refine ⟨⟨a, cap, by simpa using k1, ?_⟩, ?_, hb⟩
  · exact ints_box hz h1 k (fun b hb => set5_heapI b hb) (by simp [World.setCell])
  · exact ((((hg.setCell hb _).setCell hb _).setCell hb _).setCell hb _).setCell hb _
set_option maxHeartbeats 6400000 in
theorem gapsTold_walk (off n more : Int) (w : World) (h0 : (Lit.int .i64 off).wf = true) (h1 : (Lit.int .i64 n).wf = true) (h2 : (Lit.int .i64 more).wf = true) :
    Calls Try.prog 4 #[.int .i64 off, .int .i64 n, .int .i64 more] w fun e w' => e = .returned (.bool true) ∧ Gr w w' := by
  obtain ⟨k, hk⟩ : ∃ k, Cal.pk more 7200 = k - 1 := ⟨Cal.pk more 7200 + 1, by omega⟩
  have k0 := Cal.pk_lo more (show (0 : Int) < 7200 by omega)
  have k1 := Cal.pk_hi more (show (0 : Int) < 7200 by omega)
  rw [hk] at k0 k1
  have k2 : 1 + (k - 1) = k := by omega
  obtain ⟨o, ho⟩ : ∃ o, Cal.pk off 7200 = o := ⟨_, rfl⟩
  have o0 := Cal.pk_lo off (show (0 : Int) < 7200 by omega)
  have o1 := Cal.pk_hi off (show (0 : Int) < 7200 by omega)
  rw [ho] at o0 o1
  obtain ⟨T, hT⟩ : ∃ T, Cal.pk n 1000000 = T + 2207988800 := ⟨Cal.pk n 1000000 - 2207988800, by omega⟩
  have t0 := Cal.pk_lo n (show (0 : Int) < 1000000 by omega)
  have t1 := Cal.pk_hi n (show (0 : Int) < 1000000 by omega)
  rw [hT] at t0 t1
  have t2 : -2207988800 + (T + 2207988800) = T := by omega
  obtain ⟨p, hp⟩ : ∃ p, Cal.pk n k = p := ⟨_, rfl⟩
  have p0 := Cal.pk_lo n (show 0 < k by omega)
  have p1 := Cal.pk_hi n (show 0 < k by omega)
  rw [hp] at p0 p1
  have H1 : Hid _ := (show TwoOk o T k from ⟨o0, o1, by omega, by omega, by omega, by omega⟩)
  have H2 : Hid _ := (show TwoOk o T (-k) from ⟨o0, o1, by omega, by omega, by omega, by omega⟩)
  have hk1 : 0 < k := by omega
  have hk2 : k < 1099511627776 := by omega
  go_enter Try.func4, Try.ntmps4
  go_upto_region 5 with (first
    | (go_at_call 15; refine (picked_any _ _ _ (by assumption) (by omega) (by omega)).mono ?_; rintro e v1 ⟨rfl, hw⟩; subst v1)
    | (go_at_call 14; refine (window_any _).mono ?_; rintro e v1 ⟨rfl, hw⟩; subst v1))
  go_wp2_with fail
  refine (inv_two _ H1.out rfl (heapA w _)).mono ?_
  rintro e w1 ⟨f, na, aa, nn, nc, mm, mc, hfc, rfl, hf, hfg, hft, hg1⟩
  have hgr1 : Gr w w1 := ((Gr.refl _).alloc _).trans hg1
  have ka := (hg1.block w.heap.size (by simp)).trans (heapA w _)
  have KA : Hid _ := ka
  have HF : Hid _ := And.intro hf hgr1
  have HFC : Hid _ := hfc
  have HGAP : Hid _ := fun W (h : FstOk W f) => eval_two (t := T + o + p) W hfc h hfg hft (two_gap H1.out p0 p1)
  have HLOW : Hid _ := fun W (h : FstOk W f) => eval_two (t := -2208988800 + o - 1) W hfc h hfg hft (two_low H1.out)
  have HHIGH : Hid _ := fun W (h : FstOk W f) => eval_two (t := 4102444800 + o + k) W hfc h hfg hft (two_high H1.out)
  have zw1 : w.heap.size < w1.heap.size := Nat.lt_of_lt_of_le (by simp) hg1.size
  clear ka hg1 hgr1 hf hfc hft
  go_upto_region 7 with fail
  obtain ⟨W1, hW1⟩ : ∃ W1, W1 = w1.alloc (Obj.cells #[.slice na nn nc, .slice aa mm mc] 26) := ⟨_, rfl⟩
  rw [← hW1]
  have gW : Gr w1 W1 := by rw [hW1]; exact (Gr.refl _).alloc _
  have kW : W1.heap[w1.heap.size]? = some (.cells #[.slice na nn nc, .slice aa mm mc] 26) := by rw [hW1]; exact heapA _ _
  clear hW1
  have KW : Hid _ := kW
  obtain ⟨c1, f1⟩ := row_all kW
  have z1 : w1.heap.size < W1.heap.size := (Array.getElem?_eq_some_iff.1 kW).1
  have HFW : Hid _ := HF.out.1.gr gW
  clear kW
  have a1 : IntKind.i64.wrap (T + o) = T + o := IntWalk.i64_in _ ⟨by omega, by omega⟩
  have a2 : IntKind.i64.wrap (T + o + p) = T + o + p := IntWalk.i64_in _ ⟨by omega, by omega⟩
  go_cut [15, 16] (fun s15 s16 wx => ∃ gb : Nat, s15 = .pointer (some ⟨gb, 0, none⟩) ∧ s16 = .int .i64 0 ∧ AnsBox [] T W1 wx gb)
  case first =>
    go_region_with (first
      | (go_at_call 15; refine (picked_any _ _ _ (by assumption) (by omega) (by omega)).mono ?_; rintro e w2 ⟨rfl, hw2⟩; subst w2)
      | (go_at_call 16; refine (HGAP.out _ (HFW.out.gr (by repeat (with_reducible first | exact Gr.refl _ | refine Gr.drew ?_ | refine Gr.alloc ?_ _)))).mono ?_; rintro e w3 ⟨ga, gcap, rfl, hgz, hg3⟩
         try (have k3 : w3.heap[W1.heap.size]? = some (.cells #[.int .i64 0, .bool false, .string ⟨#[]⟩, .slice none 0 0, .int .i64 0] 39) := (hg3.block W1.heap.size (by simp)).trans (heapA W1 _)
              have c3 := (row_all k3).1
              have f3 := (row_all k3).2)))
    all_goals refine name_exitI _ (fun W2 hW2 => ?_)
    all_goals first
      | (have hB : AnsBox [] T W1 W2 w3.heap.size := by rw [hW2]; with_reducible refine ansBox_alloc (zs := []) rfl (Gr.trans ?_ hg3) hgz; repeat (with_reducible first | exact Gr.refl _ | refine Gr.drew ?_ | refine Gr.alloc ?_ _))
      | (have hB : AnsBox [] T W1 W2 W1.heap.size := by rw [hW2]; with_reducible refine ansBox_set (zs := []) rfl (by decide) (Gr.trans ?_ hg3) hgz k3 (Nat.le_refl _); repeat (with_reducible first | exact Gr.refl _ | refine Gr.drew ?_ | refine Gr.alloc ?_ _))
    all_goals clear hW2
    all_goals go_wp2_with fail
    all_goals go_meet
    all_goals exact ⟨_, rfl, rfl, hB⟩
  case rest =>
    obtain ⟨gb, rfl, rfl, hA1⟩ := hcut
    obtain ⟨ga, gcap, kg, _⟩ := hA1.box
    have hgc := hA1.gr
    have KG : Hid _ := kg
    have zg : gb < wc.heap.size := (Array.getElem?_eq_some_iff.1 kg).1
    have kf := (hgc.block _ z1).trans KW.out
    have KF : Hid _ := kf
    have zf : w1.heap.size < wc.heap.size := (Array.getElem?_eq_some_iff.1 kf).1
    have HFc : Hid _ := HFW.out.gr hgc
    have KAc : Hid _ := ((gW.trans hgc).block _ zw1).trans KA.out
    have zac : w.heap.size < wc.heap.size := Nat.lt_of_lt_of_le zw1 (gW.trans hgc).size
    have HGc : Hid _ := HF.out.2.trans (gW.trans hgc)
    obtain ⟨cf, ff⟩ := row_all kf
    clear kf kg hgc hA1 c1 f1 gW a1 a2
    have a3 : IntKind.i64.wrap (-2208988800 + o) = -2208988800 + o := IntWalk.i64_in _ ⟨by omega, by omega⟩
    have a4 : IntKind.i64.wrap (-2208988800 + o - 1) = -2208988800 + o - 1 := IntWalk.i64_in _ ⟨by omega, by omega⟩
    have a5 : IntKind.i64.wrap (4102444800 + o) = 4102444800 + o := IntWalk.i64_in _ ⟨by omega, by omega⟩
    have a6 : IntKind.i64.wrap (4102444800 + o + k) = 4102444800 + o + k := IntWalk.i64_in _ ⟨by omega, by omega⟩
    go_wp2_with fail
    refine (HLOW.out _ (HFc.out.gr (by repeat (with_reducible first | exact Gr.refl _ | refine Gr.drew ?_ | refine Gr.alloc ?_ _)))).mono ?_
    rintro e w4 ⟨la, lcap, rfl, _, hg4⟩
    have kf4 := (hg4.block _ zf).trans KF.out
    have KF4 : Hid _ := kf4
    have zf4 : w1.heap.size < w4.heap.size := Nat.lt_of_lt_of_le zf hg4.size
    have KG4 : Hid _ := (hg4.block _ zg).trans KG.out
    have zg4 : gb < w4.heap.size := Nat.lt_of_lt_of_le zg hg4.size
    have HF4 : Hid _ := HFc.out.gr hg4
    have KA4 : Hid _ := (hg4.block _ zac).trans KAc.out
    have za4 : w.heap.size < w4.heap.size := Nat.lt_of_lt_of_le zac hg4.size
    have HG4 : Hid _ := HGc.out.trans hg4
    obtain ⟨cf4, ff4⟩ := row_all kf4
    clear hg4 kf4 cf ff
    go_wp2_with fail
    refine (HHIGH.out _ (HF4.out.gr (by repeat (with_reducible first | exact Gr.refl _ | refine Gr.drew ?_ | refine Gr.alloc ?_ _)))).mono ?_
    rintro e w5 ⟨ha, hcap, rfl, _, hg5⟩
    have g45 : Gr w4 w5 := ((Gr.refl _).alloc _).trans hg5
    have KL5 : Hid _ := (hg5.block w4.heap.size (by simp)).trans (heapA w4 _)
    have zl5 : w4.heap.size < w5.heap.size := Nat.lt_of_lt_of_le (by simp) hg5.size
    have KG5 : Hid _ := (g45.block _ zg4).trans KG4.out
    have zg5 : gb < w5.heap.size := Nat.lt_of_lt_of_le zg4 g45.size
    have ka5 := (g45.block _ za4).trans KA4.out
    have KA5 : Hid _ := ka5
    have za5 : w.heap.size < w5.heap.size := Nat.lt_of_lt_of_le za4 g45.size
    have HG5 : Hid _ := HG4.out.trans g45
    obtain ⟨ca5, fa5⟩ := row_all ka5
    clear ka5 g45 hg5 cf4 ff4
    have a7 : IntKind.i64.wrap (o - k) = o - k := IntWalk.i64_in _ ⟨by omega, by omega⟩
    go_wp2_with fail
    refine (inv_two _ H2.out (by omega) (heapC w5 _ _)).mono ?_
    rintro e w6 ⟨f2, nb, ab, nn2, nc2, mm2, mc2, hfc2, rfl, hf2, hfg2, hft2, hg6⟩
    have g56 : Gr w5 w6 := (((Gr.refl _).alloc _).alloc _).trans hg6
    obtain ⟨W6, hW6⟩ : ∃ W, W = w6.alloc (Obj.cells #[.slice nb nn2 nc2, .slice ab mm2 mc2] 26) := ⟨_, rfl⟩
    have g6W : Gr w6 W6 := by rw [hW6]; exact (Gr.refl _).alloc _
    have g5W := g56.trans g6W
    have KH6 : Hid _ := ((hg6.trans g6W).block w5.heap.size (by simp; omega)).trans (heapB w5 _ _)
    have zh6 : w5.heap.size < W6.heap.size := Nat.lt_of_lt_of_le (by simp; omega) (hg6.trans g6W).size
    have KL6 : Hid _ := (g5W.block _ zl5).trans KL5.out
    have zl6 : w4.heap.size < W6.heap.size := Nat.lt_of_lt_of_le zl5 g5W.size
    have KG6 : Hid _ := (g5W.block _ zg5).trans KG5.out
    have zg6 : gb < W6.heap.size := Nat.lt_of_lt_of_le zg5 g5W.size
    have HG6 : Hid _ := HG5.out.trans g5W
    have HF6 : Hid _ := hf2.gr g6W
    have HBOTH : Hid _ := fun W (h : FstOk W f2) => eval_two (t := T + o - 1 - p) W hfc2 h hfg2 hft2 (two_both H2.out p0 p1)
    have kf6 : W6.heap[w6.heap.size]? = some (.cells #[.slice nb nn2 nc2, .slice ab mm2 mc2] 26) := by rw [hW6]; exact heapA _ _
    have zf6 : w6.heap.size < W6.heap.size := by rw [hW6]; simp
    obtain ⟨cf6, ff6⟩ := row_all kf6
    have b1 : IntKind.i64.wrap (T + o) = T + o := IntWalk.i64_in _ ⟨by omega, by omega⟩
    have b2 : IntKind.i64.wrap (T + o - 1) = T + o - 1 := IntWalk.i64_in _ ⟨by omega, by omega⟩
    have b3 : IntKind.i64.wrap (T + o - 1 - p) = T + o - 1 - p := IntWalk.i64_in _ ⟨by omega, by omega⟩
    clear hfc2 hf2 hft2 hg6 g56 g6W g5W kf6 ca5 fa5
    go_upto_region 11 with fail
    rw [← hW6]
    clear hW6
    go_cut [23, 24] (fun s23 s24 wx => ∃ bb : Nat, s23 = .pointer (some ⟨bb, 0, none⟩) ∧ s24 = .int .i64 0 ∧ AnsBox [o, o - k] 0 W6 wx bb)
    case first =>
      go_region_with (first
        | (go_at_call 15; refine (picked_any _ _ _ (by assumption) (by omega) (by omega)).mono ?_; rintro e w7 ⟨rfl, hw7⟩; subst w7)
        | (go_at_call 16; refine (HBOTH.out _ (HF6.out.gr (by repeat (with_reducible first | exact Gr.refl _ | refine Gr.drew ?_ | refine Gr.alloc ?_ _)))).mono ?_; rintro e w8 ⟨ba, bcap, rfl, hbz, hg8⟩
           try (have k8 : w8.heap[W6.heap.size]? = some (.cells #[.int .i64 0, .bool false, .string ⟨#[]⟩, .slice none 0 0, .int .i64 0] 39) := (hg8.block W6.heap.size (by simp)).trans (heapA W6 _)
                have c8 := (row_all k8).1
                have f8 := (row_all k8).2)))
      all_goals refine name_exitI _ (fun W9 hW9 => ?_)
      all_goals first
        | (have hB : AnsBox [o, o - k] 0 W6 W9 w8.heap.size := by rw [hW9]; with_reducible refine ansBox_alloc (zs := [o, o - k]) rfl (Gr.trans ?_ hg8) hbz; repeat (with_reducible first | exact Gr.refl _ | refine Gr.drew ?_ | refine Gr.alloc ?_ _))
        | (have hB : AnsBox [o, o - k] 0 W6 W9 W6.heap.size := by rw [hW9]; with_reducible refine ansBox_set (zs := [o, o - k]) rfl (by simp) (Gr.trans ?_ hg8) hbz k8 (Nat.le_refl _); repeat (with_reducible first | exact Gr.refl _ | refine Gr.drew ?_ | refine Gr.alloc ?_ _))
      all_goals clear hW9
      all_goals go_wp2_with fail
      all_goals go_meet
      all_goals exact ⟨_, rfl, rfl, hB⟩
    case rest =>
      obtain ⟨bb, rfl, rfl, hA2⟩ := hcut
      obtain ⟨ba, bcap, kb, hbz⟩ := hA2.box
      have hgd := hA2.gr
      have HBZ : Hid _ := hbz
      have cg := (row_all ((hgd.block _ zg6).trans KG6.out)).1
      have cl := (row_all ((hgd.block _ zl6).trans KL6.out)).1
      have ch := (row_all ((hgd.block _ zh6).trans KH6.out)).1
      have cb := (row_all kb).1
      have HGd : Hid _ := HG6.out.trans hgd
      obtain ⟨eb, eo, hba, _, _⟩ := hbz.cell 0 o rfl
      subst hba
      clear hgd hbz kb hA2
      go_wp2_with fail
      refine (Try.slices_Equal_int eb eo 2 bcap wc.heap.size 0 2 2 [o, o - k] [o, o - k] _ (by simp) (by simp) (by omega) (by omega) (two_ints (HBZ.out.gr (by exact (Gr.refl _).alloc _))) (two_row wc)).mono ?_
      rintro e w9 ⟨rfl, q, rfl⟩
      have e9 : ([o, o - k].take 2 == [o, o - k].take 2) = true := by simp
      rw [e9]
      go_wp2_with fail
      go_ret
      exact ⟨rfl, (HGd.out.alloc _).drewN _⟩

theorem gapsTold_own : ownKnob Try.prog.godebug = none := by kernel_rfl
theorem gapsTold_laidOut : laidOutB Try.prog = true := by kernel_rfl
theorem gapsTold_rec : ∀ t ∈ Try.f4.params.toList, Try.prog.readableRec t = true ∧ t < Try.prog.types.size := by
  rw [Try.params4]
  intro t ht
  simp only [List.mem_cons, List.not_mem_nil, or_false] at ht
  rcases ht with rfl | rfl | rfl
  all_goals exact ⟨by kernel_rfl, of_decide_eq_true (by kernel_rfl)⟩
set_option maxRecDepth 100000 in
theorem gapsTold_lifted (os : Os) (started : os.Started) (H : Type) (enc : TypeId × Value → H) :
    ReturnsInHanded {} Try.checked os 4 .any (Rows.gapsToldSpec.pre6 enc Try.prog Try.f4 Rows.gapsToldRow.domain false) (Rows.gapsToldSpec.post enc Try.prog Try.f4 false true false false) := by
  refine returnsInHanded_of_change_sized (C := Try.checked) gapsTold_own started (by kernel_rfl) Try.func4
    (ChangeSpec.witness6 (enc := enc) (C := Try.checked) false ⟨#[], #[.int .i64 0, .int .i64 0, .int .i64 0], []⟩ 8 (by kernel_rfl) (by kernel_rfl) (by kernel_rfl) (by kernel_rfl)) ?_
  intro W base args ds gs before hval0 hW hcnd hsz0 _
  have hval : ∀ (j : Nat) t v, Try.f4.params[j]? = some t → args[j]? = some v → Value.okWide Try.prog W .any base t v := hval0
  have hW' := hW
  obtain ⟨p, q, hA0, hV, rfl, hfz, hnd⟩ := hW
  have hA : DataW.TrodAll enc Try.prog W 0 (fun _ => true) true Try.f4.params.toList args.toList ds p := hA0
  have hAk := hA
  have hsz : (DataW.weightsEach Try.prog (Try.f4.params.toList ++ Rows.gapsToldSpec.plain.varTypes Try.prog) (ds ++ gs)).all (· ≤ reachBytes) = true := hsz0
  rw [Try.params4] at hA hval hsz
  obtain ⟨v0, vs0, d0, ds0, p0, q0, hargs, rfl, rfl, h0, r0⟩ := trodAll_cons hA
  obtain ⟨v1, vs1, d1, ds1, p1, q1, rfl, rfl, rfl, h1, r1⟩ := trodAll_cons r0
  obtain ⟨v2, vs2, d2, ds2, p2, q2, rfl, rfl, rfl, h2, r2⟩ := trodAll_cons r1
  obtain ⟨rfl, rfl, rfl⟩ := trodAll_nil r2
  obtain rfl : args = #[v0, v1, v2] := by cases args; simp_all
  obtain ⟨rfl, rfl⟩ := trodVars_none hV
  obtain ⟨x0, rfl, _, _, f0⟩ := open_int Try.underlying3 (hval 0 3 v0 rfl rfl) h0
  obtain ⟨x1, rfl, _, _, f1⟩ := open_int Try.underlying3 (hval 1 3 v1 rfl rfl) h1
  obtain ⟨x2, rfl, _, _, f2⟩ := open_int Try.underlying3 (hval 2 3 v2 rfl rfl) h2
  clear hA0 hval0 hsz0
  refine (gapsTold_walk x0 x1 x2 W f0 f1 f2).mono fun e W' ⟨he, hg⟩ => ?_
  subst he
  refine ⟨_, rfl, _, _, _, [], _, [], hW', ?_, gr_trodAll gapsTold_laidOut hg gapsTold_rec hAk (fun x hx => hW'.lt x (List.mem_append_left _ hx)) (fun x hx => by simpa using hW'.lt x (List.mem_append_left _ hx)), ?_, hg.frame _, fun h => by cases h⟩
  · exact trodAll_cons_mk (shut_bool Try.underlying4 _) trodAll_mk0
  · rfl

theorem gapsTold_holds : Rows.GapsToldSaid :=
  OpenClaim.holds_of_wide 4 Try.f4 rfl rfl rfl rfl rfl rfl rfl ⟨rfl, rfl, rfl, rfl, rfl⟩ rfl rfl rfl rfl rfl (by kernel_rfl) Try.func4 (by kernel_rfl)
    (of_decide_eq_true (by kernel_rfl)) (by unfold Func.isWrapper; first | (rw [if_pos (by decide +kernel)]; kernel_rfl) | (rw [if_neg (by decide +kernel)]; exact ⟨rfl, rfl⟩))
    (fun os started H enc _ => gapsTold_lifted os started H enc)
#print axioms gapsTold_holds
end Go.Proofs.Ythnbmeihaojfnaa
