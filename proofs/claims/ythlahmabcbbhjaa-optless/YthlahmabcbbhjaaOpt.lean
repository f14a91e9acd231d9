/- Contract: Opt: a forest made less. -/
import Derived.Test.YthlahmabcbbhjaaBal
import Derived.Test.YthlahmabcbbhjaaSha
import Derived.Test.YthlahmabcbbhjaaClo
namespace Go.Proofs.Ythlahmabcbbhjaa
open Go.ChangeShapes Go.WideShapes Go.ChangeAt Go.RowKit Go.Maps
set_option linter.unusedVariables false
theorem Made.weak {m s b m' s' b' : Bool} {f g : Fst} {w1 w w' : World} (h : Made m s b f g w w') (hg : Gr w1 w) (h1 : m' = true → m = true) (h2 : (m' || s' || b') = true → (m || s || b) = true) (h3 : (m' || b') = true → (m || b) = true) : Made m' s' b' f g w1 w' :=
  ⟨h.ok, h.good, h.same, hg.trans h.gr, fun k => h.twins (h1 k), fun k => h.least (h1 k), fun k => h.nodup (h2 k), fun k => h.deep (h3 k)⟩
theorem Made.but {m s b : Bool} {f g : Fst} {w w1 w' : World} {rb : Nat} (h : Made m s b f g w w1) (k : Box2 w1 rb) (hb : But w1 w' rb) (hr : w.heap.size ≤ rb) (ho : w'.os = w1.os) (ht : w'.output = w1.output) : Made m s b f g w w' :=
  ⟨h.ok.but k hb, h.good, h.same, ⟨ho.trans h.gr.os, ht.trans h.gr.out, by have := h.gr.size; have := hb.size; omega, fun x hx => (hb.block x (by omega)).trans (h.gr.block x hx)⟩, h.twins, h.least, h.nodup, h.deep⟩
theorem same_copy {f : Fst} (hG : Good f) (h0 : forF f = 0) {ys : List Ans} (hy : ys.map Ans.val = f.answers.map Ans.val) {na aa : Option Addr} {ncap acap : Nat} :
    forF ⟨na, ncap, f.nodes, aa, acap, ys⟩ = 0 ∧ Same f ⟨na, ncap, f.nodes, aa, acap, ys⟩ := by
  have hlen : ys.length = f.answers.length := by have := congrArg List.length hy; simpa using this
  have h1 := hG.ne
  have h2 := hG.n8
  have h3 := hG.a2
  have hval : ∀ i : Nat, (ys[i]?).map Ans.val = (f.answers[i]?).map Ans.val := fun i => by
    rw [← List.getElem?_map, ← List.getElem?_map, hy]
  constructor
  · refine forF_0 (by show f.nodes.length ≠ 0; omega) (by show ¬ (8000 < f.nodes.length ∨ 2000 < ys.length); omega) (fun i hi => ?_) (fun i hi => ?_)
    · obtain ⟨y, hyi⟩ : ∃ y, ys[i]? = some y := ⟨_, List.getElem?_eq_getElem hi⟩
      rw [ansE_at hyi]
      have hv := hval i
      rw [hyi] at hv
      cases hx : f.answers[i]? with
      | none => rw [hx] at hv; simp at hv
      | some x =>
        rw [hx] at hv
        simp only [Option.map_some, Option.some.injEq] at hv
        have hg := hG.ans x (List.mem_of_getElem? hx)
        simp only [Ans.val, Prod.mk.injEq] at hv
        obtain ⟨e1, e2, e3, e4, e5⟩ := hv
        unfold Ans.fault at hg ⊢
        rw [e1, e3, e4, e5]
        exact hg
    · obtain ⟨nd, hnd⟩ : ∃ y, f.nodes[i]? = some y := ⟨_, List.getElem?_eq_getElem hi⟩
      rw [nodE_at hnd]
      have := hG.node i nd hnd
      show Tre.nodF nd i (ys.length : Int) = 0
      rw [hlen]; exact this
  · refine ⟨fun t t1 t2 => ?_⟩
    obtain ⟨x, hx⟩ : ∃ x, f.answers[evalI f t]? = some x := ⟨_, List.getElem?_eq_getElem (hG.evalI_lt t).1⟩
    have hv := hval (evalI f t)
    rw [hx] at hv
    cases hyi : ys[evalI f t]? with
    | none => rw [hyi] at hv; simp at hv
    | some y =>
      rw [hyi] at hv
      simp only [Option.map_some, Option.some.injEq] at hv
      exact ⟨y, x, hyi, hx, hv⟩
def isM (n : Int) : Bool := decide (n % 2 = 1)
def isS (n : Int) : Bool := decide (n / 2 % 2 = 1)
def isB (n : Int) : Bool := decide (n / 4 % 2 = 1)
set_option maxHeartbeats 3200000 in
theorem opt_far (f : Fst) (n : Int) (w : World) (hf : FstOk w f) (hn : forF f = 0 → n < 0 ∨ 7 < n) :
    Calls Try.prog 6 #[.agg f.cells.toArray, .int .i64 n] w fun e w' => e = .returned (.tuple #[.agg #[.slice none 0 0, .slice none 0 0], .int .i64 (if forF f = 0 then 2 else forF f)]) ∧ Gr w w' := by
  have HC : Hid _ := fun W (hg : Gr w W) => check_any f W (hf.gr hg)
  obtain ⟨E, hE⟩ : ∃ E, forF f = E := ⟨_, rfl⟩
  rw [hE] at hn
  simp only [hE] at HC ⊢
  have HFC : Hid _ := hE
  clear hE
  obtain ⟨na, ncap, nodes, aa, acap, answers⟩ := f
  simp only [Fst.cells] at HC ⊢
  have HN : Hid _ := hn
  by_cases hE0 : E = 0
  · subst hE0
    have hn' := HN.out rfl
    clear hn
    simp only [if_true]
    go_enter Try.func6, Try.ntmps6
    go_wp2_with fail
    refine (HC.out _ (by repeat (with_reducible first | exact Gr.refl _ | refine Gr.drew ?_ | refine Gr.alloc ?_ _))).mono ?_
    rintro e w1 ⟨rfl, hgn⟩
    have hg1 := Gr.ofGrown hgn
    have hgw : Gr w w1 := (((Gr.refl _).alloc _).alloc _).trans hg1
    have k2 : w1.heap[w.heap.size + 1]? = some (.cells #[.slice none 0 0, .slice none 0 0] 25) := (hg1.block (w.heap.size + 1) (by simp)).trans (heapC w _ _)
    obtain ⟨c2, f2⟩ := row_all k2
    have HGW : Hid _ := hgw
    clear hg1 hgn hgw k2
    rcases Int.lt_or_le n 0 with g | g
    · have hb : decide (n < 0) = true := by simpa using g
      go_wp2_with fail
      refine bodyPost_ret (v := .tuple #[.agg #[.slice none 0 0, .slice none 0 0], .int .i64 2]) (by simp [results, Try.results6, go_sem, c2]) rfl ⟨rfl, ?_⟩
      repeat (with_reducible first | exact HGW.out | refine Gr.setCell ?_ (by simp) _)
    · have h7 : 7 < n := by omega
      have hb : decide (n < 0) = false := by simpa using g
      go_wp2_with fail
      refine bodyPost_ret (v := .tuple #[.agg #[.slice none 0 0, .slice none 0 0], .int .i64 2]) (by simp [results, Try.results6, go_sem, c2]) rfl ⟨rfl, ?_⟩
      repeat (with_reducible first | exact HGW.out | refine Gr.setCell ?_ (by simp) _)
  · rw [if_neg hE0]
    have g0 : (E != 0) = true := by simpa using hE0
    clear hn hE0
    go_enter Try.func6, Try.ntmps6
    go_wp2_with fail
    refine (HC.out _ (by repeat (with_reducible first | exact Gr.refl _ | refine Gr.drew ?_ | refine Gr.alloc ?_ _))).mono ?_
    rintro e w1 ⟨rfl, hgn⟩
    have hg1 := Gr.ofGrown hgn
    have hgw : Gr w w1 := (((Gr.refl _).alloc _).alloc _).trans hg1
    have k2 : w1.heap[w.heap.size + 1]? = some (.cells #[.slice none 0 0, .slice none 0 0] 25) := (hg1.block (w.heap.size + 1) (by simp)).trans (heapC w _ _)
    obtain ⟨c2, f2⟩ := row_all k2
    have HGW : Hid _ := hgw
    clear hg1 hgn hgw k2
    go_wp2_with fail
    refine bodyPost_ret (v := .tuple #[.agg #[.slice none 0 0, .slice none 0 0], .int .i64 E]) (by simp [results, Try.results6, go_sem, c2]) rfl ⟨rfl, ?_⟩
    repeat (with_reducible first | exact HGW.out | refine Gr.setCell ?_ (by simp) _)
set_option maxHeartbeats 6400000 in
theorem opt_merge (f : Fst) (n : Int) (w : World) (hf : FstOk w f) (h0 : forF f = 0) (hn : n = 1 ∨ n = 3 ∨ n = 5 ∨ n = 7) :
    Calls Try.prog 6 #[.agg f.cells.toArray, .int .i64 n] w fun e w' => ∃ g : Fst, e = .returned (.tuple #[.agg g.cells.toArray, .int .i64 0]) ∧ Made (isM n) (isS n) (isB n) f g w w' := by
  have HC : Hid _ := fun W (hg : Gr w W) => check_any f W (hf.gr hg)
  have HM : Hid _ := fun W (hg : Gr w W) => merge_any f W (hf.gr hg) (good_of h0)
  simp only [h0] at HC
  clear h0 hf
  obtain ⟨na, ncap, nodes, aa, acap, answers⟩ := f
  simp only [Fst.cells] at HC HM
  rcases hn with rfl | rfl | rfl | rfl
  all_goals
    simp only [Fst.cells]
    go_enter Try.func6, Try.ntmps6
    go_wp2_with fail
    refine (HC.out _ (by repeat (with_reducible first | exact Gr.refl _ | refine Gr.drew ?_ | refine Gr.alloc ?_ _))).mono ?_
    rintro e w1 ⟨rfl, hgn⟩
    have hg1 := Gr.ofGrown hgn
    have HGW : Hid _ := (show Gr w w1 from (((Gr.refl _).alloc _).alloc _).trans hg1)
    have k1 : w1.heap[w.heap.size]? = some (.cells #[.slice na nodes.length ncap, .slice aa answers.length acap] 25) := (hg1.block w.heap.size (by simp; omega)).trans (heapB w _ _)
    have k2 : w1.heap[w.heap.size + 1]? = some (.cells #[.slice none 0 0, .slice none 0 0] 25) := (hg1.block (w.heap.size + 1) (by simp)).trans (heapC w _ _)
    have K2 : Hid _ := k2
    have z2 : w.heap.size + 1 < w1.heap.size := (Array.getElem?_eq_some_iff.1 k2).1
    obtain ⟨c1, f1⟩ := row_all k1
    clear hg1 hgn k1 k2
    go_wp2_with fail
    refine (HM.out _ HGW.out).mono ?_
    rintro e w3 ⟨g, rfl, hM⟩
    have k3 := (hM.gr.block _ z2).trans K2.out
    obtain ⟨c3, f3⟩ := row_all k3
    have HMM : Hid _ := hM
    clear hM c1 f1
    go_wp2_with fail
    refine bodyPost_ret (v := .tuple #[.agg g.cells.toArray, .int .i64 0]) (by simp [results, Try.results6, go_sem, c3, Fst.cells]) rfl ⟨g, rfl, ((HMM.out.weak HGW.out (by decide) (by decide) (by decide)).but ⟨⟨_, k3⟩⟩ (but2 _ _ _ _) (by omega) rfl rfl)⟩
set_option maxHeartbeats 6400000 in
theorem opt_balance (f : Fst) (n : Int) (w : World) (hf : FstOk w f) (h0 : forF f = 0) (hn : n = 4 ∨ n = 6) :
    Calls Try.prog 6 #[.agg f.cells.toArray, .int .i64 n] w fun e w' => ∃ g : Fst, e = .returned (.tuple #[.agg g.cells.toArray, .int .i64 0]) ∧ Made (isM n) (isS n) (isB n) f g w w' := by
  have HC : Hid _ := fun W (hg : Gr w W) => check_any f W (hf.gr hg)
  have HM : Hid _ := fun W (hg : Gr w W) => balance_any f W (hf.gr hg) (good_of h0)
  simp only [h0] at HC
  clear h0 hf
  obtain ⟨na, ncap, nodes, aa, acap, answers⟩ := f
  simp only [Fst.cells] at HC HM
  rcases hn with rfl | rfl
  all_goals
    simp only [Fst.cells]
    go_enter Try.func6, Try.ntmps6
    go_wp2_with fail
    refine (HC.out _ (by repeat (with_reducible first | exact Gr.refl _ | refine Gr.drew ?_ | refine Gr.alloc ?_ _))).mono ?_
    rintro e w1 ⟨rfl, hgn⟩
    have hg1 := Gr.ofGrown hgn
    have HGW : Hid _ := (show Gr w w1 from (((Gr.refl _).alloc _).alloc _).trans hg1)
    have k1 : w1.heap[w.heap.size]? = some (.cells #[.slice na nodes.length ncap, .slice aa answers.length acap] 25) := (hg1.block w.heap.size (by simp; omega)).trans (heapB w _ _)
    have k2 : w1.heap[w.heap.size + 1]? = some (.cells #[.slice none 0 0, .slice none 0 0] 25) := (hg1.block (w.heap.size + 1) (by simp)).trans (heapC w _ _)
    have K2 : Hid _ := k2
    have z2 : w.heap.size + 1 < w1.heap.size := (Array.getElem?_eq_some_iff.1 k2).1
    obtain ⟨c1, f1⟩ := row_all k1
    clear hg1 hgn k1 k2
    go_wp2_with fail
    refine (HM.out _ HGW.out).mono ?_
    rintro e w3 ⟨g, rfl, hM⟩
    have k3 := (hM.gr.block _ z2).trans K2.out
    obtain ⟨c3, f3⟩ := row_all k3
    have HMM : Hid _ := hM
    clear hM c1 f1
    go_wp2_with fail
    refine bodyPost_ret (v := .tuple #[.agg g.cells.toArray, .int .i64 0]) (by simp [results, Try.results6, go_sem, c3, Fst.cells]) rfl ⟨g, rfl, ((HMM.out.weak HGW.out (by decide) (by decide) (by decide)).but ⟨⟨_, k3⟩⟩ (but2 _ _ _ _) (by omega) rfl rfl)⟩
set_option maxHeartbeats 6400000 in
theorem opt_share (f : Fst) (n : Int) (w : World) (hf : FstOk w f) (h0 : forF f = 0) (hn : n = 2) :
    Calls Try.prog 6 #[.agg f.cells.toArray, .int .i64 n] w fun e w' => ∃ g : Fst, e = .returned (.tuple #[.agg g.cells.toArray, .int .i64 0]) ∧ Made (isM n) (isS n) (isB n) f g w w' := by
  have HC : Hid _ := fun W (hg : Gr w W) => check_any f W (hf.gr hg)
  have HM : Hid _ := fun W (hg : Gr w W) => share_any f W (hf.gr hg) (good_of h0)
  simp only [h0] at HC
  clear h0 hf
  obtain ⟨na, ncap, nodes, aa, acap, answers⟩ := f
  simp only [Fst.cells] at HC HM
  rcases hn with rfl
  all_goals
    simp only [Fst.cells]
    go_enter Try.func6, Try.ntmps6
    go_wp2_with fail
    refine (HC.out _ (by repeat (with_reducible first | exact Gr.refl _ | refine Gr.drew ?_ | refine Gr.alloc ?_ _))).mono ?_
    rintro e w1 ⟨rfl, hgn⟩
    have hg1 := Gr.ofGrown hgn
    have HGW : Hid _ := (show Gr w w1 from (((Gr.refl _).alloc _).alloc _).trans hg1)
    have k1 : w1.heap[w.heap.size]? = some (.cells #[.slice na nodes.length ncap, .slice aa answers.length acap] 25) := (hg1.block w.heap.size (by simp; omega)).trans (heapB w _ _)
    have k2 : w1.heap[w.heap.size + 1]? = some (.cells #[.slice none 0 0, .slice none 0 0] 25) := (hg1.block (w.heap.size + 1) (by simp)).trans (heapC w _ _)
    have K2 : Hid _ := k2
    have z2 : w.heap.size + 1 < w1.heap.size := (Array.getElem?_eq_some_iff.1 k2).1
    obtain ⟨c1, f1⟩ := row_all k1
    clear hg1 hgn k1 k2
    go_wp2_with fail
    refine (HM.out _ HGW.out).mono ?_
    rintro e w3 ⟨g, rfl, hM⟩
    have k3 := (hM.gr.block _ z2).trans K2.out
    obtain ⟨c3, f3⟩ := row_all k3
    have HMM : Hid _ := hM
    clear hM c1 f1
    go_wp2_with fail
    refine bodyPost_ret (v := .tuple #[.agg g.cells.toArray, .int .i64 0]) (by simp [results, Try.results6, go_sem, c3, Fst.cells]) rfl ⟨g, rfl, ((HMM.out.weak HGW.out (by decide) (by decide) (by decide)).but ⟨⟨_, k3⟩⟩ (but2 _ _ _ _) (by omega) rfl rfl)⟩
set_option maxHeartbeats 6400000 in
theorem opt_none (f : Fst) (w : World) (hf : FstOk w f) (h0 : forF f = 0) :
    Calls Try.prog 6 #[.agg f.cells.toArray, .int .i64 0] w fun e w' => ∃ g : Fst, e = .returned (.tuple #[.agg g.cells.toArray, .int .i64 0]) ∧ Made false false false f g w w' := by
  have HC : Hid _ := fun W (hg : Gr w W) => check_any f W (hf.gr hg)
  have HFO : Hid _ := hf
  have HG : Hid _ := good_of h0
  have HCL : Hid _ := fun W (hg : Gr w W) => cloneN_any f.na f.ncap f.nodes W (hf.nat.gr hg) (good_of h0).ne (good_of h0).n8
  have HCO : Hid _ := fun W (hg : Gr w W) => copies_any f.aa f.acap f.answers W (hf.aat.gr hg) (fun y hy => ⟨(hf.aok y hy).gr hg, by have := (fault_small ((good_of h0).ans y hy)).1; omega, by have := (fault_small ((good_of h0).ans y hy)).2; omega⟩) (by have := (good_of h0).a2; omega)
  have HF0 : Hid _ := h0
  simp only [h0] at HC
  clear h0 hf
  obtain ⟨na, ncap, nodes, aa, acap, answers⟩ := f
  simp only [Fst.cells] at HC ⊢
  simp only at HCL HCO
  go_enter Try.func6, Try.ntmps6
  go_wp2_with fail
  refine (HC.out _ (by repeat (with_reducible first | exact Gr.refl _ | refine Gr.drew ?_ | refine Gr.alloc ?_ _))).mono ?_
  rintro e w1 ⟨rfl, hgn⟩
  have hg1 := Gr.ofGrown hgn
  have HGW : Hid _ := (show Gr w w1 from (((Gr.refl _).alloc _).alloc _).trans hg1)
  have k1 : w1.heap[w.heap.size]? = some (.cells #[.slice na nodes.length ncap, .slice aa answers.length acap] 25) := (hg1.block w.heap.size (by simp; omega)).trans (heapB w _ _)
  have k2 : w1.heap[w.heap.size + 1]? = some (.cells #[.slice none 0 0, .slice none 0 0] 25) := (hg1.block (w.heap.size + 1) (by simp)).trans (heapC w _ _)
  have K2 : Hid _ := k2
  have z2 : w.heap.size + 1 < w1.heap.size := (Array.getElem?_eq_some_iff.1 k2).1
  have c1 := (row_all k1).1
  have hO : w1.cell? ⟨w.heap.size, 0, none⟩ = some (.slice na nodes.length ncap) ∧ w1.cell? ⟨w.heap.size, 1, none⟩ = some (.slice aa answers.length acap) := ⟨c1 0, c1 1⟩
  clear hg1 hgn k1 k2 c1
  go_upto_region 12 with fail
  go_region_held3 (fun w' => w'.cell? ⟨w.heap.size, 0, none⟩ = some (.slice na nodes.length ncap) ∧ w'.cell? ⟨w.heap.size, 1, none⟩ = some (.slice aa answers.length acap)) (first | with_reducible exact hO | (simpa [go_sem] using hO))
    (first
      | (go_at_call 23; refine (HCL.out _ (by repeat (with_reducible first | exact HGW.out | refine Gr.drew ?_))).mono ?_; rintro e w3 ⟨v3, base, rfl, hrow3, hb3, hg3x⟩
         have hg3 : Gr w1 w3 := ⟨hg3x.os, hg3x.out, hg3x.size, hg3x.block⟩
         obtain ⟨nga, ngcap, hav⟩ : ∃ a c, v3 = .slice a nodes.length c := row_form hrow3
         subst hav
         have HROW : Hid _ := hrow3
         replace hO := And.intro ((hg3.cell _ 0 (by omega)).trans hO.1) ((hg3.cell _ 1 (by omega)).trans hO.2)
         clear hg3x hrow3)
      | (go_at_call 24; refine (HCO.out _ (by repeat (with_reducible first | exact HGW.out.trans hg3 | refine Gr.drew ?_))).mono ?_; rintro e w6 ⟨ob, ys, rfl, hyl, hyv, hyf, hyok, hob, hg6x⟩
         have hg6 : Gr w3 w6 := ⟨hg6x.os, hg6x.out, hg6x.size, hg6x.block⟩
         have hg16 := hg3.trans hg6
         replace hO := And.intro ((hg6.cell _ 0 (by have := hg3.size; omega)).trans hO.1) ((hg6.cell _ 1 (by have := hg3.size; omega)).trans hO.2)
         have k6 := (hg16.block (w.heap.size + 1) z2).trans K2.out
         have c6 := (row_all k6).1
         have f6 := (row_all k6).2
         clear hg6x))
  have hgr6 := HGW.out.trans hg16
  have HY : Hid _ := fun (_ : Unit) => And.intro hyv (And.intro hyf (And.intro hyok (And.intro hg6 hgr6)))
  have HYL : Hid _ := hyl
  clear hyv hyf hyok hg6 hgr6 hyl
  go_wp2_with fail
  obtain ⟨hyv, hyf, hyok, hg6, hgr6⟩ := HY.out ()
  have hyl := HYL.out
  obtain ⟨na', ncap', hne, hncap, hnmx, hnfive⟩ := owns_fivesV (cells := Nod.cells) (fun _ => rfl) (owns_gr HROW.out hg6)
  cases hne
  obtain ⟨fg1, fg2⟩ := same_copy (f := ⟨na, ncap, nodes, aa, acap, answers⟩) HG.out HF0.out hyv (na := nga) (ncap := ngcap) (aa := some ⟨ob, 0, none⟩) (acap := answers.length)
  have hfst : FstOk w6 ⟨nga, ngcap, nodes, some ⟨ob, 0, none⟩, answers.length, ys⟩ := ⟨hncap, by show ys.length ≤ answers.length; omega, hnfive, HFO.out.nok, hyf, hyok⟩
  refine bodyPost_ret (v := .tuple #[.agg (Fst.cells ⟨nga, ngcap, nodes, some ⟨ob, 0, none⟩, answers.length, ys⟩).toArray, .int .i64 0]) (by simp [results, Try.results6, go_sem, c6, Fst.cells, hyl]) rfl ⟨_, rfl, hfst.but ⟨⟨_, k6⟩⟩ (but2 _ _ _ _), fg1, fg2, ?_, fun h => (by cases h), fun h => (by cases h), fun h => (by cases h), fun h => (by cases h)⟩
  repeat (with_reducible first | exact hgr6 | refine Gr.setCell ?_ (by simp) _)
theorem opt_ok (f : Fst) (n : Int) (w : World) (hf : FstOk w f) (h0 : forF f = 0) (hn : 0 ≤ n) (hn7 : n ≤ 7) :
    Calls Try.prog 6 #[.agg f.cells.toArray, .int .i64 n] w fun e w' => ∃ g : Fst, e = .returned (.tuple #[.agg g.cells.toArray, .int .i64 0]) ∧ Made (isM n) (isS n) (isB n) f g w w' := by
  by_cases h1 : n = 1 ∨ n = 3 ∨ n = 5 ∨ n = 7
  · exact opt_merge f n w hf h0 h1
  by_cases h2 : n = 4 ∨ n = 6
  · exact opt_balance f n w hf h0 h2
  by_cases h3 : n = 2
  · exact opt_share f n w hf h0 h3
  have h4 : n = 0 := by omega
  subst h4
  exact opt_none f w hf h0
end Go.Proofs.Ythlahmabcbbhjaa
