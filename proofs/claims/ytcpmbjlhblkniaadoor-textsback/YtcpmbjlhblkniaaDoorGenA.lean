/- Contract: Gen (P5.4). -/
import Derived.Test.YtcpmbjlhblkniaaDoorGenZ
import Derived.Test.YtcpmbjlhblkniaaDoorRevI
import Derived.Test.YtcpmbjlhblkniaaDoorCopC
import Derived.Test.YtcpmbjlhblkniaaDoorTreN
import Derived.Carry
namespace Go.Proofs.YtcpmbjlhblkniaaDoor
open Go.ChangeShapes Go.WideShapes Go.ChangeAt Go.RowKit Go.Maps
set_option linter.unusedVariables false
set_option maxRecDepth 100000
/-- What Gen answers. -/
structure GenPost (f : Fst) (w : World) (e : Ending) (w' : World) : Prop where
  gr : Gr w w'
  bad : forF f ≠ 0 → e = .returned (.tuple #[.agg #[.slice none 0 0, .slice none 0 0, .slice none 0 0], .int .i64 (forF f)])
  big : forF f = 0 → (8000 < (Gn.all f.nodes).code.length ∨ 2000 < (Gn.all f.nodes).pool.length) → e = .returned (.tuple #[.agg #[.slice none 0 0, .slice none 0 0, .slice none 0 0], .int .i64 1])
  good : forF f = 0 → (Gn.all f.nodes).code.length ≤ 8000 → (Gn.all f.nodes).pool.length ≤ 2000 → ∃ p : Prg, e = .returned (.tuple #[.agg p.cells.toArray, .int .i64 0]) ∧ PrgOk w' p ∧ p.code = (Gn.all f.nodes).code ∧ p.pool = (Gn.all f.nodes).pool ∧ p.answers.map Ans.val = f.answers.map Ans.val
theorem owns_empty {w : World} {M : Nat} (hM : w.heap[M]? = some (.map #[] 0)) : w.ownsMap Tryd.prog 3 (plainElem Tryd.prog 3) M 0 (.map [] : DataW Unit) := by
  obtain ⟨es, cl, h1, h2⟩ := World.ownsMap_made (H := Unit) w Tryd.prog 3 (plainElem Tryd.prog 3)
  rw [heapA] at h1
  cases h1
  exact ⟨_, _, hM, h2⟩
/-- A writer that has written nothing. -/
theorem gm_start {w0 w : World} {wb lb M : Nat} {na : Option Addr} {ncap : Nat} {nodes : List Tre.Nod}
    (hb : w.heap[wb]? = some (.cells #[.slice na nodes.length ncap, .slice none 0 0, .slice (some ⟨lb, 0, none⟩) nodes.length nodes.length, .slice none 0 0, .map (some M)] 91))
    (hl : w.heap[lb]? = some (.cells (madeCells #[.int .i64 0] nodes.length) 3)) (hM : w.heap[M]? = some (.map #[] 0)) (hg : Gr w0 w) (hn : FivesAt w0 na nodes Nod.cells) (hk : ∀ x ∈ nodes, NodOk x)
    (h1 : w0.heap.size ≤ wb) (h2 : w0.heap.size ≤ lb) (h3 : w0.heap.size ≤ M) : GM w0 w.heap.size wb lb M na ncap nodes ⟨[], fun _ => 0, []⟩ w :=
  ⟨.slice none 0 0, .slice none 0 0, _, .map [], ⟨hb, owns_nil _ _ _ _, hl, by simp [madeCells], fun i hi => by simp [madeCells, hi, Nat.mod_one], owns_nil _ _ _ _, ⟨owns_empty hM, ⟨_, rfl⟩, fun i => rfl, fun i h => by simp at h⟩, hg, hn, hk, h1, h2, h3, (Array.getElem?_eq_some_iff.1 hb).1, (Array.getElem?_eq_some_iff.1 hl).1, (Array.getElem?_eq_some_iff.1 hM).1, Nat.le_refl _⟩⟩
theorem heap30 (w : World) (a b c : Obj) : (((w.alloc a).alloc b).alloc c).drew.heap[w.heap.size]? = some a := by
  show (((w.alloc a).alloc b).alloc c).heap[w.heap.size]? = _
  rw [Below.heap_alloc _ _ _ (by simp; omega)]
  exact heapB w a b
theorem heap31 (w : World) (a b c : Obj) : (((w.alloc a).alloc b).alloc c).drew.heap[w.heap.size + 1]? = some b := by
  show (((w.alloc a).alloc b).alloc c).heap[w.heap.size + 1]? = _
  rw [Below.heap_alloc _ _ _ (by simp)]
  exact heapC w a b
theorem heap32 (w : World) (a b c : Obj) : (((w.alloc a).alloc b).alloc c).drew.heap[w.heap.size + 1 + 1]? = some c := by
  have h := heapA ((w.alloc a).alloc b) c
  rw [show ((w.alloc a).alloc b).heap.size = w.heap.size + 1 + 1 by simp] at h
  exact h
theorem gr3 (w : World) (a b c : Obj) : Gr w (((w.alloc a).alloc b).alloc c).drew := ((((Gr.refl w).alloc _).alloc _).alloc _).drew
theorem gm_0 {w : World} {na : Option Addr} {ncap : Nat} {nodes : List Tre.Nod} (hn : FivesAt w na nodes Nod.cells) (hk : ∀ x ∈ nodes, NodOk x) :
    GM w (((w.alloc (.cells (madeCells #[.int .i64 0] nodes.length) 3)).alloc (.map #[] 0)).alloc (.cells #[.slice na nodes.length ncap, .slice none 0 0, .slice (some ⟨w.heap.size, 0, none⟩) nodes.length nodes.length, .slice none 0 0, .map (some (w.heap.size + 1))] 91)).drew.heap.size (w.heap.size + 1 + 1) (w.heap.size) (w.heap.size + 1) na ncap nodes ⟨[], fun _ => 0, []⟩ (((w.alloc (.cells (madeCells #[.int .i64 0] nodes.length) 3)).alloc (.map #[] 0)).alloc (.cells #[.slice na nodes.length ncap, .slice none 0 0, .slice (some ⟨w.heap.size, 0, none⟩) nodes.length nodes.length, .slice none 0 0, .map (some (w.heap.size + 1))] 91)).drew :=
  gm_start (heap32 _ _ _ _) (heap30 _ _ _ _) (heap31 _ _ _ _) (gr3 _ _ _ _) hn hk (by omega) (by omega) (by omega)
theorem gm_1 {w : World} {na : Option Addr} {ncap : Nat} {nodes : List Tre.Nod} (hn : FivesAt w na nodes Nod.cells) (hk : ∀ x ∈ nodes, NodOk x) :
    GM w (((w.alloc (.cells (madeCells #[.int .i64 0] nodes.length) 3)).alloc (.cells #[.slice na nodes.length ncap, .slice none 0 0, .slice (some ⟨w.heap.size, 0, none⟩) nodes.length nodes.length, .slice none 0 0, .map (some (w.heap.size + 1 + 1))] 91)).alloc (.map #[] 0)).drew.heap.size (w.heap.size + 1) (w.heap.size) (w.heap.size + 1 + 1) na ncap nodes ⟨[], fun _ => 0, []⟩ (((w.alloc (.cells (madeCells #[.int .i64 0] nodes.length) 3)).alloc (.cells #[.slice na nodes.length ncap, .slice none 0 0, .slice (some ⟨w.heap.size, 0, none⟩) nodes.length nodes.length, .slice none 0 0, .map (some (w.heap.size + 1 + 1))] 91)).alloc (.map #[] 0)).drew :=
  gm_start (heap31 _ _ _ _) (heap30 _ _ _ _) (heap32 _ _ _ _) (gr3 _ _ _ _) hn hk (by omega) (by omega) (by omega)
theorem gm_2 {w : World} {na : Option Addr} {ncap : Nat} {nodes : List Tre.Nod} (hn : FivesAt w na nodes Nod.cells) (hk : ∀ x ∈ nodes, NodOk x) :
    GM w (((w.alloc (.map #[] 0)).alloc (.cells (madeCells #[.int .i64 0] nodes.length) 3)).alloc (.cells #[.slice na nodes.length ncap, .slice none 0 0, .slice (some ⟨w.heap.size + 1, 0, none⟩) nodes.length nodes.length, .slice none 0 0, .map (some (w.heap.size))] 91)).drew.heap.size (w.heap.size + 1 + 1) (w.heap.size + 1) (w.heap.size) na ncap nodes ⟨[], fun _ => 0, []⟩ (((w.alloc (.map #[] 0)).alloc (.cells (madeCells #[.int .i64 0] nodes.length) 3)).alloc (.cells #[.slice na nodes.length ncap, .slice none 0 0, .slice (some ⟨w.heap.size + 1, 0, none⟩) nodes.length nodes.length, .slice none 0 0, .map (some (w.heap.size))] 91)).drew :=
  gm_start (heap32 _ _ _ _) (heap31 _ _ _ _) (heap30 _ _ _ _) (gr3 _ _ _ _) hn hk (by omega) (by omega) (by omega)
theorem gm_3 {w : World} {na : Option Addr} {ncap : Nat} {nodes : List Tre.Nod} (hn : FivesAt w na nodes Nod.cells) (hk : ∀ x ∈ nodes, NodOk x) :
    GM w (((w.alloc (.map #[] 0)).alloc (.cells #[.slice na nodes.length ncap, .slice none 0 0, .slice (some ⟨w.heap.size + 1 + 1, 0, none⟩) nodes.length nodes.length, .slice none 0 0, .map (some (w.heap.size))] 91)).alloc (.cells (madeCells #[.int .i64 0] nodes.length) 3)).drew.heap.size (w.heap.size + 1) (w.heap.size + 1 + 1) (w.heap.size) na ncap nodes ⟨[], fun _ => 0, []⟩ (((w.alloc (.map #[] 0)).alloc (.cells #[.slice na nodes.length ncap, .slice none 0 0, .slice (some ⟨w.heap.size + 1 + 1, 0, none⟩) nodes.length nodes.length, .slice none 0 0, .map (some (w.heap.size))] 91)).alloc (.cells (madeCells #[.int .i64 0] nodes.length) 3)).drew :=
  gm_start (heap31 _ _ _ _) (heap32 _ _ _ _) (heap30 _ _ _ _) (gr3 _ _ _ _) hn hk (by omega) (by omega) (by omega)
theorem gm_4 {w : World} {na : Option Addr} {ncap : Nat} {nodes : List Tre.Nod} (hn : FivesAt w na nodes Nod.cells) (hk : ∀ x ∈ nodes, NodOk x) :
    GM w (((w.alloc (.cells #[.slice na nodes.length ncap, .slice none 0 0, .slice (some ⟨w.heap.size + 1, 0, none⟩) nodes.length nodes.length, .slice none 0 0, .map (some (w.heap.size + 1 + 1))] 91)).alloc (.cells (madeCells #[.int .i64 0] nodes.length) 3)).alloc (.map #[] 0)).drew.heap.size (w.heap.size) (w.heap.size + 1) (w.heap.size + 1 + 1) na ncap nodes ⟨[], fun _ => 0, []⟩ (((w.alloc (.cells #[.slice na nodes.length ncap, .slice none 0 0, .slice (some ⟨w.heap.size + 1, 0, none⟩) nodes.length nodes.length, .slice none 0 0, .map (some (w.heap.size + 1 + 1))] 91)).alloc (.cells (madeCells #[.int .i64 0] nodes.length) 3)).alloc (.map #[] 0)).drew :=
  gm_start (heap30 _ _ _ _) (heap31 _ _ _ _) (heap32 _ _ _ _) (gr3 _ _ _ _) hn hk (by omega) (by omega) (by omega)
theorem gm_5 {w : World} {na : Option Addr} {ncap : Nat} {nodes : List Tre.Nod} (hn : FivesAt w na nodes Nod.cells) (hk : ∀ x ∈ nodes, NodOk x) :
    GM w (((w.alloc (.cells #[.slice na nodes.length ncap, .slice none 0 0, .slice (some ⟨w.heap.size + 1 + 1, 0, none⟩) nodes.length nodes.length, .slice none 0 0, .map (some (w.heap.size + 1))] 91)).alloc (.map #[] 0)).alloc (.cells (madeCells #[.int .i64 0] nodes.length) 3)).drew.heap.size (w.heap.size) (w.heap.size + 1 + 1) (w.heap.size + 1) na ncap nodes ⟨[], fun _ => 0, []⟩ (((w.alloc (.cells #[.slice na nodes.length ncap, .slice none 0 0, .slice (some ⟨w.heap.size + 1 + 1, 0, none⟩) nodes.length nodes.length, .slice none 0 0, .map (some (w.heap.size + 1))] 91)).alloc (.map #[] 0)).alloc (.cells (madeCells #[.int .i64 0] nodes.length) 3)).drew :=
  gm_start (heap30 _ _ _ _) (heap32 _ _ _ _) (heap31 _ _ _ _) (gr3 _ _ _ _) hn hk (by omega) (by omega) (by omega)
/-- Ints stay where a box without ints is written. -/
theorem ints_but {w w' : World} {rb : Nat} {a : Option Addr} {zs : List Int} (h : IntsAt w a zs) (hr : ∀ j n, w.cell? ⟨rb, j, none⟩ ≠ some (.int .i64 n)) (hk : ∀ b, b ≠ rb → w'.heap[b]? = w.heap[b]?) (hs : w.heap.size ≤ w'.heap.size) : IntsAt w' a zs :=
  ⟨h.len, fun i z hz => by
    obtain ⟨b, o, e, hb, hc⟩ := h.cell i z hz
    have hne : b ≠ rb := fun e' => by rw [e'] at hc; exact hr _ _ hc
    exact ⟨b, o, e, Nat.lt_of_lt_of_le hb hs, (World.cell?_of_block (w := w) (a := ⟨b, o + i, none⟩) (hk b hne)).trans hc⟩⟩
theorem choices_le {op i n pl al : Int} (hi : 0 ≤ i) (h1 : n ≤ 8000) (h2 : pl ≤ 8000) (h3 : al ≤ 8000) : Ver.choices op i n pl al ≤ 8000 := by
  unfold Ver.choices
  split
  · exact h2
  · split
    · exact h3
    · split
      · omega
      · omega
/-- All that is written may be held. -/
theorem code_ok {nodes : List Tre.Nod} {al : Nat} {s : Gn.GS} {ds : List Int} (h : Gn.GInv nodes al s ds) (h1 : s.code.length ≤ 8000) (h2 : s.pool.length ≤ 2000) (h3 : al ≤ 2000) : ∀ x ∈ s.code, InsOk x := fun x hx => by
  obtain ⟨i, hi⟩ := List.getElem?_of_mem hx
  have hl : i < ds.length := by rw [h.ok.len]; exact (List.getElem?_eq_some_iff.1 hi).1
  obtain ⟨⟨o1, o2⟩, ⟨n1, n2⟩, _⟩ := h.ok.at_ i x _ hi (List.getElem?_eq_getElem hl)
  have := choices_le (op := x.op) (i := i) (n := s.code.length) (pl := s.pool.length) (al := al) (by omega) (by omega) (by omega) (by omega)
  exact ⟨WalkArith.wf_i64 (by omega), WalkArith.wf_i64 (by omega)⟩
/-- A row of instructions that the call owns: its block. -/
theorem owns_lie {w : World} {base n : Nat} {v : Value} {xs : List Ins} (h : w.ownsRow base 54 2 v n (insG xs)) (hn : xs.length = n) (h0 : 0 < n) :
    ∃ (g cap : Nat) (cur : Array Value), v = .slice (some ⟨g, 0, none⟩) n cap ∧ base ≤ g ∧ w.heap[g]? = some (.cells cur 54) ∧ n * 2 ≤ cur.size ∧ Lie cur xs id ∧ n ≤ cap := by
  rcases h.2 with ⟨_, e'⟩ | ⟨g, cap, cur, hv, hb, hrow, h1, h2, h3⟩
  · omega
  · have hat : ∀ (j : Nat) u, (insG xs)[j]? = some u → cur[j]? = some u := fun j u hu => by
      have hc := h.cells (g := g) (by rw [hv]; rfl) j u hu
      rw [show (⟨g, 0, none⟩ : Addr).add j = ⟨g, 0 + j, none⟩ from Go.WideShapes.add_plain .., (row_all hrow).1, Nat.zero_add] at hc
      exact hc
    have hl := insG_len xs
    refine ⟨g, cap, cur, hv, hb, hrow, ?_, fun p x hp hx => ?_, h1⟩
    · have hlast := hat (n * 2 - 1) _ (List.getElem?_eq_getElem (by rw [hl, hn]; omega))
      have := (Array.getElem?_eq_some_iff.1 hlast).1
      omega
    · have hx' : xs[p]? = some x := hx
      have hf : ∀ j, j < 2 → (insG xs)[p * 2 + j]? = (Ins.cells x)[j]? := fun j hj => by
        clear hat h1 h2 h3 hl hrow hb hv h hn hp hx
        induction xs generalizing p with
        | nil => simp at hx'
        | cons y r ih =>
          cases p with
          | zero =>
            simp at hx'
            subst hx'
            unfold insG
            rw [List.flatMap_cons, Nat.zero_mul, Nat.zero_add, List.getElem?_append_left (by simpa [Ins.cells] using hj)]
          | succ p =>
            have h4 := ih p (by simpa using hx')
            unfold insG at h4 ⊢
            rw [List.flatMap_cons, List.getElem?_append_right (by simp [Ins.cells]; omega), ← h4]
            congr 1
            simp [Ins.cells]
            omega
      exact ⟨hat (p * 2) _ (by have := hf 0 (by decide); simpa [Ins.cells] using this), hat (p * 2 + 1) _ (by have := hf 1 (by decide); simpa [Ins.cells] using this)⟩
set_option maxHeartbeats 12800000 in
theorem gen_any (f : Fst) (w : World) (hf : FstOk w f) :
    Calls Tryd.prog 16 #[.agg f.cells.toArray] w fun e w' => GenPost f w e w' := by
  have HC : Hid _ := fun W (h : FstOk W f) => check_any f W h
  obtain ⟨i0, hi, hi1, hi2, hi3⟩ := Tryd.infoInt
  by_cases h0 : forF f = 0
  · have hG := good_of h0
    have hne := hG.ne
    have hn8 := hG.n8
    have hmk : ∀ W : World, (Instr.makeSlice 24 (.int .i64 (f.nodes.length : Int)) (.int .i64 (f.nodes.length : Int))).run Tryd.prog W = .ok (.slice (some ⟨W.heap.size, 0, none⟩) f.nodes.length f.nodes.length) (W.alloc (.cells (madeCells #[.int .i64 0] f.nodes.length) 3)) := fun W => by
      have := run_makeSlice (P := Tryd.prog) W 24 3 i0 _ Tryd.underlying24 hi hi1 .i64 .i64 (f.nodes.length : Int) (f.nodes.length : Int) (by omega) (Int.le_refl _) (by rw [hi2]; simp; omega) (by rw [hi3]; omega) (by omega)
      rw [hi2] at this
      simpa [Value.cells] using this
    simp only [h0] at HC
    have HGD : Hid _ := hG
    have H0 : Hid _ := h0
    have HFO : Hid _ := hf
    obtain ⟨FF, hFF⟩ : ∃ FF, FF = f := ⟨_, rfl⟩
    rw [← hFF]
    obtain ⟨na, ncap, nodes, aa, acap, answers⟩ := f
    simp only [Fst.cells] at HC hmk hne hn8 ⊢
    rw [hFF]
    dsimp only
    rw [← hFF]
    clear hG h0 hf
    have hmm := @run_makeMap Tryd.prog
    go_enter Tryd.func16, Tryd.ntmps16
    go_wp2_with fail
    refine (HC.out _ (HFO.out.grown (by exact ((Grown.refl _).alloc _ _).alloc _ _))).mono ?_
    rintro e w1 ⟨rfl, hg1⟩
    have hgr1 := Gr.ofGrown hg1
    have kf := (hgr1.block w.heap.size (by simp; omega)).trans (heapB w _ _)
    have kr := (hgr1.block (w.heap.size + 1) (by simp)).trans (heapC w _ _)
    have hgw : Gr w w1 := (((Gr.refl _).alloc _).alloc _).trans hgr1
    have z1 : w.heap.size + 1 < w1.heap.size := Nat.lt_of_lt_of_le (by simp) hgr1.size
    have HNS : Hid _ := ((HFO.out.gr hgw).nat)
    have HNK : Hid _ := HFO.out.nok
    have z0 : w.heap.size < w1.heap.size := by omega
    have n1 : ¬ w.heap.size = w1.heap.size := by omega
    have n2 : ¬ w.heap.size = w1.heap.size + 1 := by omega
    have n3 : ¬ w.heap.size = w1.heap.size + 1 + 1 := by omega
    have n4 : ¬ w.heap.size = w1.heap.size + 2 := by omega
    have n5 : w.heap.size < w1.heap.size + 1 := by omega
    have n6 : w.heap.size < w1.heap.size + 1 + 1 := by omega
    have n7 : w.heap.size < w1.heap.size + 2 := by omega
    obtain ⟨cf, ff⟩ := row_all kf
    obtain ⟨cr, fr⟩ := row_all kr
    have KF : Hid _ := kf
    have KR : Hid _ := kr
    clear hg1 hgr1 kf kr
    go_upto_region 4 with fail
    go_cut [5] (fun s wx => ∃ wb lb M : Nat, s = .pointer (some ⟨wb, 0, none⟩) ∧ GM w1 wx.heap.size wb lb M na ncap nodes ⟨[], fun _ => 0, []⟩ wx)
    case first =>
      go_region_with (fail)
      all_goals go_wp2_with fail
      all_goals go_meet
      all_goals (with_reducible first
        | exact ⟨_, _, _, rfl, gm_0 HNS.out HNK.out⟩
        | exact ⟨_, _, _, rfl, gm_1 HNS.out HNK.out⟩
        | exact ⟨_, _, _, rfl, gm_2 HNS.out HNK.out⟩
        | exact ⟨_, _, _, rfl, gm_3 HNS.out HNK.out⟩
        | exact ⟨_, _, _, rfl, gm_4 HNS.out HNK.out⟩
        | exact ⟨_, _, _, rfl, gm_5 HNS.out HNK.out⟩)
    case rest =>
      obtain ⟨wb, lb, M, rfl, hgm⟩ := hcut
      obtain ⟨q, hq⟩ : ∃ q, q + 1 = nodes.length := ⟨nodes.length - 1, by omega⟩
      have w2 : IntKind.i64.wrap ((nodes.length : Int) - 1) = (q : Int) := by rw [IntWalk.i64_in _ ⟨by omega, by omega⟩]; omega
      have w3 : (nodes.length : Int) - 1 = (q : Int) := by omega
      have HAL : Hid _ := (show Gn.write nodes nodes.length q ⟨[], fun _ => 0, []⟩ = Gn.all nodes by
        unfold Gn.all
        rw [show nodes.length - 1 = q by omega])
      obtain ⟨cv, pv, cs, D, hW⟩ := hgm.ex
      have hgc := hW.gr
      have zwb := hW.b1
      have kfc := (hgc.block w.heap.size z0).trans KF.out
      obtain ⟨cf2, ff2⟩ := row_all kfc
      have HWR : Hid _ := fun W (hg : Gr wc W) => write_any HGD.out nodes.length q ⟨[], fun _ => 0, []⟩ [] W (by omega) (show q < nodes.length by omega) (Gn.GInv.start _ _) (hgm.gr_ hg)
      obtain ⟨ds, HGI⟩ : ∃ ds, Gn.GInv nodes answers.length (Gn.all nodes) ds := by
        obtain ⟨ds, h, _⟩ := Gn.write_inv HGD.out nodes.length q ⟨[], fun _ => 0, []⟩ [] (by omega) (show q < nodes.length by omega) (Gn.GInv.start _ _)
        simp only [HAL.out] at h
        exact ⟨ds, h⟩
      have HGIH : Hid _ := HGI
      have HSM : Hid _ := GInv.small (f := ⟨na, ncap, nodes, aa, acap, answers⟩) HGD.out HGI
      have HKFC : Hid _ := kfc
      clear HGI hW kfc hgm hmk hmm cf ff cr fr HC hgc
      simp only [HAL.out] at HWR
      go_wp2_with fail
      refine (HWR.out _ (Gr.refl _)).mono ?_
      rintro e w4 ⟨rfl, hm4, _⟩
      obtain ⟨cv4, pv4, cs4, D4, hW4⟩ := hm4.ex
      obtain ⟨ca, ccap, rfl⟩ := row_formG hW4.code
      obtain ⟨pa, pcap, rfl⟩ := row_formG hW4.pool
      have hg4 := hW4.gr
      have kr4 := (hg4.block (w.heap.size + 1) z1).trans KR.out
      have kf4 := (hg4.block w.heap.size z0).trans KF.out
      obtain ⟨c4, f4⟩ := row_all hW4.box
      obtain ⟨cr4, fr4⟩ := row_all kr4
      have HW4 : Hid _ := hW4
      have HGR : Hid _ := hgw.trans hg4
      have KR4 : Hid _ := kr4
      have KF4 : Hid _ := kf4
      obtain ⟨CC, hCC⟩ : ∃ CC, CC = (Gn.all nodes).code := ⟨_, rfl⟩
      obtain ⟨PP, hPP⟩ : ∃ PP, PP = (Gn.all nodes).pool := ⟨_, rfl⟩
      rw [← hCC, ← hPP] at c4
      have HCC : Hid _ := hCC
      have HPP : Hid _ := hPP
      clear hm4 hW4 hg4 kr4 kf4 HWR cf2 ff2 n1 n2 n3 n4 n5 n6 n7 w2 w3 hCC hPP
      by_cases hbig : 8000 < CC.length ∨ 2000 < PP.length
      · have HB : Hid _ := hbig
        by_cases hb1 : 8000 < CC.length
        · have d1 : decide ((8000 : Int) < (CC.length : Int)) = true := by rw [decide_eq_true_iff]; omega
          have d2 : decide (8000 < CC.length) = true := by simpa using hb1
          clear hbig
          go_wp2_with fail
          refine bodyPost_ret (v := .tuple #[.agg #[.slice none 0 0, .slice none 0 0, .slice none 0 0], .int .i64 1]) (by simp [results, Tryd.results16, go_sem, cr4]) rfl ?_
          refine ⟨by repeat (with_reducible first | exact HGR.out | refine Gr.setCell ?_ (by simp) _), fun h => absurd (by rw [hFF]; exact H0.out) h, fun _ _ => rfl, fun _ a b => ?_⟩
          rw [hFF] at a b
          simp only at a b
          rw [← HCC.out] at a
          rw [← HPP.out] at b
          exact absurd HB.out (by omega)
        · have hb2 : 2000 < PP.length := by omega
          have d1 : decide ((8000 : Int) < (CC.length : Int)) = false := by rw [decide_eq_false_iff_not]; omega
          have d2 : decide (8000 < CC.length) = false := by simpa using hb1
          have d3 : decide ((2000 : Int) < (PP.length : Int)) = true := by rw [decide_eq_true_iff]; omega
          have d4 : decide (2000 < PP.length) = true := by simpa using hb2
          clear hbig
          go_wp2_with fail
          refine bodyPost_ret (v := .tuple #[.agg #[.slice none 0 0, .slice none 0 0, .slice none 0 0], .int .i64 1]) (by simp [results, Tryd.results16, go_sem, cr4]) rfl ?_
          refine ⟨by repeat (with_reducible first | exact HGR.out | refine Gr.setCell ?_ (by simp) _), fun h => absurd (by rw [hFF]; exact H0.out) h, fun _ _ => rfl, fun _ a b => ?_⟩
          rw [hFF] at a b
          simp only at a b
          rw [← HCC.out] at a
          rw [← HPP.out] at b
          exact absurd HB.out (by omega)
      · have hb1 : CC.length ≤ 8000 := by omega
        have hb2 : PP.length ≤ 2000 := by omega
        have d1 : decide ((8000 : Int) < (CC.length : Int)) = false := by rw [decide_eq_false_iff_not]; omega
        have d2 : decide (8000 < CC.length) = false := by simpa using hb1
        have d3 : decide ((2000 : Int) < (PP.length : Int)) = false := by rw [decide_eq_false_iff_not]; omega
        have d4 : decide (2000 < PP.length) = false := by simpa using hb2
        have hc0 : 0 < CC.length := by
          rw [HCC.out]
          unfold Gn.all
          have h1 := Gn.root_front nodes (n := nodes.length) (i := nodes.length - 1) (by omega) (by omega)
          rw [← h1]
          obtain ⟨_, _, hw, _⟩ := Gn.write_inv HGD.out nodes.length (nodes.length - 1) ⟨[], fun _ => 0, []⟩ [] (by omega) (show nodes.length - 1 < nodes.length by omega) (Gn.GInv.start _ _)
          exact hw.pos
        have hco := HW4.out.code
        rw [← HCC.out] at hco
        obtain ⟨g, ccap', cur, hce, hbg, hrow, hcs, hlie, hccap⟩ := owns_lie (n := CC.length) hco (by simp) hc0
        cases hce
        have HRV : Hid _ := fun (_ : Unit) => reverse_any g ccap CC.reverse cur w4 hrow (by simpa using hcs) hlie (by simp; omega)
        simp only [List.length_reverse, List.reverse_reverse] at HRV
        have HBG : Hid _ := hbg
        have HROW : Hid _ := hrow
        have HCCAP : Hid _ := hccap
        clear hbig hco hrow hcs hlie hbg hccap
        go_wp2_with fail
        refine (HRV.out ()).mono ?_
        rintro e w5 ⟨rfl, ⟨cur5, hrow5, hlie5⟩, hb5⟩
        have y1 := HW4.out.b0
        have y2 := HW4.out.b1
        have y3 := HW4.out.base
        have y4 := HBG.out
        have hg5 : Gr w w5 := hb5.gr HGR.out (by omega)
        have kb5 := (hb5.block wb (by omega) (by omega)).trans HW4.out.box
        have kr5 := (hb5.block (w.heap.size + 1) (by omega) (by omega)).trans KR4.out
        have kf5 := (hb5.block w.heap.size (by omega) (by omega)).trans KF4.out
        have hpool : w5.ownsRow wc.heap.size 3 1 (.slice pa PP.length pcap) PP.length (ints PP) := by
          have h := HW4.out.pool
          rw [← HPP.out] at h
          refine owns_same h fun x hx => hb5.block x (owns_lt h hx).2 (fun e => ?_)
          obtain ⟨c', hc'⟩ := owns_type h hx
          rw [e, HROW.out] at hc'
          injection hc' with hc'
          injection hc' with _ h5
          exact absurd h5 (by decide)
        obtain ⟨pa', pcap', hpe, hpcap, hpints⟩ := owns_ints hpool
        cases hpe
        have HPO : Hid _ := fun (_ : Unit) => hpool
        have HPC : Hid _ := hpcap
        have HL5 : Hid _ := fun (_ : Unit) => And.intro hrow5 hlie5
        obtain ⟨cb5, fb5⟩ := row_all kb5
        obtain ⟨cr5, fr5⟩ := row_all kr5
        obtain ⟨cf5, ff5⟩ := row_all kf5
        rw [← HCC.out, ← HPP.out] at cb5
        have HG5 : Hid _ := hg5
        have KR5 : Hid _ := kr5
        have hsz5 := hb5.size
        have t1 : w.heap.size < w5.heap.size := by omega
        have t2 : w.heap.size + 1 < w5.heap.size := by omega
        have t3 : wb < w5.heap.size := by omega
        have u1 : ¬ wb = w.heap.size + 1 := by omega
        have u2 : ¬ w.heap.size + 1 = wb := by omega
        have t4 : g < w5.heap.size := Nat.lt_of_lt_of_le (Array.getElem?_eq_some_iff.1 HROW.out).1 hsz5
        have HCO : Hid _ := fun W (hW : Gr w5 W) => copies2_any aa acap answers W ((HFO.out.gr (hg5.trans hW)).aat) (fun x hx => ⟨(HFO.out.gr (hg5.trans hW)).aok x hx, by have := fault_small (HGD.out.ans x hx); omega⟩) (by have := HGD.out.a2; simp only at this; omega)
        clear c4 f4 cr4 fr4 kb5 kr5 kf5 hpool hpcap hpints hrow5 hlie5 hg5 hb5 hsz5 y1 y2 y3 y4
        have hO : w5.cell? ⟨wb, 1, none⟩ = some (.slice (some ⟨g, 0, none⟩) CC.length ccap) ∧ w5.cell? ⟨wb, 3, none⟩ = some (.slice pa PP.length pcap) ∧ w5.cell? ⟨w.heap.size, 1, none⟩ = some (.slice aa answers.length acap) := ⟨cb5 1, cb5 3, cf5 1⟩
        clear cb5 fb5 cf5 ff5 cr5 fr5
        go_upto_region 9 with fail
        go_region_held3 (fun w' => w'.cell? ⟨wb, 1, none⟩ = some (.slice (some ⟨g, 0, none⟩) CC.length ccap) ∧ w'.cell? ⟨wb, 3, none⟩ = some (.slice pa PP.length pcap) ∧ w'.cell? ⟨w.heap.size, 1, none⟩ = some (.slice aa answers.length acap)) (first | with_reducible exact hO | (simpa [go_sem] using hO) | (simpa [go_sem, u1, u2] using hO))
          (first
            | (go_at_call 37; refine (HCO.out _ (by repeat (with_reducible first | exact Gr.refl _ | refine Gr.drew ?_))).mono ?_; rintro e w6 ⟨ob, ys, rfl, hyl, hyv, hya, hyk, hob, hg6x⟩
               have hg6 : Gr w5 w6 := ⟨hg6x.os, hg6x.out, hg6x.size, hg6x.block⟩
               replace hO := And.intro ((hg6.cell _ _ t3).trans hO.1) (And.intro ((hg6.cell _ _ t3).trans hO.2.1) ((hg6.cell _ _ t1).trans hO.2.2))
               have kr6 := (hg6.block _ t2).trans KR5.out
               have cr6 := (row_all kr6).1
               have fr6 := (row_all kr6).2
               have HY : Hid _ := And.intro hyl (And.intro hyv (And.intro hya (And.intro hyk (And.intro hg6 (show w5.heap.size ≤ ob from hob)))))
               have KR6 : Hid _ := kr6
               clear hg6x hyl hyv hya hyk hob kr6))
        go_wp2_with fail
        refine bodyPost_ret (v := .tuple #[.agg #[.slice (some ⟨g, 0, none⟩) CC.length ccap, .slice pa PP.length pcap, .slice (some ⟨ob, 0, none⟩) answers.length answers.length], .int .i64 0]) (by simp [results, Tryd.results16, go_sem, cr6]) rfl ?_
        obtain ⟨hyl, hyv, hya, hyk, hg6, hob⟩ := HY.out
        obtain ⟨hrow5, hlie5⟩ := HL5.out ()
        have hgf : Gr w (((w6.setCell ⟨w.heap.size + 1, 0, none⟩ (.slice (some ⟨g, 0, none⟩) CC.length ccap)).setCell ⟨w.heap.size + 1, 1, none⟩ (.slice pa PP.length pcap)).setCell ⟨w.heap.size + 1, 2, none⟩ (.slice (some ⟨ob, 0, none⟩) answers.length answers.length)) := by
          repeat (with_reducible first | exact HG5.out.trans hg6 | refine Gr.setCell ?_ (by simp) _)
        obtain ⟨Wf, hWf⟩ : ∃ Wf, Wf = (((w6.setCell ⟨w.heap.size + 1, 0, none⟩ (.slice (some ⟨g, 0, none⟩) CC.length ccap)).setCell ⟨w.heap.size + 1, 1, none⟩ (.slice pa PP.length pcap)).setCell ⟨w.heap.size + 1, 2, none⟩ (.slice (some ⟨ob, 0, none⟩) answers.length answers.length)) := ⟨_, rfl⟩
        rw [← hWf] at hgf
        have hbf : ∀ b, b ≠ w.heap.size + 1 → Wf.heap[b]? = w6.heap[b]? := fun b hne => by
          rw [hWf]
          exact (heap_setCell_other _ ⟨w.heap.size + 1, 2, none⟩ b _ hne).trans ((heap_setCell_other _ ⟨w.heap.size + 1, 1, none⟩ b _ hne).trans (heap_setCell_other _ ⟨w.heap.size + 1, 0, none⟩ b _ hne))
        have hsf : w6.heap.size ≤ Wf.heap.size := by rw [hWf]; simp [World.setCell]
        have hni : ∀ j n, w6.cell? ⟨w.heap.size + 1, j, none⟩ ≠ some (.int .i64 n) := fun j n => by
          rw [cr6]
          rcases j with _ | _ | _ | j <;> simp
        rw [← hWf]
        have hy := HW4.out.b1
        have hy0 := HW4.out.b0
        have hz := HBG.out
        refine ⟨hgf, fun h => absurd (by rw [hFF]; exact H0.out) h, fun _ hh => ?_, fun _ _ _ => ⟨⟨some ⟨g, 0, none⟩, ccap, CC, pa, pcap, PP, some ⟨ob, 0, none⟩, answers.length, ys⟩, by simp [Prg.cells, hyl], ?_, by rw [hFF]; exact HCC.out, by rw [hFF]; exact HPP.out, by rw [hFF]; exact hyv⟩⟩
        · rw [hFF] at hh
          simp only at hh
          rw [← HCC.out, ← HPP.out] at hh
          omega
        · refine ⟨HCCAP.out, HPC.out, by show ys.length ≤ answers.length; omega, ⟨by unfold maxLen; show CC.length ≤ _; omega, fun i x hx => ?_⟩, ?_, ?_, ?_, ⟨hya.len, fun i x hx => ?_⟩, fun y hm => ?_⟩
          · have hi := (List.getElem?_eq_some_iff.1 hx).1
            obtain ⟨l1, l2⟩ := hlie5 i x hi hx
            have hgg : Wf.heap[g]? = some (.cells cur5 54) := (hbf g (by omega)).trans ((hg6.block g t4).trans hrow5)
            have hrw := (row_all hgg).1
            exact ⟨g, 0, rfl, (Array.getElem?_eq_some_iff.1 hgg).1, by rw [Nat.zero_add, hrw]; exact l1, by rw [Nat.zero_add, hrw]; exact l2⟩
          · intro x hx
            exact code_ok HGIH.out (by rw [← HCC.out]; exact hb1) (by rw [← HPP.out]; exact hb2) (HGD.out.a2) x (by rw [← HCC.out]; exact hx)
          · have hpf : Wf.ownsRow wc.heap.size 3 1 (.slice pa PP.length pcap) PP.length (ints PP) := owns_same (owns_gr (HPO.out ()) hg6) fun x hx => hbf x (by have := (owns_lt (HPO.out ()) hx).1; omega)
            obtain ⟨pa2, pcap2, hpe, _, hpi⟩ := owns_ints hpf
            cases hpe
            exact hpi
          · intro z hz
            rw [HPP.out] at hz
            obtain ⟨nd, hnd, rfl⟩ := HGIH.out.wf z hz
            exact (HFO.out.nok nd hnd).bound
          · obtain ⟨b, o, e, hb, hc⟩ := hya.cell i x hx
            cases e
            refine ⟨ob, 0, rfl, Nat.lt_of_lt_of_le hb hsf, ?_⟩
            have hce : ∀ k, Wf.cell? ⟨ob, k, none⟩ = w6.cell? ⟨ob, k, none⟩ := fun k => World.cell?_of_block (w := w6) (a := ⟨ob, k, none⟩) (hbf ob (by omega))
            obtain ⟨k0, k1, k2, k3, k4⟩ := hc
            exact ⟨(hce _).trans k0, (hce _).trans k1, (hce _).trans k2, (hce _).trans k3, (hce _).trans k4⟩
          · have h := hyk y hm
            exact ⟨h.off, h.jump, h.nm, h.cap, ints_but h.zs hni hbf hsf, h.wz⟩
  · have HFO : Hid _ := hf
    have H0 : Hid _ := h0
    obtain ⟨E, hE⟩ : ∃ E, forF f = E := ⟨_, rfl⟩
    have HE : Hid _ := hE
    have g0 : (E != 0) = true := by rw [← hE]; simpa using h0
    simp only [hE] at HC
    have hec : f.cells = [.slice f.na f.nodes.length f.ncap, .slice f.aa f.answers.length f.acap] := rfl
    obtain ⟨ln, hln⟩ : ∃ ln, ln = f.nodes.length := ⟨_, rfl⟩
    obtain ⟨la, hla⟩ : ∃ la, la = f.answers.length := ⟨_, rfl⟩
    obtain ⟨na, hna⟩ : ∃ na, na = f.na := ⟨_, rfl⟩
    obtain ⟨aa, haa⟩ : ∃ aa, aa = f.aa := ⟨_, rfl⟩
    obtain ⟨nc, hnc⟩ : ∃ nc, nc = f.ncap := ⟨_, rfl⟩
    obtain ⟨ac, hac⟩ : ∃ ac, ac = f.acap := ⟨_, rfl⟩
    rw [← hln, ← hla, ← hna, ← haa, ← hnc, ← hac] at hec
    rw [hec] at HC ⊢
    clear h0 hE hf hln hla hna haa hnc hac hec
    go_enter Tryd.func16, Tryd.ntmps16
    go_wp2_with fail
    refine (HC.out _ (HFO.out.grown (by exact ((Grown.refl _).alloc _ _).alloc _ _))).mono ?_
    rintro e w1 ⟨rfl, hg1⟩
    have hgr1 := Gr.ofGrown hg1
    have kr := (hgr1.block (w.heap.size + 1) (by simp)).trans (heapC w _ _)
    have hgw : Gr w w1 := (((Gr.refl _).alloc _).alloc _).trans hgr1
    obtain ⟨cr, fr⟩ := row_all kr
    clear hg1 hgr1 kr
    go_wp2_with fail
    refine bodyPost_ret (v := .tuple #[.agg #[.slice none 0 0, .slice none 0 0, .slice none 0 0], .int .i64 E]) (by simp [results, Tryd.results16, go_sem, cr]) rfl ?_
    refine ⟨by repeat (with_reducible first | exact hgw | refine Gr.setCell ?_ (by simp) _), fun _ => by rw [HE.out], fun h => absurd h H0.out, fun h => absurd h H0.out⟩
end Go.Proofs.YtcpmbjlhblkniaaDoor
