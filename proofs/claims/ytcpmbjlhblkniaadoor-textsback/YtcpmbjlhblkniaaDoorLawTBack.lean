/- Proved: at every row of raw things and a number the law TextsBack returns true: code is written as text and read back. The tables that Text and Parse lean on hold what their initialisers lay (tied to the program's text by the card). -/
import Derived.Test.YtcpmbjlhblkniaaDoorGenA
import Derived.Test.YtcpmbjlhblkniaaDoorBunRun
import Derived.Test.YtcpmbjlhblkniaaDoorStB
import Derived.Test.YtcpmbjlhblkniaaDoorGr
import Derived.Test.YtcpmbjlhblkniaaDoorTreV
import Derived.Test.YtcpmbjlhblkniaaDoorTreC
import Derived.Test.YtcpmbjlhblkniaaDoorAnsV
import Derived.Deep.Cut
import Derived.Test.YtcpmbjlhblkniaaDoorBunOpu
import Derived.Test.YtcpmbjlhblkniaaDoorGenW
import Derived.Test.YtcpmbjlhblkniaaDoorTreM
import Derived.Test.YtcpmbjlhblkniaaDoorRows
import Derived.WalkKit
import Derived.ProofKit
import Derived.OpenShut
import Derived.Deep.Slices
import Derived.SizedLaws
import Derived.Test.YtcpmbjlhblkniaaDoorVerA
import Derived.Lib.LaidTab
import Derived.Test.YtcpmbjlhblkniaaDoorCards
import Derived.Test.YtcpmbjlhblkniaaDoorTie
import Derived.Test.YtcpmbjlhblkniaaDoorBunTxt
import Derived.Deep.DeepHandedRow
import Derived.LaidSub
import Derived.Stop.LaidErr
import Derived.ChangeMaps5
namespace Go.Proofs.YtcpmbjlhblkniaaDoor
open Go.ChangeShapes Go.WideShapes Go.ChangeAt Go.RowKit
set_option linter.unusedVariables false
theorem fault_val {x y : Ans} (h : x.val = y.val) : x.fault = y.fault := by
  unfold Ans.val at h
  simp only [Prod.mk.injEq] at h
  obtain ⟨h1, h2, h3, h4, h5⟩ := h
  unfold Ans.fault
  rw [h1, h3, h4, h5]
/-- What is made of a forest may be run, and tells what the forest does. -/
theorem gen_tells {f : Fst} {p : Prg} (h0 : forF f = 0) (hc : p.code = (Gn.all f.nodes).code) (hp : p.pool = (Gn.all f.nodes).pool) (hv : p.answers.map Ans.val = f.answers.map Ans.val) (h8 : (Gn.all f.nodes).code.length ≤ 8000) (h2 : (Gn.all f.nodes).pool.length ≤ 2000) :
    (Ver.verify p).2.2 = 0 ∧ ∀ t, (ranA p t).val = (evalA f t).val := by
  have hG := good_of h0
  have hl : p.answers.length = f.answers.length := by simpa using congrArg List.length hv
  have hat : ∀ (i : Nat) x y, p.answers[i]? = some x → f.answers[i]? = some y → x.val = y.val := fun i x y hx hy => by
    have := congrArg (·[i]?) hv
    simpa [hx, hy] using this
  have hz : ∀ x ∈ p.answers, x.fault = 0 := fun x hx => by
    obtain ⟨i, hi⟩ := List.getElem?_of_mem hx
    obtain ⟨y, hy⟩ : ∃ y, f.answers[i]? = some y := ⟨_, List.getElem?_eq_getElem (by rw [← hl]; exact (List.getElem?_eq_some_iff.1 hi).1)⟩
    rw [fault_val (hat i x y hi hy)]
    exact hG.ans y (List.mem_of_getElem? hy)
  obtain ⟨v1, v2⟩ := Gn.gen_law h0 hc hp hl hz (by rw [hc]; exact h8) (by rw [hp]; exact h2)
  refine ⟨v1, fun t => ?_⟩
  have hlt := (hG.evalI_lt t).1
  obtain ⟨y, hy⟩ : ∃ y, f.answers[evalI f t]? = some y := ⟨_, List.getElem?_eq_getElem hlt⟩
  obtain ⟨x, hx⟩ : ∃ x, p.answers[evalI f t]? = some x := ⟨_, List.getElem?_eq_getElem (by rw [hl]; exact hlt)⟩
  rw [ranA_yes v1 (by rw [v2 t, Int.toNat_natCast]; exact hx), evalA_yes h0 hy]
  exact hat _ x y hx hy
theorem big_many {f : Fst} (h0 : forF f = 0) (h : 8000 < (Gn.all f.nodes).code.length ∨ 2000 < (Gn.all f.nodes).pool.length) : 1000 < f.nodes.length := by
  have := Gn.all_size (good_of h0)
  omega
end Go.Proofs.YtcpmbjlhblkniaaDoor
namespace Go.Proofs.YtcpmbjlhblkniaaDoor
open Go.ChangeShapes Go.WideShapes Go.ChangeAt Go.RowKit
set_option linter.unusedVariables false
set_option maxRecDepth 100000
set_option linter.unusedSimpArgs false
/-- Raw things: four numbers each. -/
structure Raw4 where
  kind : Int
  a : Int
  b : Int
  c : Int
structure RawOk (r : Raw4) : Prop where
  kind : (Lit.int .i64 r.kind).wf = true
  a : (Lit.int .i64 r.a).wf = true
  b : (Lit.int .i64 r.b).wf = true
  c : (Lit.int .i64 r.c).wf = true
structure RawsAt (w : World) (p : Option Addr) (l : List Raw4) : Prop where
  len : l.length ≤ maxLen
  cell : ∀ (i : Nat) x, l[i]? = some x → RawOk x ∧ ∃ b o, p = some ⟨b, o, none⟩ ∧ b < w.heap.size ∧ w.cell? ⟨b, o + i * 4, none⟩ = some (.int .i64 x.kind) ∧ w.cell? ⟨b, o + i * 4 + 1, none⟩ = some (.int .i64 x.a) ∧ w.cell? ⟨b, o + i * 4 + 2, none⟩ = some (.int .i64 x.b) ∧ w.cell? ⟨b, o + i * 4 + 3, none⟩ = some (.int .i64 x.c)
theorem RawsAt.gr {w w' : World} {p : Option Addr} {l : List Raw4} (h : RawsAt w p l) (hg : Gr w w') : RawsAt w' p l :=
  ⟨h.len, fun i x hx => by
    obtain ⟨ho, b, o, e, hb, c0, c1, c2, c3⟩ := h.cell i x hx
    exact ⟨ho, b, o, e, Nat.lt_of_lt_of_le hb hg.size, (hg.cell b _ hb).trans c0, (hg.cell b _ hb).trans c1, (hg.cell b _ hb).trans c2, (hg.cell b _ hb).trans c3⟩⟩
/-- What the nodes of the drawn forest keep to. -/
structure GoodN (l : List Tre.Nod) : Prop where
  node : ∀ (i : Nat) nd, l[i]? = some nd → Tre.nodF nd i 5 = 0
  ok : ∀ nd ∈ l, NodOk nd
theorem wf_small {n : Int} (h : -9223372036854775808 ≤ n) (h' : n ≤ 9223372036854775807) : (Lit.int .i64 n).wf = true := WalkArith.wf_i64 ⟨h, h'⟩
theorem GoodN.snoc {l : List Tre.Nod} (h : GoodN l) {nd : Tre.Nod} (h1 : Tre.nodF nd l.length 5 = 0) (h2 : NodOk nd) : GoodN (l ++ [nd]) :=
  ⟨fun i x hx => by
    rcases Nat.lt_or_ge i l.length with g | g
    · rw [List.getElem?_append_left g] at hx; exact h.node i x hx
    · rw [List.getElem?_append_right g] at hx
      have : i - l.length = 0 := by
        have := (List.getElem?_eq_some_iff.1 hx).1
        simp at this; omega
      have hi : i = l.length := by omega
      subst hi
      simp at hx
      rw [← hx]; exact h1,
   fun x hx => by
    rcases List.mem_append.1 hx with g | g
    · exact h.ok x g
    · rw [List.mem_singleton.1 g]; exact h2⟩
theorem goodN_first : GoodN [⟨true, 1, 0, 0, 0⟩] :=
  ⟨fun i x hx => by
    have : i = 0 := by have := (List.getElem?_eq_some_iff.1 hx).1; simp at this; omega
    subst this
    simp at hx
    rw [← hx]; decide,
   fun x hx => by rw [List.mem_singleton.1 hx]; exact ⟨by decide, by decide, by decide, by decide⟩⟩
theorem leaf_good (x : Int) (n : Nat) : Tre.nodF ⟨true, Cal.pk x 5, 0, 0, 0⟩ n 5 = 0 ∧ NodOk ⟨true, Cal.pk x 5, 0, 0, 0⟩ := by
  have h1 := Cal.pk_lo x (k := 5) (by omega)
  have h2 := Cal.pk_hi x (k := 5) (by omega)
  exact ⟨Tre.nodF_l0 (Tre.inB_t h1 (by omega)), ⟨wf_small (by simp only; omega) (by simp only; omega), by show (Lit.int .i64 0).wf = true; decide, by show (Lit.int .i64 0).wf = true; decide, by show (Lit.int .i64 0).wf = true; decide⟩⟩
theorem node_good (x y z : Int) {n : Nat} (hn : 0 < n) (hn' : n ≤ 100) : Tre.nodF ⟨false, 0, Cal.pk x 60 - 20, (n : Int) - 1 - Cal.pk y (min n 4), (n : Int) - 1 - Cal.pk z (min n 4)⟩ n 5 = 0 ∧ NodOk ⟨false, 0, Cal.pk x 60 - 20, (n : Int) - 1 - Cal.pk y (min n 4), (n : Int) - 1 - Cal.pk z (min n 4)⟩ := by
  have h1 := Cal.pk_lo x (k := 60) (by omega)
  have h2 := Cal.pk_hi x (k := 60) (by omega)
  have h3 := Cal.pk_lo y (k := min (n : Int) 4) (by omega)
  have h4 := Cal.pk_hi y (k := min (n : Int) 4) (by omega)
  have h5 := Cal.pk_lo z (k := min (n : Int) 4) (by omega)
  have h6 := Cal.pk_hi z (k := min (n : Int) 4) (by omega)
  exact ⟨Tre.nodF_n0 (Tre.inB_t (by omega) (by omega)) (Tre.inB_t (by omega) (by omega)), ⟨by show (Lit.int .i64 0).wf = true; decide, wf_small (by simp only; omega) (by simp only; omega), wf_small (by simp only; omega) (by simp only; omega), wf_small (by simp only; omega) (by simp only; omega)⟩⟩
def nodC (l : List Tre.Nod) : List Value := l.flatMap Nod.cells
theorem nodC_snoc (l : List Tre.Nod) (x : Tre.Nod) : nodC (l ++ [x]) = nodC l ++ Nod.cells x := by simp [nodC]
theorem lt_of_some {w : World} {b : Nat} {o : Obj} (h : w.heap[b]? = some o) : b < w.heap.size := (Array.getElem?_eq_some_iff.1 h).1
theorem Tryd.infoNode : ∃ i, Tryd.prog.info? 65 = some i ∧ i.zero = some (.agg #[.bool false, .int .i64 0, .int .i64 0, .int .i64 0, .int .i64 0]) ∧ i.size = 5 ∧ i.bytes = 40 :=
  ⟨_, rfl, by kernel_rfl, by kernel_rfl, by kernel_rfl⟩
theorem nod_cell (x : Tre.Nod) : ∀ u ∈ Nod.cells x, u.oneCell' = true := by
  intro u hu
  simp [Nod.cells] at hu
  rcases hu with rfl | rfl | rfl | rfl | rfl <;> rfl
/-- Slots of the region that lays a leaf. -/
def Fi9 (B Rb g0 n cap0 n0 : Nat) (x : Int) : Tmp → Value → World → Prop
  | 40, v, _ => v = .pointer (some ⟨B, 0, none⟩)
  | 41, v, _ => v = .slice (some ⟨g0, 0, none⟩) n cap0
  | 42, v, _ => v = .pointer (some ⟨Rb, 1, none⟩)
  | 43, v, _ => v = .int .i64 x
  | 44, v, _ => v = .int .i64 (Cal.pk x 5)
  | 45, v, _ => v = .agg #[.bool true, .int .i64 (Cal.pk x 5), .int .i64 0, .int .i64 0, .int .i64 0]
  | 46, v, w => ∃ g, v = .slice (some ⟨g, 0, none⟩) 1 1 ∧ n0 ≤ g ∧ w.heap[g]? = some (.cells #[.bool true, .int .i64 (Cal.pk x 5), .int .i64 0, .int .i64 0, .int .i64 0] 65)
  | _, _, _ => True
theorem Fi9.mono {B Rb g0 n cap0 n0 : Nat} {x : Int} (d : Tmp) (v : Value) (w w' : World) (hg : Gr w w') (h : Fi9 B Rb g0 n cap0 n0 x d v w) : Fi9 B Rb g0 n cap0 n0 x d v w' := by
  unfold Fi9 at h ⊢
  split at h
  all_goals first | exact h | trivial | (obtain ⟨g, e, hn, hr⟩ := h; exact ⟨g, e, hn, (hg.block g (lt_of_some hr)).trans hr⟩)
/-- Slots of the region that lays a node. -/
def Fi10 (B Rb g0 n cap0 n0 : Nat) (x y z : Int) : Tmp → Value → World → Prop
  | 49, v, _ => v = .pointer (some ⟨B, 0, none⟩)
  | 50, v, _ => v = .slice (some ⟨g0, 0, none⟩) n cap0
  | 51, v, _ => v = .pointer (some ⟨Rb, 1, none⟩)
  | 52, v, _ => v = .int .i64 x
  | 53, v, _ => v = .int .i64 (Cal.pk x 60)
  | 54, v, _ => v = .int .i64 (Cal.pk x 60 - 20)
  | 55, v, _ => v = .int .i64 n
  | 56, v, _ => v = .int .i64 ((n : Int) - 1)
  | 57, v, _ => v = .pointer (some ⟨Rb, 2, none⟩)
  | 58, v, _ => v = .int .i64 y
  | 59, v, _ => v = .int .i64 n
  | 60, v, _ => v = .int .i64 (min (n : Int) 4)
  | 61, v, _ => v = .int .i64 (Cal.pk y (min (n : Int) 4))
  | 62, v, _ => v = .int .i64 ((n : Int) - 1 - Cal.pk y (min (n : Int) 4))
  | 63, v, _ => v = .int .i64 n
  | 64, v, _ => v = .int .i64 ((n : Int) - 1)
  | 65, v, _ => v = .pointer (some ⟨Rb, 3, none⟩)
  | 66, v, _ => v = .int .i64 z
  | 67, v, _ => v = .int .i64 n
  | 68, v, _ => v = .int .i64 (min (n : Int) 4)
  | 69, v, _ => v = .int .i64 (Cal.pk z (min (n : Int) 4))
  | 70, v, _ => v = .int .i64 ((n : Int) - 1 - Cal.pk z (min (n : Int) 4))
  | 71, v, _ => v = .agg #[.bool false, .int .i64 0, .int .i64 (Cal.pk x 60 - 20), .int .i64 ((n : Int) - 1 - Cal.pk y (min (n : Int) 4)), .int .i64 ((n : Int) - 1 - Cal.pk z (min (n : Int) 4))]
  | 72, v, w => ∃ g, v = .slice (some ⟨g, 0, none⟩) 1 1 ∧ n0 ≤ g ∧ w.heap[g]? = some (.cells #[.bool false, .int .i64 0, .int .i64 (Cal.pk x 60 - 20), .int .i64 ((n : Int) - 1 - Cal.pk y (min (n : Int) 4)), .int .i64 ((n : Int) - 1 - Cal.pk z (min (n : Int) 4))] 65)
  | _, _, _ => True
theorem Fi10.mono {B Rb g0 n cap0 n0 : Nat} {x y z : Int} (d : Tmp) (v : Value) (w w' : World) (hg : Gr w w') (h : Fi10 B Rb g0 n cap0 n0 x y z d v w) : Fi10 B Rb g0 n cap0 n0 x y z d v w' := by
  unfold Fi10 at h ⊢
  split at h
  all_goals first | exact h | trivial | (obtain ⟨g, e, hn, hr⟩ := h; exact ⟨g, e, hn, (hg.block g (lt_of_some hr)).trans hr⟩)
theorem args2 {a : Act} {x y : Operand} {u v : Value} (hx : a.eval x = u) (hy : a.eval y = v) : (#[x, y] : Array Operand).map a.eval = #[u, v] := by simp [hx, hy]
theorem run_picked (vs : Array Value) (w : World) : (callFunc 6 vs).run Tryd.prog w = .ok (.enter 6 vs) w := by
  have h1 : (Tryd.f6.name == "runtime.NumGoroutine") = false := by kernel_rfl
  have h2 : Tryd.f6.body.isNone = false := by kernel_rfl
  have h1' : ¬ Tryd.f6.name = "runtime.NumGoroutine" := by simpa using h1
  have h2' : ¬ Tryd.f6.body = none := by intro h; rw [h] at h2; cases h2
  simp [callFunc, go_sem, Tryd.func6, h1', h2']
/-- What lies in memory while the forest is drawn. -/
structure FoR (w wr : World) (n g cap : Nat) (ns : List Tre.Nod) : Prop where
  len : ns.length = n
  good : GoodN ns
  gr : Gr w wr
  size : w.heap.size + 5 ≤ wr.heap.size
  own : wr.ownsRow (w.heap.size + 1 + 1 + 1 + 1) 65 5 (.slice (some ⟨g, 0, none⟩) n cap) n (nodC ns)
  box : wr.heap[w.heap.size + 1 + 1 + 1]? = some (.cells #[.slice (some ⟨g, 0, none⟩) n cap, .slice (some ⟨w.heap.size + 1 + 1, 0, none⟩) 5 5] 42)
  res : wr.heap[w.heap.size]? = some (.cells #[.slice none 0 0, .slice none 0 0] 42)
  offs : wr.heap[w.heap.size + 1]? = some (.cells #[.int .i64 3600, .int .i64 0] 3)
  answ : wr.heap[w.heap.size + 1 + 1]? = some (.cells #[.int .i64 0, .bool false, .string ⟨#[]⟩, .slice none 0 0, .int .i64 1, .int .i64 0, .bool false, .string ⟨#[]⟩, .slice none 0 0, .int .i64 2, .int .i64 0, .bool false, .string ⟨#[]⟩, .slice none 0 0, .int .i64 1, .int .i64 0, .bool false, .string ⟨#[]⟩, .slice (some ⟨w.heap.size + 1, 0, none⟩) 2 2, .int .i64 0, .int .i64 0, .bool true, .string ⟨#[88]⟩, .slice none 0 0, .int .i64 0] 34)
theorem heap5 (w : World) (o1 o2 o3 o4 o5 : Obj) : (((((w.alloc o1).alloc o2).alloc o3).alloc o4).alloc o5).heap[w.heap.size]? = some o1 ∧ (((((w.alloc o1).alloc o2).alloc o3).alloc o4).alloc o5).heap[w.heap.size + 1]? = some o2 ∧ (((((w.alloc o1).alloc o2).alloc o3).alloc o4).alloc o5).heap[w.heap.size + 1 + 1]? = some o3 ∧ (((((w.alloc o1).alloc o2).alloc o3).alloc o4).alloc o5).heap[w.heap.size + 1 + 1 + 1]? = some o4 ∧ (((((w.alloc o1).alloc o2).alloc o3).alloc o4).alloc o5).heap[w.heap.size + 1 + 1 + 1 + 1]? = some o5 := by
  refine ⟨?_, ?_, ?_, ?_, ?_⟩
  · rw [Below.heap_alloc _ _ _ (by simp <;> omega), Below.heap_alloc _ _ _ (by simp <;> omega), Below.heap_alloc _ _ _ (by simp <;> omega), Below.heap_alloc _ _ _ (by simp)]; exact heapA w o1
  · rw [Below.heap_alloc _ _ _ (by simp <;> omega), Below.heap_alloc _ _ _ (by simp <;> omega), Below.heap_alloc _ _ _ (by simp)]; simpa using heapA (w.alloc o1) o2
  · rw [Below.heap_alloc _ _ _ (by simp <;> omega), Below.heap_alloc _ _ _ (by simp)]; simpa using heapA ((w.alloc o1).alloc o2) o3
  · rw [Below.heap_alloc _ _ _ (by simp)]; simpa using heapA (((w.alloc o1).alloc o2).alloc o3) o4
  · simpa using heapA ((((w.alloc o1).alloc o2).alloc o3).alloc o4) o5
theorem owns_row {w : World} {base b n size : Nat} {t : TypeId} {cs : Array Value} (hb : base ≤ b) (h : w.heap[b]? = some (.cells cs t)) (hs : cs.size = n * size) (hm : n ≤ maxLen) : w.ownsRow base t size (.slice (some ⟨b, 0, none⟩) n n) n cs.toList :=
  ⟨by simpa using hs, Or.inr ⟨b, n, cs, rfl, hb, h, Nat.le_refl _, hm, hs, by rw [List.take_of_length_le (by simp [hs])]⟩⟩
theorem FoR.step {w wr W1 w2 w3 : World} {n g cap g2 cap2 : Nat} {ns : List Tre.Nod} {nd : Tre.Nod} (hF : FoR w wr n g cap ns) (hgW : Gr wr W1) (hR : Gr W1 w2) (hgrow : w2.grownBy w3 (Value.slice (some ⟨g, 0, none⟩) n cap).ownBlock)
    (hat : (Value.slice (some ⟨g, 0, none⟩) n cap).ownBlock = some g2 ∨ g2 = w2.heap.size) (hown : w3.ownsRow (w.heap.size + 1 + 1 + 1 + 1) 65 5 (.slice (some ⟨g2, 0, none⟩) (n + 1) cap2) (n + 1) (nodC ns ++ Nod.cells nd)) (h1 : Tre.nodF nd n 5 = 0) (h2 : NodOk nd) :
    FoR w (w3.setCell ⟨w.heap.size + 1 + 1 + 1, 0, none⟩ (.slice (some ⟨g2, 0, none⟩) (n + 1) cap2)) (n + 1) g2 cap2 (ns ++ [nd]) := by
  have hz := hF.size
  have hg12 : Gr wr w2 := hgW.trans hR
  have hs2 := hg12.size
  have hs3 := hgrow.size
  have hrow : ∀ x, (Value.slice (some ⟨g, 0, none⟩) n cap).ownBlock = some x → w.heap.size + 1 + 1 + 1 + 1 ≤ x := fun x hx => (owns_lt hF.own hx).1
  have hb : ∀ b, b < w.heap.size + 1 + 1 + 1 + 1 → w3.heap[b]? = wr.heap[b]? := fun b hlt => by
    rw [hgrow.block b (by omega) (fun e => by have := hrow _ e.symm; omega), hg12.block b (by omega)]
  have hg2 : w.heap.size + 1 + 1 + 1 + 1 ≤ g2 := (owns_lt hown rfl).1
  have ho : ∀ b, b ≠ w.heap.size + 1 + 1 + 1 → (w3.setCell ⟨w.heap.size + 1 + 1 + 1, 0, none⟩ (.slice (some ⟨g2, 0, none⟩) (n + 1) cap2)).heap[b]? = w3.heap[b]? := fun b hne => heap_setCell_other w3 ⟨w.heap.size + 1 + 1 + 1, 0, none⟩ b _ hne
  refine ⟨by simp [hF.len], hF.good.snoc (by rw [hF.len]; exact h1) h2, ?_, ?_, ?_, ?_, ?_, ?_, ?_⟩
  · exact ((hF.gr.trans hg12).by_ hgrow (fun x hx => by have := hrow x hx; omega)).setCell (by show w.heap.size ≤ w.heap.size + 1 + 1 + 1; omega) _
  · simp [World.setCell]; omega
  · rw [nodC_snoc]
    refine owns_same hown fun x hx => ho x ?_
    have := (owns_lt hown hx).1
    omega
  · have := heap_setCell_same w3 (w.heap.size + 1 + 1 + 1) 0 _ _ (.slice (some ⟨g2, 0, none⟩) (n + 1) cap2) ((hb _ (by omega)).trans hF.box)
    simpa using this
  · rw [ho _ (by omega), hb _ (by omega)]; exact hF.res
  · rw [ho _ (by omega), hb _ (by omega)]; exact hF.offs
  · rw [ho _ (by omega), hb _ (by omega)]; exact hF.answ
theorem flat5 {α : Type} {cells : α → List Value} (h5 : ∀ x, (cells x).length = 5) : ∀ (l : List α) (i j : Nat) (x : α), l[i]? = some x → j < 5 → (l.flatMap cells)[i * 5 + j]? = (cells x)[j]?
  | [], i, j, x, h, _ => by simp at h
  | y :: l, 0, j, x, h, hj => by
    simp at h
    subst h
    rw [List.flatMap_cons, List.getElem?_append_left (by rw [h5]; omega)]
    simp
  | y :: l, i + 1, j, x, h, hj => by
    rw [List.flatMap_cons, List.getElem?_append_right (by rw [h5]; omega), h5]
    have := flat5 h5 l i j x (by simpa using h) hj
    rwa [show (i + 1) * 5 + j - 5 = i * 5 + j by omega]
theorem owns_fives {α : Type} {w : World} {base g n cap : Nat} {t : TypeId} {l : List α} {cells : α → List Value} (h5 : ∀ x, (cells x).length = 5) (hl : l.length = n) (h : w.ownsRow base t 5 (.slice (some ⟨g, 0, none⟩) n cap) n (l.flatMap cells)) : FivesAt w (some ⟨g, 0, none⟩) l cells := by
  have hlt := (owns_lt h rfl).2
  have hmax : n ≤ maxLen := by
    rcases h.2 with ⟨e, _⟩ | ⟨g', c, cur, e, _, _, h1, h2, _⟩
    · cases e
    · exact Nat.le_trans h1 h2
  refine ⟨by rw [hl]; exact hmax, fun i x hx => ⟨g, 0, rfl, hlt, ?_⟩⟩
  have hc : ∀ j, j < 5 → w.cell? ⟨g, 0 + (i * 5 + j), none⟩ = (cells x)[j]? := fun j hj => by
    have hf := flat5 h5 l i j x hx hj
    have hj' : j < (cells x).length := by rw [h5]; exact hj
    rw [List.getElem?_eq_getElem hj'] at hf ⊢
    have := h.cells (g := g) rfl _ _ hf
    rwa [show (⟨g, 0, none⟩ : Addr).add (i * 5 + j) = ⟨g, 0 + (i * 5 + j), none⟩ from Go.WideShapes.add_plain ..] at this
  exact ⟨by simpa using hc 0 (by decide), by simpa [Nat.add_assoc] using hc 1 (by decide), by simpa [Nat.add_assoc] using hc 2 (by decide), by simpa [Nat.add_assoc] using hc 3 (by decide), by simpa [Nat.add_assoc] using hc 4 (by decide)⟩
/-- The answers of the drawn forest. -/
def ans5 (b : Nat) : List Ans := [⟨0, false, ⟨#[]⟩, none, 0, [], 1⟩, ⟨0, false, ⟨#[]⟩, none, 0, [], 2⟩, ⟨0, false, ⟨#[]⟩, none, 0, [], 1⟩, ⟨0, false, ⟨#[]⟩, some ⟨b, 0, none⟩, 2, [3600, 0], 0⟩, ⟨0, true, ⟨#[88]⟩, none, 0, [], 0⟩]
theorem ans5_ok (b : Nat) : ∀ x ∈ ans5 b, x.fault = 0 := by
  intro x hx
  simp only [ans5, List.mem_cons, List.not_mem_nil, or_false] at hx
  rcases hx with rfl | rfl | rfl | rfl | rfl <;> first | decide | (show Tre.ansF 0 0 [3600, 0] 0 = 0; decide)
theorem FoR.fin {w wr : World} {n g cap : Nat} {ns : List Tre.Nod} (hF : FoR w wr n g cap ns) (h1 : 0 < n) (h2 : n ≤ 41) {w' : World} (hw : Gr w w') (hs : ∀ b, b ≠ w.heap.size → w'.heap[b]? = wr.heap[b]?) :
    FstOk w' ⟨some ⟨g, 0, none⟩, cap, ns, some ⟨w.heap.size + 1 + 1, 0, none⟩, 5, ans5 (w.heap.size + 1)⟩ ∧ forF ⟨some ⟨g, 0, none⟩, cap, ns, some ⟨w.heap.size + 1 + 1, 0, none⟩, 5, ans5 (w.heap.size + 1)⟩ = 0 := by
  have hl := hF.len
  have hcap : n ≤ cap := by
    rcases hF.own.2 with ⟨e, _⟩ | ⟨g', c, cur, e, _, _, k1, k2, _⟩
    · cases e
    · cases e; exact k1
  have hown : w'.ownsRow (w.heap.size + 1 + 1 + 1 + 1) 65 5 (.slice (some ⟨g, 0, none⟩) n cap) n (ns.flatMap Nod.cells) := owns_same hF.own fun x hx => hs x (by have := (owns_lt hF.own hx).1; omega)
  have hans : w'.ownsRow 0 34 5 (.slice (some ⟨w.heap.size + 1 + 1, 0, none⟩) 5 5) 5 ((ans5 (w.heap.size + 1)).flatMap Ans.cells) := owns_row (Nat.zero_le _) ((hs _ (by omega)).trans hF.answ) rfl (by decide)
  have hof : w'.ownsRow 0 3 1 (.slice (some ⟨w.heap.size + 1, 0, none⟩) 2 2) 2 (ints [3600, 0]) := owns_row (Nat.zero_le _) ((hs _ (by omega)).trans hF.offs) rfl (by decide)
  have hint : IntsAt w' (some ⟨w.heap.size + 1, 0, none⟩) [3600, 0] := by
    obtain ⟨a, c, e, _, hi⟩ := owns_ints (zs := [3600, 0]) hof
    cases e; exact hi
  refine ⟨⟨by simp only; omega, by show 5 ≤ 5; decide, owns_fives (fun _ => rfl) hl hown, hF.good.ok, owns_fives (fun _ => rfl) rfl hans, fun x hx => ?_⟩, ?_⟩
  · simp only [ans5, List.mem_cons, List.not_mem_nil, or_false] at hx
    rcases hx with rfl | rfl | rfl | rfl | rfl
    · exact ⟨by decide, by decide, by decide, by decide, IntsAt.nil _ _, fun z hz => by cases hz⟩
    · exact ⟨by decide, by decide, by decide, by decide, IntsAt.nil _ _, fun z hz => by cases hz⟩
    · exact ⟨by decide, by decide, by decide, by decide, IntsAt.nil _ _, fun z hz => by cases hz⟩
    · exact ⟨by show (Lit.int .i64 0).wf = true; decide, by show (Lit.int .i64 0).wf = true; decide, by show 0 ≤ maxLen; exact Nat.zero_le _, by show 2 ≤ 2; decide, hint, fun z hz => by
        simp only [List.mem_cons, List.not_mem_nil, or_false] at hz
        rcases hz with rfl | rfl <;> decide⟩
    · exact ⟨by decide, by decide, by decide, by decide, IntsAt.nil _ _, fun z hz => by cases hz⟩
  · refine forF_0 (by simp only; omega) (by simp only [ans5]; simp; omega) (fun i hi => ?_) (fun i hi => ?_)
    · obtain ⟨x, hx⟩ : ∃ x, (ans5 (w.heap.size + 1))[i]? = some x := ⟨_, List.getElem?_eq_getElem hi⟩
      rw [ansE_at hx]; exact ans5_ok _ x (List.mem_of_getElem? hx)
    · obtain ⟨x, hx⟩ : ∃ x, ns[i]? = some x := ⟨_, List.getElem?_eq_getElem hi⟩
      rw [nodE_at hx]; exact hF.good.node i x hx
/-- The node that a raw thing draws, and the nodes of the first k of them. -/
def nodAt (r : Raw4) (n : Int) : Tre.Nod := if (Cal.pk r.kind 3 == 0) = true then ⟨true, Cal.pk r.a 5, 0, 0, 0⟩ else ⟨false, 0, Cal.pk r.a 60 - 20, n - 1 - Cal.pk r.b (min n 4), n - 1 - Cal.pk r.c (min n 4)⟩
def drawn (l : List Raw4) : Nat → List Tre.Nod
  | 0 => [⟨true, 1, 0, 0, 0⟩]
  | k + 1 => drawn l k ++ (match l[k]? with | some r => [nodAt r ((k + 1 : Nat) : Int)] | none => [])
theorem drawn_one {l : List Raw4} {k n : Nat} {ns : List Tre.Nod} {kind xa xb xc : Int} (hns : ns = drawn l k) (hx : l[k]? = some ⟨kind, xa, xb, xc⟩) (hq : (Cal.pk kind 3 == 0) = true) : ns ++ [⟨true, Cal.pk xa 5, 0, 0, 0⟩] = drawn l (k + 1) := by
  rw [drawn, hx, hns]
  simp only [nodAt]
  rw [if_pos hq]
theorem drawn_two {l : List Raw4} {k n : Nat} {ns : List Tre.Nod} {kind xa xb xc : Int} (hns : ns = drawn l k) (hx : l[k]? = some ⟨kind, xa, xb, xc⟩) (hn : n = k + 1) (hq : (Cal.pk kind 3 == 0) = false) : ns ++ [⟨false, 0, Cal.pk xa 60 - 20, (n : Int) - 1 - Cal.pk xb (min (n : Int) 4), (n : Int) - 1 - Cal.pk xc (min (n : Int) 4)⟩] = drawn l (k + 1) := by
  rw [drawn, hx, hns, hn]
  simp only [nodAt]
  rw [if_neg (by rw [hq]; simp)]
set_option maxHeartbeats 1600000 in
theorem forest_at (p : Option Addr) (cap : Nat) (l : List Raw4) (w : World) (hl : RawsAt w p l) :
    Calls Tryd.prog 9 #[.slice p l.length cap] w fun e w' => ∃ F : Fst, e = .returned (.agg F.cells.toArray) ∧ FstOk w' F ∧ forF F = 0 ∧ Gr w w' ∧ F.nodes = drawn l (min l.length 40) ∧ F.answers.map Ans.val = (ans5 0).map Ans.val := by
  have l1 := hl.len
  unfold maxLen at l1
  go_enter Tryd.func9, Tryd.ntmps9
  go_wp2_with fail
  go_loopw [4] (fun t wr => ∃ (k n g cap' : Nat) (ns : List Tre.Nod), k ≤ l.length ∧ k ≤ 40 ∧ n = k + 1 ∧ t = .int .i64 k ∧ FoR w wr n g cap' ns ∧ ns = drawn l k) (fun t _ => l.length - (intOf t).toNat)
  case atStart =>
    obtain ⟨h1, h2, h3, h4, h5⟩ := heap5 w (.cells #[.slice none 0 0, .slice none 0 0] 42) (.cells #[.int .i64 3600, .int .i64 0] 3) (.cells #[.int .i64 0, .bool false, .string ⟨#[]⟩, .slice none 0 0, .int .i64 1, .int .i64 0, .bool false, .string ⟨#[]⟩, .slice none 0 0, .int .i64 2, .int .i64 0, .bool false, .string ⟨#[]⟩, .slice none 0 0, .int .i64 1, .int .i64 0, .bool false, .string ⟨#[]⟩, .slice (some ⟨w.heap.size + 1, 0, none⟩) 2 2, .int .i64 0, .int .i64 0, .bool true, .string ⟨#[88]⟩, .slice none 0 0, .int .i64 0] 34) (.cells #[.slice (some ⟨w.heap.size + 1 + 1 + 1 + 1, 0, none⟩) 1 1, .slice (some ⟨w.heap.size + 1 + 1, 0, none⟩) 5 5] 42) (.cells #[.bool true, .int .i64 1, .int .i64 0, .int .i64 0, .int .i64 0] 65)
    exact ⟨0, 1, w.heap.size + 1 + 1 + 1 + 1, 1, [⟨true, 1, 0, 0, 0⟩], Nat.zero_le _, by omega, rfl, rfl, ⟨rfl, goodN_first, (((((Gr.refl w).alloc _).alloc _).alloc _).alloc _).alloc _, by simp, owns_row (Nat.le_refl _) h5 rfl (by decide), h4, h1, h2, h3⟩, rfl⟩
  case round =>
    obtain ⟨k, n, g, cap', ns, hk1, hk2, hn, rfl, hF, hns⟩ := hrel
    have HNS : Hid _ := hns
    clear hns
    obtain ⟨i0, hi, hi1, hi2, hi3⟩ := Tryd.infoNode
    obtain ⟨cB, fB⟩ := row_all hF.box
    obtain ⟨cN, fN⟩ := row_all hF.res
    have hn1 : 0 < n := by omega
    have hn2 : n ≤ 41 := by omega
    have hn3 : (n : Int) = k + 1 := by omega
    have Hn : Hid _ := hn
    have Hn3 : Hid _ := hn3
    clear hn hn3
    have zr := hF.size
    have hz0 : w.heap.size < wr.heap.size := by omega
    have hz3 : w.heap.size + 1 + 1 + 1 < wr.heap.size := by omega
    by_cases hlt : k < l.length
    · by_cases h40 : k < 40
      · obtain ⟨x, hx⟩ : ∃ x, l[k]? = some x := ⟨_, List.getElem?_eq_getElem hlt⟩
        obtain ⟨ho, b, o, rfl, hb, q0, q1, q2, q3⟩ := (hl.gr hF.gr).cell k x hx
        have Hx : Hid _ := hx
        clear hx
        obtain ⟨kind, xa, xb, xc⟩ := x
        obtain ⟨wk, wa, wb, wc⟩ := ho
        simp only at wk wa wb wc q0 q1 q2 q3
        have d40 : decide ((k : Int) < 40) = true := by simp; omega
        cases hq : (Cal.pk kind 3 == 0) with
        | true =>
          go_upto_region 9 with (go_at_call 6; refine (picked_any _ _ _ (by assumption) (by omega) (by omega)).mono ?_; rintro e w2 ⟨rfl, rfl⟩)
          obtain ⟨W1, hW1⟩ : ∃ W1, W1 = wr.alloc (Obj.cells #[Value.int IntKind.i64 kind, Value.int IntKind.i64 xa, Value.int IntKind.i64 xb, Value.int IntKind.i64 xc] 67) := ⟨_, rfl⟩
          have hgW : Gr wr W1 := by rw [hW1]; exact (Gr.refl _).alloc _
          have hzR : wr.heap.size < W1.heap.size := by rw [hW1]; simp
          have hrow : W1.heap[wr.heap.size]? = some (Obj.cells #[Value.int IntKind.i64 kind, Value.int IntKind.i64 xa, Value.int IntKind.i64 xb, Value.int IntKind.i64 xc] 67) := by rw [hW1]; exact heapA _ _
          rw [← hW1]
          clear hW1
          have hcR1 : W1.cell? ⟨wr.heap.size, 1, none⟩ = some (.int .i64 xa) := (row_all hrow).1 1
          have hcR2 : W1.cell? ⟨wr.heap.size, 2, none⟩ = some (.int .i64 xb) := (row_all hrow).1 2
          have hcR3 : W1.cell? ⟨wr.heap.size, 3, none⟩ = some (.int .i64 xc) := (row_all hrow).1 3
          have hzB : w.heap.size + 1 + 1 + 1 < W1.heap.size := by omega
          have hcB : W1.cell? ⟨w.heap.size + 1 + 1 + 1, 0, none⟩ = some (.slice (some ⟨g, 0, none⟩) n cap') := (hgW.cell _ _ hz3).trans (cB 0)
          refine Slots.name_frame ?_
          intro a0 ha0
          have e3 : a0.eval (.tmp 3) = .pointer (some ⟨w.heap.size + 1 + 1 + 1, 0, none⟩) := by rw [ha0]; rfl
          have e5 : a0.eval (.tmp 5) = .pointer (some ⟨wr.heap.size, 0, none⟩) := by rw [ha0]; rfl
          have e6 : a0.eval (.tmp 6) = .int .i64 n := by rw [ha0]; rfl
          have hsz : a0.tmps.size = 76 := by rw [ha0]; rfl
          have HA : Hid _ := ha0
          clear ha0
          refine Slots.wp_region_tailN 7 (R := Gr) (fun _ _ _ h k => h.trans k) Gr.refl (Fi9 (w.heap.size + 1 + 1 + 1) wr.heap.size g n cap' wr.heap.size xa) Fi9.mono (by kernel_rfl) (by decide +kernel) (by rw [hsz]; decide +kernel) (by decide) (by decide +kernel) ?_ ?_
          · refine ⟨?_, ?_, ?_, ?_, ?_, ?_, ?_, trivial⟩
            · intro a w2 hR hs
              replace hR : Gr W1 w2 := Gr.trans (Gr.drew (Gr.refl W1)) hR
              exact St.fieldForest (b := w.heap.size + 1 + 1 + 1) (o := 0) ((hs.ini 3 (by decide +kernel)).trans e3) (by decide) ⟨Gr.refl _, _, rfl, fun d hd => by cases hd; rfl⟩
            · intro a w2 hR hs
              replace hR : Gr W1 w2 := Gr.trans (Gr.drew (Gr.refl W1)) hR
              exact St.loadNodes (hs.bef 40 (by decide +kernel)) ((hR.cell (w.heap.size + 1 + 1 + 1) 0 hzB).trans hcB) ⟨Gr.refl _, _, rfl, fun d hd => by cases hd; rfl⟩
            · intro a w2 hR hs
              replace hR : Gr W1 w2 := Gr.trans (Gr.drew (Gr.refl W1)) hR
              exact St.fieldRaw (b := wr.heap.size) (o := 0) ((hs.ini 5 (by decide +kernel)).trans e5) (by decide) ⟨Gr.refl _, _, rfl, fun d hd => by cases hd; rfl⟩
            · intro a w2 hR hs
              replace hR : Gr W1 w2 := Gr.trans (Gr.drew (Gr.refl W1)) hR
              exact St.loadI (hs.bef 42 (by decide +kernel)) ((hR.cell wr.heap.size 1 hzR).trans hcR1) ⟨Gr.refl _, _, rfl, fun d hd => by cases hd; rfl⟩
            · intro a w2 hR hs
              replace hR : Gr W1 w2 := Gr.trans (Gr.drew (Gr.refl W1)) hR
              exact St.call (vs := #[.int .i64 xa, .int .i64 5]) run_picked (args2 (hs.bef 43 (by decide +kernel)) rfl) (picked_any xa 5 _ wa (by omega) (by omega)) (fun e w3 h => by obtain ⟨rfl, rfl⟩ := h; exact ⟨_, rfl, Gr.refl _, _, rfl, fun d hd => by cases hd; rfl⟩)
            · intro a w2 hR hs
              replace hR : Gr W1 w2 := Gr.trans (Gr.drew (Gr.refl W1)) hR
              exact St.buildLeaf (hs.bef 44 (by decide +kernel)) ⟨Gr.refl _, _, rfl, fun d hd => by cases hd; rfl⟩
            · intro a w2 hR hs
              replace hR : Gr W1 w2 := Gr.trans (Gr.drew (Gr.refl W1)) hR
              exact St.sliceNode (hs.bef 45 (by decide +kernel)) ⟨(Gr.refl _).alloc _, _, rfl, fun d hd => by cases hd; exact ⟨_, rfl, Nat.le_trans (Nat.le_of_lt hzR) hR.size, heapA _ _⟩⟩
          · intro vs w2 hR hfi
            replace hR : Gr W1 w2 := Gr.trans (Gr.drew (Gr.refl W1)) hR
            have e41 : vs 41 = .slice (some ⟨g, 0, none⟩) n cap' := hfi 41 (by decide)
            obtain ⟨gn, e46, hgn, hrown⟩ := hfi 46 (by decide)
            have hrow3 : ∀ x, (Value.slice (some ⟨g, 0, none⟩) n cap').ownBlock = some x → w.heap.size + 1 + 1 + 1 + 1 ≤ x := fun x hx => (owns_lt hF.own hx).1
            refine wp_append_lies w2 (.tmp 41) (.tmp 46) 40 rfl (w.heap.size + 1 + 1 + 1 + 1) 65 i0 _ 5 40 Tryd.underlying40 hi hi1 hi2 hi3 rfl (by decide) (.slice (some ⟨g, 0, none⟩) n cap') n (nodC ns) ((Slots.eval_fill (by decide +kernel) (by rw [hsz]; decide)).trans e41) (owns_gr hF.own (hgW.trans hR)) ⟨gn, 0, none⟩ 1 1 (Nod.cells ⟨true, Cal.pk xa 5, 0, 0, 0⟩) ((Slots.eval_fill (by decide +kernel) (by rw [hsz]; decide)).trans e46) (by rfl) (World.news_of_block hrown) (nod_cell _) (by omega) (by unfold maxLen; omega) (by omega) (by have := hR.size; omega) _ rfl ?_
            intro g2 cap2 w3 hown3 hgrow hat hlt3
            have hB3 : w3.heap[w.heap.size + 1 + 1 + 1]? = some (.cells #[.slice (some ⟨g, 0, none⟩) n cap', .slice (some ⟨w.heap.size + 1 + 1, 0, none⟩) 5 5] 42) := (hgrow.block (w.heap.size + 1 + 1 + 1) (Nat.lt_of_lt_of_le hzB hR.size) (fun e => by have := hrow3 _ e.symm; omega)).trans ((hR.block _ hzB).trans ((hgW.block _ hz3).trans hF.box))
            have c3 := (row_all hB3).1
            have f3 := (row_all hB3).2
            refine Slots.name_seq ?_
            intro a1 ha1
            have s1 : a1.tmps.size = 76 := by rw [ha1, (Slots.put_room _ _ _).1, (Slots.fill_room _ _ _).1, hsz]
            have x3 : a1.eval (.tmp 3) = .pointer (some ⟨w.heap.size + 1 + 1 + 1, 0, none⟩) := by
              rw [ha1]
              refine Eq.trans (Slots.eval_put (by decide)) ?_
              refine Eq.trans (Slots.eval_other (by decide +kernel)) ?_
              exact e3
            have x47 : a1.eval (.tmp 47) = .slice (some ⟨g2, 0, none⟩) (n + 1) cap2 := by
              rw [ha1]
              exact Slots.eval_put_same (Slots.lt_fill (by rw [hsz]; decide))
            have HA1 : Hid _ := ha1
            clear ha1
            refine Slots.seq_cons ?_
            refine St.fieldForest (b := w.heap.size + 1 + 1 + 1) (o := 0) x3 (by decide) ?_
            refine Slots.seq_cons ?_
            refine St.storeNodes (Slots.eval_put_same (by rw [s1]; decide)) ((Slots.eval_put (by decide)).trans x47) (c3 0) (f3 0) ?_
            have hfin := FoR.step (nd := ⟨true, Cal.pk xa 5, 0, 0, 0⟩) hF hgW hR hgrow hat hown3 (leaf_good xa n).1 (leaf_good xa n).2
            have HF : Hid _ := hfin
            refine Slots.seq_nil ?_
            rw [HA1.out, HA.out]
            clear HA HA1 hfin
            simp only [Slots.dstL, List.take_succ_cons, List.take_zero, List.filterMap_cons, List.filterMap_nil, Slots.fill]
            go_wp2
            exact ⟨⟨k + 1, n + 1, g2, cap2, _, by omega, by omega, by have := Hn.out; omega, by go_num, HF.out, drawn_one (n := n) HNS.out Hx.out hq⟩, by simp [intOf]; omega⟩
        | false =>
          go_upto_region 10 with (go_at_call 6; refine (picked_any _ _ _ (by assumption) (by omega) (by omega)).mono ?_; rintro e w2 ⟨rfl, rfl⟩)
          obtain ⟨W1, hW1⟩ : ∃ W1, W1 = wr.alloc (Obj.cells #[Value.int IntKind.i64 kind, Value.int IntKind.i64 xa, Value.int IntKind.i64 xb, Value.int IntKind.i64 xc] 67) := ⟨_, rfl⟩
          have hgW : Gr wr W1 := by rw [hW1]; exact (Gr.refl _).alloc _
          have hzR : wr.heap.size < W1.heap.size := by rw [hW1]; simp
          have hrow : W1.heap[wr.heap.size]? = some (Obj.cells #[Value.int IntKind.i64 kind, Value.int IntKind.i64 xa, Value.int IntKind.i64 xb, Value.int IntKind.i64 xc] 67) := by rw [hW1]; exact heapA _ _
          rw [← hW1]
          clear hW1
          have hcR1 : W1.cell? ⟨wr.heap.size, 1, none⟩ = some (.int .i64 xa) := (row_all hrow).1 1
          have hcR2 : W1.cell? ⟨wr.heap.size, 2, none⟩ = some (.int .i64 xb) := (row_all hrow).1 2
          have hcR3 : W1.cell? ⟨wr.heap.size, 3, none⟩ = some (.int .i64 xc) := (row_all hrow).1 3
          have hzB : w.heap.size + 1 + 1 + 1 < W1.heap.size := by omega
          have hcB : W1.cell? ⟨w.heap.size + 1 + 1 + 1, 0, none⟩ = some (.slice (some ⟨g, 0, none⟩) n cap') := (hgW.cell _ _ hz3).trans (cB 0)
          have p1 := Cal.pk_lo xa (k := 60) (by omega)
          have p2 := Cal.pk_hi xa (k := 60) (by omega)
          have p3 := Cal.pk_lo xb (k := min (n : Int) 4) (by omega)
          have p4 := Cal.pk_hi xb (k := min (n : Int) 4) (by omega)
          have p5 := Cal.pk_lo xc (k := min (n : Int) 4) (by omega)
          have p6 := Cal.pk_hi xc (k := min (n : Int) 4) (by omega)
          refine Slots.name_frame ?_
          intro a0 ha0
          have e3 : a0.eval (.tmp 3) = .pointer (some ⟨w.heap.size + 1 + 1 + 1, 0, none⟩) := by rw [ha0]; rfl
          have e5 : a0.eval (.tmp 5) = .pointer (some ⟨wr.heap.size, 0, none⟩) := by rw [ha0]; rfl
          have e6 : a0.eval (.tmp 6) = .int .i64 n := by rw [ha0]; rfl
          have hsz : a0.tmps.size = 76 := by rw [ha0]; rfl
          have HA : Hid _ := ha0
          clear ha0
          refine Slots.wp_region_tailN 24 (R := Gr) (fun _ _ _ h k => h.trans k) Gr.refl (Fi10 (w.heap.size + 1 + 1 + 1) wr.heap.size g n cap' wr.heap.size xa xb xc) Fi10.mono (by kernel_rfl) (by decide +kernel) (by rw [hsz]; decide +kernel) (by decide) (by decide +kernel) ?_ ?_
          · refine ⟨?_, ?_, ?_, ?_, ?_, ?_, ?_, ?_, ?_, ?_, ?_, ?_, ?_, ?_, ?_, ?_, ?_, ?_, ?_, ?_, ?_, ?_, ?_, ?_, trivial⟩
            · intro a w2 hR hs
              replace hR : Gr W1 w2 := Gr.trans (Gr.drew (Gr.refl W1)) hR
              exact St.fieldForest (b := w.heap.size + 1 + 1 + 1) (o := 0) ((hs.ini 3 (by decide +kernel)).trans e3) (by decide) ⟨Gr.refl _, _, rfl, fun d hd => by cases hd; rfl⟩
            · intro a w2 hR hs
              replace hR : Gr W1 w2 := Gr.trans (Gr.drew (Gr.refl W1)) hR
              exact St.loadNodes (hs.bef 49 (by decide +kernel)) ((hR.cell (w.heap.size + 1 + 1 + 1) 0 hzB).trans hcB) ⟨Gr.refl _, _, rfl, fun d hd => by cases hd; rfl⟩
            · intro a w2 hR hs
              replace hR : Gr W1 w2 := Gr.trans (Gr.drew (Gr.refl W1)) hR
              exact St.fieldRaw (b := wr.heap.size) (o := 0) ((hs.ini 5 (by decide +kernel)).trans e5) (by decide) ⟨Gr.refl _, _, rfl, fun d hd => by cases hd; rfl⟩
            · intro a w2 hR hs
              replace hR : Gr W1 w2 := Gr.trans (Gr.drew (Gr.refl W1)) hR
              exact St.loadI (hs.bef 51 (by decide +kernel)) ((hR.cell wr.heap.size 1 hzR).trans hcR1) ⟨Gr.refl _, _, rfl, fun d hd => by cases hd; rfl⟩
            · intro a w2 hR hs
              replace hR : Gr W1 w2 := Gr.trans (Gr.drew (Gr.refl W1)) hR
              exact St.call (vs := #[.int .i64 xa, .int .i64 60]) run_picked (args2 (hs.bef 52 (by decide +kernel)) rfl) (picked_any xa 60 _ wa (by omega) (by omega)) (fun e w3 h => by obtain ⟨rfl, rfl⟩ := h; exact ⟨_, rfl, Gr.refl _, _, rfl, fun d hd => by cases hd; rfl⟩)
            · intro a w2 hR hs
              replace hR : Gr W1 w2 := Gr.trans (Gr.drew (Gr.refl W1)) hR
              exact St.sub (hs.bef 53 (by decide +kernel)) rfl (by omega) (by omega) ⟨Gr.refl _, _, rfl, fun d hd => by cases hd; rfl⟩
            · intro a w2 hR hs
              replace hR : Gr W1 w2 := Gr.trans (Gr.drew (Gr.refl W1)) hR
              exact St.move ((hs.ini 6 (by decide +kernel)).trans e6) ⟨Gr.refl _, _, rfl, fun d hd => by cases hd; rfl⟩
            · intro a w2 hR hs
              replace hR : Gr W1 w2 := Gr.trans (Gr.drew (Gr.refl W1)) hR
              exact St.sub (hs.bef 55 (by decide +kernel)) rfl (by omega) (by omega) ⟨Gr.refl _, _, rfl, fun d hd => by cases hd; rfl⟩
            · intro a w2 hR hs
              replace hR : Gr W1 w2 := Gr.trans (Gr.drew (Gr.refl W1)) hR
              exact St.fieldRaw (b := wr.heap.size) (o := 0) ((hs.ini 5 (by decide +kernel)).trans e5) (by decide) ⟨Gr.refl _, _, rfl, fun d hd => by cases hd; rfl⟩
            · intro a w2 hR hs
              replace hR : Gr W1 w2 := Gr.trans (Gr.drew (Gr.refl W1)) hR
              exact St.loadI (hs.bef 57 (by decide +kernel)) ((hR.cell wr.heap.size 2 hzR).trans hcR2) ⟨Gr.refl _, _, rfl, fun d hd => by cases hd; rfl⟩
            · intro a w2 hR hs
              replace hR : Gr W1 w2 := Gr.trans (Gr.drew (Gr.refl W1)) hR
              exact St.move ((hs.ini 6 (by decide +kernel)).trans e6) ⟨Gr.refl _, _, rfl, fun d hd => by cases hd; rfl⟩
            · intro a w2 hR hs
              replace hR : Gr W1 w2 := Gr.trans (Gr.drew (Gr.refl W1)) hR
              exact St.min2 (hs.bef 59 (by decide +kernel)) rfl ⟨Gr.refl _, _, rfl, fun d hd => by cases hd; rfl⟩
            · intro a w2 hR hs
              replace hR : Gr W1 w2 := Gr.trans (Gr.drew (Gr.refl W1)) hR
              exact St.call (vs := #[.int .i64 xb, .int .i64 (min (n : Int) 4)]) run_picked (args2 (hs.bef 58 (by decide +kernel)) (hs.bef 60 (by decide +kernel))) (picked_any xb _ _ wb (by omega) (by omega)) (fun e w3 h => by obtain ⟨rfl, rfl⟩ := h; exact ⟨_, rfl, Gr.refl _, _, rfl, fun d hd => by cases hd; rfl⟩)
            · intro a w2 hR hs
              replace hR : Gr W1 w2 := Gr.trans (Gr.drew (Gr.refl W1)) hR
              exact St.sub (hs.bef 56 (by decide +kernel)) (hs.bef 61 (by decide +kernel)) (by omega) (by omega) ⟨Gr.refl _, _, rfl, fun d hd => by cases hd; rfl⟩
            · intro a w2 hR hs
              replace hR : Gr W1 w2 := Gr.trans (Gr.drew (Gr.refl W1)) hR
              exact St.move ((hs.ini 6 (by decide +kernel)).trans e6) ⟨Gr.refl _, _, rfl, fun d hd => by cases hd; rfl⟩
            · intro a w2 hR hs
              replace hR : Gr W1 w2 := Gr.trans (Gr.drew (Gr.refl W1)) hR
              exact St.sub (hs.bef 63 (by decide +kernel)) rfl (by omega) (by omega) ⟨Gr.refl _, _, rfl, fun d hd => by cases hd; rfl⟩
            · intro a w2 hR hs
              replace hR : Gr W1 w2 := Gr.trans (Gr.drew (Gr.refl W1)) hR
              exact St.fieldRaw (b := wr.heap.size) (o := 0) ((hs.ini 5 (by decide +kernel)).trans e5) (by decide) ⟨Gr.refl _, _, rfl, fun d hd => by cases hd; rfl⟩
            · intro a w2 hR hs
              replace hR : Gr W1 w2 := Gr.trans (Gr.drew (Gr.refl W1)) hR
              exact St.loadI (hs.bef 65 (by decide +kernel)) ((hR.cell wr.heap.size 3 hzR).trans hcR3) ⟨Gr.refl _, _, rfl, fun d hd => by cases hd; rfl⟩
            · intro a w2 hR hs
              replace hR : Gr W1 w2 := Gr.trans (Gr.drew (Gr.refl W1)) hR
              exact St.move ((hs.ini 6 (by decide +kernel)).trans e6) ⟨Gr.refl _, _, rfl, fun d hd => by cases hd; rfl⟩
            · intro a w2 hR hs
              replace hR : Gr W1 w2 := Gr.trans (Gr.drew (Gr.refl W1)) hR
              exact St.min2 (hs.bef 67 (by decide +kernel)) rfl ⟨Gr.refl _, _, rfl, fun d hd => by cases hd; rfl⟩
            · intro a w2 hR hs
              replace hR : Gr W1 w2 := Gr.trans (Gr.drew (Gr.refl W1)) hR
              exact St.call (vs := #[.int .i64 xc, .int .i64 (min (n : Int) 4)]) run_picked (args2 (hs.bef 66 (by decide +kernel)) (hs.bef 68 (by decide +kernel))) (picked_any xc _ _ wc (by omega) (by omega)) (fun e w3 h => by obtain ⟨rfl, rfl⟩ := h; exact ⟨_, rfl, Gr.refl _, _, rfl, fun d hd => by cases hd; rfl⟩)
            · intro a w2 hR hs
              replace hR : Gr W1 w2 := Gr.trans (Gr.drew (Gr.refl W1)) hR
              exact St.sub (hs.bef 64 (by decide +kernel)) (hs.bef 69 (by decide +kernel)) (by omega) (by omega) ⟨Gr.refl _, _, rfl, fun d hd => by cases hd; rfl⟩
            · intro a w2 hR hs
              replace hR : Gr W1 w2 := Gr.trans (Gr.drew (Gr.refl W1)) hR
              exact St.buildNode (hs.bef 54 (by decide +kernel)) (hs.bef 62 (by decide +kernel)) (hs.bef 70 (by decide +kernel)) ⟨Gr.refl _, _, rfl, fun d hd => by cases hd; rfl⟩
            · intro a w2 hR hs
              replace hR : Gr W1 w2 := Gr.trans (Gr.drew (Gr.refl W1)) hR
              exact St.sliceNode (hs.bef 71 (by decide +kernel)) ⟨(Gr.refl _).alloc _, _, rfl, fun d hd => by cases hd; exact ⟨_, rfl, Nat.le_trans (Nat.le_of_lt hzR) hR.size, heapA _ _⟩⟩
          · intro vs w2 hR hfi
            replace hR : Gr W1 w2 := Gr.trans (Gr.drew (Gr.refl W1)) hR
            have e41 : vs 50 = .slice (some ⟨g, 0, none⟩) n cap' := hfi 50 (by decide)
            obtain ⟨gn, e46, hgn, hrown⟩ := hfi 72 (by decide)
            have hrow3 : ∀ x, (Value.slice (some ⟨g, 0, none⟩) n cap').ownBlock = some x → w.heap.size + 1 + 1 + 1 + 1 ≤ x := fun x hx => (owns_lt hF.own hx).1
            refine wp_append_lies w2 (.tmp 50) (.tmp 72) 40 rfl (w.heap.size + 1 + 1 + 1 + 1) 65 i0 _ 5 40 Tryd.underlying40 hi hi1 hi2 hi3 rfl (by decide) (.slice (some ⟨g, 0, none⟩) n cap') n (nodC ns) ((Slots.eval_fill (by decide +kernel) (by rw [hsz]; decide)).trans e41) (owns_gr hF.own (hgW.trans hR)) ⟨gn, 0, none⟩ 1 1 (Nod.cells ⟨false, 0, Cal.pk xa 60 - 20, (n : Int) - 1 - Cal.pk xb (min (n : Int) 4), (n : Int) - 1 - Cal.pk xc (min (n : Int) 4)⟩) ((Slots.eval_fill (by decide +kernel) (by rw [hsz]; decide)).trans e46) (by rfl) (World.news_of_block hrown) (nod_cell _) (by omega) (by unfold maxLen; omega) (by omega) (by have := hR.size; omega) _ rfl ?_
            intro g2 cap2 w3 hown3 hgrow hat hlt3
            have hB3 : w3.heap[w.heap.size + 1 + 1 + 1]? = some (.cells #[.slice (some ⟨g, 0, none⟩) n cap', .slice (some ⟨w.heap.size + 1 + 1, 0, none⟩) 5 5] 42) := (hgrow.block (w.heap.size + 1 + 1 + 1) (Nat.lt_of_lt_of_le hzB hR.size) (fun e => by have := hrow3 _ e.symm; omega)).trans ((hR.block _ hzB).trans ((hgW.block _ hz3).trans hF.box))
            have c3 := (row_all hB3).1
            have f3 := (row_all hB3).2
            refine Slots.name_seq ?_
            intro a1 ha1
            have s1 : a1.tmps.size = 76 := by rw [ha1, (Slots.put_room _ _ _).1, (Slots.fill_room _ _ _).1, hsz]
            have x3 : a1.eval (.tmp 3) = .pointer (some ⟨w.heap.size + 1 + 1 + 1, 0, none⟩) := by
              rw [ha1]
              refine Eq.trans (Slots.eval_put (by decide)) ?_
              refine Eq.trans (Slots.eval_other (by decide +kernel)) ?_
              exact e3
            have x47 : a1.eval (.tmp 73) = .slice (some ⟨g2, 0, none⟩) (n + 1) cap2 := by
              rw [ha1]
              exact Slots.eval_put_same (Slots.lt_fill (by rw [hsz]; decide))
            have HA1 : Hid _ := ha1
            clear ha1
            refine Slots.seq_cons ?_
            refine St.fieldForest (b := w.heap.size + 1 + 1 + 1) (o := 0) x3 (by decide) ?_
            refine Slots.seq_cons ?_
            refine St.storeNodes (Slots.eval_put_same (by rw [s1]; decide)) ((Slots.eval_put (by decide)).trans x47) (c3 0) (f3 0) ?_
            have hfin := FoR.step (nd := ⟨false, 0, Cal.pk xa 60 - 20, (n : Int) - 1 - Cal.pk xb (min (n : Int) 4), (n : Int) - 1 - Cal.pk xc (min (n : Int) 4)⟩) hF hgW hR hgrow hat hown3 (node_good xa xb xc hn1 (by omega)).1 (node_good xa xb xc hn1 (by omega)).2
            have HF : Hid _ := hfin
            refine Slots.seq_nil ?_
            rw [HA1.out, HA.out]
            clear HA HA1 hfin
            simp only [Slots.dstL, List.take_succ_cons, List.take_zero, List.filterMap_cons, List.filterMap_nil, Slots.fill]
            go_wp2
            exact ⟨⟨k + 1, n + 1, g2, cap2, _, by omega, by omega, by have := Hn.out; omega, by go_num, HF.out, drawn_two HNS.out Hx.out Hn.out hq⟩, by simp [intOf]; omega⟩
      · have d40 : decide ((k : Int) < 40) = false := by simp; omega
        go_wp2
        have hw' : Gr w ((wr.setCell ⟨w.heap.size, 0, none⟩ (.slice (some ⟨g, 0, none⟩) n cap')).setCell ⟨w.heap.size, 1, none⟩ (.slice (some ⟨w.heap.size + 1 + 1, 0, none⟩) 5 5)) := (hF.gr.setCell (Nat.le_refl _) _).setCell (Nat.le_refl _) _
        obtain ⟨hok, h0⟩ := hF.fin hn1 hn2 hw' (fun b hne => (heap_setCell_other _ ⟨w.heap.size, 1, none⟩ b _ hne).trans (heap_setCell_other _ ⟨w.heap.size, 0, none⟩ b _ hne))
        exact bodyPost_ret (v := .agg #[.slice (some ⟨g, 0, none⟩) n cap', .slice (some ⟨w.heap.size + 1 + 1, 0, none⟩) 5 5]) (by simp [results, Tryd.results9, go_sem, cN]) rfl ⟨_, by rw [← hF.len]; rfl, hok, h0, hw', by rw [show min l.length 40 = k by omega]; exact HNS.out, rfl⟩
    · go_wp2
      have hw' : Gr w ((wr.setCell ⟨w.heap.size, 0, none⟩ (.slice (some ⟨g, 0, none⟩) n cap')).setCell ⟨w.heap.size, 1, none⟩ (.slice (some ⟨w.heap.size + 1 + 1, 0, none⟩) 5 5)) := (hF.gr.setCell (Nat.le_refl _) _).setCell (Nat.le_refl _) _
      obtain ⟨hok, h0⟩ := hF.fin hn1 hn2 hw' (fun b hne => (heap_setCell_other _ ⟨w.heap.size, 1, none⟩ b _ hne).trans (heap_setCell_other _ ⟨w.heap.size, 0, none⟩ b _ hne))
      exact bodyPost_ret (v := .agg #[.slice (some ⟨g, 0, none⟩) n cap', .slice (some ⟨w.heap.size + 1 + 1, 0, none⟩) 5 5]) (by simp [results, Tryd.results9, go_sem, cN]) rfl ⟨_, by rw [← hF.len]; rfl, hok, h0, hw', by rw [show min l.length 40 = k by omega]; exact HNS.out, rfl⟩
theorem forest_any (p : Option Addr) (cap : Nat) (l : List Raw4) (w : World) (hl : RawsAt w p l) :
    Calls Tryd.prog 9 #[.slice p l.length cap] w fun e w' => ∃ F : Fst, e = .returned (.agg F.cells.toArray) ∧ FstOk w' F ∧ forF F = 0 ∧ Gr w w' :=
  (forest_at p cap l w hl).mono fun _ _ ⟨F, h1, h2, h3, h4, _, _⟩ => ⟨F, h1, h2, h3, h4⟩
end Go.Proofs.YtcpmbjlhblkniaaDoor
namespace Go.Proofs.YtcpmbjlhblkniaaDoor
open Go.ChangeShapes Go.WideShapes Go.ChangeAt Go.RowKit
set_option linter.unusedVariables false
set_option maxRecDepth 100000
theorem drawn_len (l : List Raw4) : ∀ k, (drawn l k).length ≤ k + 1
  | 0 => Nat.le_refl _
  | k + 1 => by
    have := drawn_len l k
    unfold drawn
    cases l[k]? <;> simp <;> omega
/-- Forests of the same nodes and answers tell the same. -/
theorem evalA_eq {f g : Fst} (hf : forF f = 0) (hg : forF g = 0) (hn : f.nodes = g.nodes) (hv : f.answers.map Ans.val = g.answers.map Ans.val) (t : Int) : (evalA f t).val = (evalA g t).val := by
  have he : evalI f t = evalI g t := by unfold evalI; rw [hn]
  obtain ⟨x, hx⟩ : ∃ x, f.answers[evalI f t]? = some x := ⟨_, List.getElem?_eq_getElem ((good_of hf).evalI_lt t).1⟩
  obtain ⟨y, hy⟩ : ∃ y, g.answers[evalI g t]? = some y := ⟨_, List.getElem?_eq_getElem ((good_of hg).evalI_lt t).1⟩
  rw [evalA_yes hf hx, evalA_yes hg hy]
  have := congrArg (·[evalI f t]?) hv
  simp only [List.getElem?_map, hx] at this
  rw [he, hy] at this
  simpa using this
/-- A forest as it is drawn. -/
structure Drn (l : List Raw4) (F : Fst) : Prop where
  good : forF F = 0
  nodes : F.nodes = drawn l (min l.length 40)
  vals : F.answers.map Ans.val = (ans5 0).map Ans.val
theorem Drn.same {l : List Raw4} {F G : Fst} (h : Drn l F) (g : Drn l G) (t : Int) : (evalA F t).val = (evalA G t).val := evalA_eq h.good g.good (h.nodes.trans g.nodes.symm) (h.vals.trans g.vals.symm) t
/-- A program that tells what is drawn. -/
structure PrgT (l : List Raw4) (P : Prg) : Prop where
  ok : (Ver.verify P).2.2 = 0
  tells : ∀ t, minI ≤ t → t ≤ maxI → ∀ F, Drn l F → (ranA P t).val = (evalA F t).val
  short : P.code.length ≤ 300
/-- A program stays where a box without ints is written. -/
theorem prg_but {w w' : World} {rb : Nat} {P : Prg} (h : PrgOk w P) (hr : ∀ j n, w.cell? ⟨rb, j, none⟩ ≠ some (.int .i64 n)) (hk : ∀ b, b ≠ rb → w'.heap[b]? = w.heap[b]?) (hs : w.heap.size ≤ w'.heap.size) : PrgOk w' P := by
  have hc : ∀ (b : Nat), b ≠ rb → ∀ k, w'.cell? ⟨b, k, none⟩ = w.cell? ⟨b, k, none⟩ := fun b hb k => World.cell?_of_block (w := w) (a := ⟨b, k, none⟩) (hk b hb)
  refine ⟨h.ccap, h.pcap, h.acap, ⟨h.cat.len, fun i x hx => ?_⟩, h.cok, ints_but h.pat hr hk hs, h.pok, ⟨h.aat.len, fun i x hx => ?_⟩, fun x hx => ?_⟩
  · obtain ⟨b, o, e, hb, c1, c2⟩ := h.cat.cell i x hx
    have hne : b ≠ rb := fun e' => by rw [e'] at c1; exact hr _ _ c1
    exact ⟨b, o, e, Nat.lt_of_lt_of_le hb hs, (hc b hne _).trans c1, (hc b hne _).trans c2⟩
  · obtain ⟨b, o, e, hb, c0, c1, c2, c3, c4⟩ := h.aat.cell i x hx
    have hne : b ≠ rb := fun e' => by rw [e'] at c0; exact hr _ _ c0
    exact ⟨b, o, e, Nat.lt_of_lt_of_le hb hs, (hc b hne _).trans c0, (hc b hne _).trans c1, (hc b hne _).trans c2, (hc b hne _).trans c3, (hc b hne _).trans c4⟩
  · have k := h.aok x hx
    exact ⟨k.off, k.jump, k.nm, k.cap, ints_but k.zs hr hk hs, k.wz⟩
set_option maxHeartbeats 3200000 in
theorem program_any (p : Option Addr) (cap : Nat) (l : List Raw4) (m : Int) (w : World) (hx : RawsAt w p l) (wm : (Lit.int .i64 m).wf = true) :
    Calls Tryd.prog 5 #[.slice p l.length cap, .int .i64 m] w fun e w' => ∃ P : Prg, e = .returned (.tuple #[.agg P.cells.toArray, .bool true]) ∧ PrgOk w' P ∧ PrgT l P ∧ Gr w w' := by
  have m1 := Cal.pk_lo m (k := 8) (by omega)
  have m2 := Cal.pk_hi m (k := 8) (by omega)
  have HPM : Hid _ := fun k W (h0 : 0 < k) (h1 : k < 1099511627776) => picked_any m k W wm h0 h1
  have HFO : Hid _ := fun W (hW : RawsAt W p l) => forest_at p cap l W hW
  go_enter Tryd.func5, Tryd.ntmps5
  go_wp2_with fail
  refine (HFO.out _ (hx.gr (by exact (Gr.refl _).alloc _))).mono ?_
  rintro e w1 ⟨F, rfl, hF, h0, hg1, hfn, hfv⟩
  have k1 := (hg1.block w.heap.size (by simp)).trans (heapA w _)
  have hgr : Gr w w1 := ((Gr.refl _).alloc _).trans hg1
  have z1 : w.heap.size < w1.heap.size := Nat.lt_of_lt_of_le (by simp) hg1.size
  have K1 : Hid _ := k1
  have HO : Hid _ := fun k W (hg : Gr w1 W) (k0 : 0 ≤ k) (k7 : k ≤ 7) => opt_ok F k W (hF.gr hg) h0 k0 k7
  have HD : Hid _ := (show Drn l F from ⟨h0, hfn, hfv⟩)
  have HFL : Hid _ := (show F.nodes.length ≤ 41 by rw [hfn]; have := drawn_len l (min l.length 40); omega)
  obtain ⟨na, ncap, nodes, aa, acap, answers⟩ := F
  obtain ⟨X, hX⟩ : ∃ X : Fst, X = ⟨na, ncap, nodes, aa, acap, answers⟩ := ⟨_, rfl⟩
  have ec : X.cells = [.slice na nodes.length ncap, .slice aa answers.length acap] := by rw [hX]; rfl
  rw [← hX] at HO HD HFL ⊢
  rw [ec] at HO ⊢
  clear hx hF h0 hg1 hfn hfv hX ec k1
  go_wp2_with (go_at_call 6; refine (HPM.out _ _ (by omega) (by omega)).mono ?_; rintro e w2 ⟨rfl, hw2⟩; subst w2)
  refine (HO.out _ _ (Gr.refl _) m1 (by omega)).mono ?_
  rintro e w2 ⟨G, rfl, hM⟩
  have k2 := (hM.gr.block w.heap.size z1).trans K1.out
  have hgr2 := hgr.trans hM.gr
  have z2 : w.heap.size < w2.heap.size := Nat.lt_of_lt_of_le z1 hM.gr.size
  have HM : Hid _ := hM
  have HGN : Hid _ := fun W (hg : Gr w2 W) => gen_any G W (hM.ok.gr hg)
  have K2 : Hid _ := k2
  obtain ⟨nb, nbcap, nodes2, ab, abcap, answers2⟩ := G
  obtain ⟨Y, hY⟩ : ∃ Y : Fst, Y = ⟨nb, nbcap, nodes2, ab, abcap, answers2⟩ := ⟨_, rfl⟩
  have ec : Y.cells = [.slice nb nodes2.length nbcap, .slice ab answers2.length abcap] := by rw [hY]; rfl
  rw [← hY] at HM HGN ⊢
  rw [ec] at HGN ⊢
  clear hM hY ec k2 hgr
  go_wp2_with fail
  refine (HGN.out _ (by exact (Gr.refl _).alloc _)).mono ?_
  rintro e w3 hpost
  have hg3 := hpost.gr
  have hsz := Gn.all_size (good_of HM.out.good)
  have hfw := HM.out.few
  have hfl := HFL.out
  obtain ⟨P, rfl, hP, hpc, hpp, hpv⟩ := hpost.good HM.out.good (by omega) (by omega)
  have hgt := gen_tells HM.out.good hpc hpp hpv (by omega) (by omega)
  have HPT : Hid _ := (show PrgT l P from ⟨hgt.1, fun t t1 t2 F hF => (hgt.2 t).trans (by
    obtain ⟨y0, x0, hy0, hx0, hv0⟩ := HM.out.same.same t t1 t2
    rw [evalA_yes HM.out.good hy0, hv0, ← evalA_yes HD.out.good hx0]
    exact HD.out.same hF t), by rw [hpc]; omega⟩)
  have k3 := (hg3.block w.heap.size (by simp; omega)).trans ((Below.heap_alloc _ _ _ z2).trans K2.out)
  obtain ⟨c3, f3⟩ := row_all k3
  have hgr3 := (hgr2.alloc (.cells #[.slice nb nodes2.length nbcap, .slice ab answers2.length abcap] 42)).trans hg3
  have z3 : w.heap.size < w3.heap.size := (Array.getElem?_eq_some_iff.1 k3).1
  have HP : Hid _ := hP
  obtain ⟨ca, ccap, code, pa, pcap, pool, pc, pcp, ans⟩ := P
  obtain ⟨P, hPP⟩ : ∃ P : Prg, P = ⟨ca, ccap, code, pa, pcap, pool, pc, pcp, ans⟩ := ⟨_, rfl⟩
  have ep : P.cells = [.slice ca code.length ccap, .slice pa pool.length pcap, .slice pc ans.length pcp] := by rw [hPP]; rfl
  have HPP : Hid _ := hPP
  rw [← hPP] at HP HPT
  have HEP : Hid _ := ep
  clear hpost hg3 hsz hfw hfl hpc hpp hpv hgt hP hPP ep
  simp only [Prg.cells]
  go_wp2_with fail
  have hni : ∀ j n, w3.cell? ⟨w.heap.size, j, none⟩ ≠ some (.int .i64 n) := fun j n => by
    rw [c3]
    rcases j with _ | _ | _ | j <;> simp
  refine bodyPost_ret (v := .tuple #[.agg #[.slice ca code.length ccap, .slice pa pool.length pcap, .slice pc ans.length pcp], .bool true]) (by simp [results, Tryd.results5, go_sem, c3, z3]) rfl ⟨P, by rw [HEP.out], PrgOk.gr (prg_but (rb := w.heap.size) HP.out hni (fun b hb => ?_) (by simp [World.setCell])) ((Gr.refl _).alloc _), HPT.out, ?_⟩
  · exact (heap_setCell_other _ ⟨w.heap.size, 2, none⟩ b _ hb).trans ((heap_setCell_other _ ⟨w.heap.size, 1, none⟩ b _ hb).trans (heap_setCell_other _ ⟨w.heap.size, 0, none⟩ b _ hb))
  · repeat (with_reducible first | exact hgr3 | refine Gr.alloc ?_ _ | refine Gr.setCell ?_ (Nat.le_refl _) _)
end Go.Proofs.YtcpmbjlhblkniaaDoor
namespace Go.Proofs.YtcpmbjlhblkniaaDoor
open Go.ChangeShapes Go.WideShapes Go.ChangeAt Go.RowKit
set_option linter.unusedVariables false
set_option maxRecDepth 100000
set_option maxHeartbeats 1600000 in
theorem equalIns_yes (a b : Option Addr) (ca cb : Nat) (l : List Ins) (w : World) (ha : InssAt w a l) (hb : InssAt w b l) :
    Calls Tryd.prog 14 #[.slice a l.length ca, .slice b l.length cb] w fun e w' => e = .returned (.bool true) ∧ Gr w w' := by
  have l1 := ha.len
  unfold maxLen at l1
  have g : ((l.length : Int) != (l.length : Int)) = false := by simp
  go_enter Tryd.func14, Tryd.ntmps14
  go_wp2
  go_loopw [13] (fun t wr => ∃ k : Nat, k ≤ l.length ∧ t = .int .i64 k ∧ ∃ n, wr = w.drewN n) (fun t _ => l.length - (intOf t).toNat)
  case atStart => exact ⟨0, Nat.zero_le _, rfl, 0, rfl⟩
  case round =>
    obtain ⟨k, hk, rfl, n0, rfl⟩ := hrel
    by_cases hlt : k < l.length
    · obtain ⟨x, hx⟩ : ∃ x, l[k]? = some x := ⟨_, List.getElem?_eq_getElem hlt⟩
      obtain ⟨b1, o1, rfl, hb1, c1, d1⟩ := ha.cell k x hx
      obtain ⟨b2, o2, rfl, hb2, c2, d2⟩ := hb.cell k x hx
      clear hx
      go_wp2
      go_quiet (fail)
      go_wp2
      go_roundw
      case rel => exact ⟨k + 1, by omega, by go_num, _, rfl⟩
      case measure => simp [intOf]; omega
    · go_wp2
      go_ret
      exact ⟨rfl, (Gr.refl w).drewN _⟩
end Go.Proofs.YtcpmbjlhblkniaaDoor
namespace Go.Proofs.YtcpmbjlhblkniaaDoor
open Go.ChangeShapes Go.WideShapes Go.ChangeAt Go.RowKit
set_option linter.unusedVariables false
section
variable {H : Type} {enc : TypeId × Value → H} {P : Program}
theorem grown_same {W W' : World} (h : Grown W W') {p : MemPlace} (hp : p.block < W.heap.size) : W.sameAt W' p := by
  cases p with
  | cell b o => exact World.cell?_of_block (w := W) (Grown_block h b hp)
  | map b => exact Grown_block h b hp
theorem grown_trodAll (hl : laidOutB P = true) {W W' : World} (hg : Grown W W') {sp : Nat → Bool} : ∀ {ts : List TypeId} {vs : List Value} {ds : List (DataW H)} {ps : List MemPlace},
    (∀ t ∈ ts, P.readableRec t = true ∧ t < P.types.size) → DataW.TrodAll enc P W 0 (fun _ => true) true ts vs ds ps → (∀ x ∈ ps, x.block < W.heap.size) → (∀ x ∈ ps, sp x.block = true) → DataW.TrodAll enc P W' 0 sp true ts vs ds ps
  | [], [], [], _, _, h, _, _ => h
  | _ :: _, _ :: _, _ :: _, _, hT, ⟨p, q, h1, h2, e⟩, hlt, hs =>
    ⟨p, q, WideElems.Trod_stays hl (hT _ (List.mem_cons.2 (Or.inl rfl))).1 (hT _ (List.mem_cons.2 (Or.inl rfl))).2 h1 (fun x hx => grown_same hg (hlt x (by rw [e]; exact List.mem_append_left _ hx))) (fun x hx => hs x (by rw [e]; exact List.mem_append_left _ hx)),
      grown_trodAll hl hg (fun t ht => hT t (List.mem_cons.2 (Or.inr ht))) h2 (fun x hx => hlt x (by rw [e]; exact List.mem_append_right _ hx)) (fun x hx => hs x (by rw [e]; exact List.mem_append_right _ hx)), e⟩
end
section
variable {H : Type} {enc : TypeId × Value → H} {P : Program} {w : World} {base : Nat} {spare : Nat → Bool} {held : Bool}
theorem add_none (b o j : Nat) : Addr.add ⟨b, o, none⟩ j = ⟨b, o + j, none⟩ := Go.WideShapes.add_plain ..
/-- A slice whose elements fill k cells each. -/
theorem open_rows {t e : TypeId} {k fuel : Nat} {cs : List Value} {x : DataW H × List MemPlace} (ht : P.underlying t = some (.slice e)) (hc : P.cellsOf e = k) (hk : 0 < k) (h : DataW.trod enc P w base spare held fuel t cs = some x) :
    ∃ (a : Option Addr) (len cap n : Nat), cs = [.slice a len cap] ∧ len ≤ cap ∧ cap ≤ maxLen ∧
      ∀ i, i < len → ∃ b o vs d, a = some ⟨b, o, none⟩ ∧ b < w.heap.size ∧ vs.length = k ∧ (∀ j, j < k → w.cell? ⟨b, o + (i * k + j), none⟩ = vs[j]?) ∧ DataW.trod enc P w base spare held n e vs = some d := by
  rcases Go.Deep.open_slice ht h with ⟨rfl, _⟩ | ⟨a, len, cap, m, n, D, Pl, rfl, _, hl, hm, hmm, _, hx⟩
  · exact ⟨none, 0, 0, 0, rfl, Nat.le_refl _, Nat.zero_le _, fun i hi => absurd hi (Nat.not_lt_zero _)⟩
  · refine ⟨some a, len, cap, n, rfl, hl, hm, fun i hi => ?_⟩
    obtain ⟨cs', h1, h2⟩ := hx i (by rw [hmm]; split <;> omega)
    rw [hc] at h1
    obtain ⟨_, hlen, hcell⟩ := World.cells?_some h1
    have h0 := hcell 0 hk
    rw [List.getElem?_eq_getElem (by omega)] at h0
    obtain ⟨b, o, spot⟩ := a
    rw [Go.Deep.add_add] at h0
    have hspot : spot = none := by
      obtain ⟨cs0, g1, _⟩ := hx 0 (by rw [hmm]; split <;> omega)
      rw [hc] at g1
      obtain ⟨_, glen, gcell⟩ := World.cells?_some g1
      have g0 := gcell 0 hk
      rw [List.getElem?_eq_getElem (by omega)] at g0
      simpa [Addr.add] using World.cell?_spot g0
    subst hspot
    rw [add_none] at h0
    refine ⟨b, o, cs', (D i, Pl i), rfl, ?_, hlen, fun j hj => ?_, h2⟩
    · rcases Nat.lt_or_ge b w.heap.size with g | g
      · exact g
      · have nn : w.heap[b]? = none := Array.getElem?_eq_none g
        simp [World.cell?, nn] at h0
    · have := hcell j hj
      rw [Go.Deep.add_add, add_none] at this
      exact this
/-- A slice of ints. -/
theorem ints_cells {t e : TypeId} {fuel : Nat} {cs : List Value} {x : DataW H × List MemPlace} (ht : P.underlying t = some (.slice e)) (he : P.underlying e = some (.int .i64)) (hc : P.cellsOf e = 1) (h : DataW.trod enc P w base spare held fuel t cs = some x) :
    ∃ (a : Option Addr) (cap : Nat) (zs : List Int), cs = [.slice a zs.length cap] ∧ zs.length ≤ cap ∧ cap ≤ maxLen ∧ IntsAt w a zs ∧ ∀ z ∈ zs, (Lit.int .i64 z).wf = true := by
  obtain ⟨a, len, cap, n, rfl, hl, hm, hx⟩ := open_rows ht hc (by decide) h
  obtain ⟨f, hf⟩ := Go.Deep.choose_lt (α := Int) (n := len) (p := fun i z => ∃ b o, a = some ⟨b, o, none⟩ ∧ b < w.heap.size ∧ w.cell? ⟨b, o + i, none⟩ = some (.int .i64 z) ∧ (Lit.int .i64 z).wf = true) (fun i hi => by
    obtain ⟨b, o, vs, d, ha, hb, hlen, hcell, hd⟩ := hx i hi
    obtain ⟨z, rfl, _, hw⟩ := DataW.trod_int he hd
    exact ⟨z, b, o, ha, hb, by simpa using hcell 0 (by decide), hw⟩)
  refine ⟨a, cap, (List.range len).map f, by simp, by simpa using hl, hm, ⟨by simp; exact Nat.le_trans hl hm, fun i z hz => ?_⟩, fun z hz => ?_⟩
  · simp only [List.getElem?_map, Option.map_eq_some_iff] at hz
    obtain ⟨j, hj, rfl⟩ := hz
    have hi : i < len := by rcases Nat.lt_or_ge i len with g | g; exact g; simp [Nat.not_lt.2 g] at hj
    simp [hi] at hj
    subst hj
    obtain ⟨b, o, ha, hb, hcell, _⟩ := hf i hi
    exact ⟨b, o, ha, hb, hcell⟩
  · obtain ⟨i, hi, rfl⟩ := List.mem_map.1 hz
    obtain ⟨b, o, _, _, _, hw⟩ := hf i (List.mem_range.1 hi)
    exact hw
end
end Go.Proofs.YtcpmbjlhblkniaaDoor
namespace Go.Proofs.YtcpmbjlhblkniaaDoor
open Go.ChangeShapes Go.WideShapes Go.ChangeAt Go.RowKit
set_option linter.unusedVariables false
set_option maxRecDepth 100000
theorem arr5 {α : Type} {cs : List α} (h : cs.length = 5) : ∃ c0 c1 c2 c3 c4, cs = [c0, c1, c2, c3, c4] := by
  match cs, h with
  | [c0, c1, c2, c3, c4], _ => exact ⟨c0, c1, c2, c3, c4, rfl⟩
section
variable {H : Type} {enc : TypeId × Value → H} {w : World} {base : Nat} {spare : Nat → Bool} {held : Bool}
theorem Tryd.cInt : Tryd.prog.cellsOf 3 = 1 := by kernel_rfl
theorem Tryd.cBool : Tryd.prog.cellsOf 4 = 1 := by kernel_rfl
theorem Tryd.cString : Tryd.prog.cellsOf 9 = 1 := by kernel_rfl
theorem Tryd.cInts : Tryd.prog.cellsOf 24 = 1 := by kernel_rfl
theorem Tryd.cClock : Tryd.prog.cellsOf 32 = 3 := by kernel_rfl
theorem Tryd.cAnswer : Tryd.prog.cellsOf 34 = 5 := by kernel_rfl
theorem clock_cells {fuel : Nat} {c0 c1 c2 : Value} {x : DataW H × List MemPlace} (h : DataW.trod enc Tryd.prog w base spare held fuel 32 [c0, c1, c2] = some x) :
    ∃ (a : Int) (b : Bool) (c : ByteArray), c0 = .int .i64 a ∧ c1 = .bool b ∧ c2 = .string c ∧ (Lit.int .i64 a).wf = true ∧ c.size ≤ maxLen := by
  obtain ⟨xs, n, _, rfl, _, hlen, hf⟩ := DataW.trod_struct Tryd.underlying32 h
  have e0 : DataW.trod enc Tryd.prog w base spare held n 3 (([c0, c1, c2].drop 0).take (Tryd.prog.cellsOf 3)) = xs[0]? := hf 0 _ rfl
  have e1 : DataW.trod enc Tryd.prog w base spare held n 4 (([c0, c1, c2].drop 1).take (Tryd.prog.cellsOf 4)) = xs[1]? := hf 1 _ rfl
  have e2 : DataW.trod enc Tryd.prog w base spare held n 9 (([c0, c1, c2].drop 2).take (Tryd.prog.cellsOf 9)) = xs[2]? := hf 2 _ rfl
  rw [Tryd.cInt] at e0
  rw [Tryd.cBool] at e1
  rw [Tryd.cString] at e2
  match xs, hlen with
  | [y0, y1, y2], _ =>
    simp at e0 e1 e2
    obtain ⟨a, h0, rfl, wa⟩ := DataW.trod_int Tryd.underlying3 e0
    obtain ⟨b, h1, rfl⟩ := DataW.trod_bool Tryd.underlying4 e1
    obtain ⟨c, h2, rfl, wc⟩ := DataW.trod_string Tryd.underlying9 e2
    simp at h0 h1 h2
    exact ⟨a, b, c, h0, h1, h2, wa, wc⟩
theorem answer_cells {fuel : Nat} {cs : List Value} {y : DataW H × List MemPlace} (hl : cs.length = 5) (h : DataW.trod enc Tryd.prog w base spare held fuel 34 cs = some y) :
    ∃ x : Ans, cs = x.cells ∧ AnsOk w x := by
  obtain ⟨c0, c1, c2, c3, c4, rfl⟩ := arr5 hl
  obtain ⟨xs, n, _, rfl, _, hlen, hf⟩ := DataW.trod_struct Tryd.underlying34 h
  have e0 : DataW.trod enc Tryd.prog w base spare held n 32 (([c0, c1, c2, c3, c4].drop 0).take (Tryd.prog.cellsOf 32)) = xs[0]? := hf 0 _ rfl
  have e1 : DataW.trod enc Tryd.prog w base spare held n 24 (([c0, c1, c2, c3, c4].drop 3).take (Tryd.prog.cellsOf 24)) = xs[1]? := hf 1 _ rfl
  have e2 : DataW.trod enc Tryd.prog w base spare held n 3 (([c0, c1, c2, c3, c4].drop 4).take (Tryd.prog.cellsOf 3)) = xs[2]? := hf 2 _ rfl
  rw [Tryd.cClock] at e0
  rw [Tryd.cInts] at e1
  rw [Tryd.cInt] at e2
  match xs, hlen with
  | [y0, y1, y2], _ =>
    simp at e0 e1 e2
    obtain ⟨o, b, s, rfl, rfl, rfl, wo, ws⟩ := clock_cells e0
    obtain ⟨a, cap, zs, h1, hc, hm, hz, wz⟩ := ints_cells Tryd.underlying24 Tryd.underlying3 Tryd.cInt e1
    obtain ⟨j, h2, _, wj⟩ := DataW.trod_int Tryd.underlying3 e2
    simp at h1 h2
    subst h1 h2
    exact ⟨⟨o, b, s, a, cap, zs, j⟩, rfl, ⟨wo, wj, ws, hc, hz, wz⟩⟩
theorem open_answer {r : Reach} {b0 : Nat} {v : Value} {d : DataW H} {p : List MemPlace} (hv : Value.okWide Tryd.prog w r b0 34 v) (h : DataW.Trod enc Tryd.prog w base spare held 34 v d p) :
    ∃ x : Ans, v = .agg x.cells.toArray ∧ AnsOk w x := by
  obtain ⟨cs, rfl, hsz⟩ := okWide_struct Tryd.underlying34 hv
  obtain ⟨fuel, hf⟩ := h
  obtain ⟨x, hx, ho⟩ := answer_cells (cs := cs.toList) (by simpa using hsz.trans Tryd.cAnswer) (by simpa [Value.cells] using hf)
  exact ⟨x, by rw [← hx], ho⟩
theorem Tryd.cNode : Tryd.prog.cellsOf 65 = 5 := by kernel_rfl
theorem Tryd.cNodes : Tryd.prog.cellsOf 40 = 1 := by kernel_rfl
theorem Tryd.cAnswers : Tryd.prog.cellsOf 25 = 1 := by kernel_rfl
theorem Tryd.cForest : Tryd.prog.cellsOf 42 = 2 := by kernel_rfl
theorem node_cells {fuel : Nat} {cs : List Value} {y : DataW H × List MemPlace} (hl : cs.length = 5) (h : DataW.trod enc Tryd.prog w base spare held fuel 65 cs = some y) :
    ∃ x : Tre.Nod, cs = Nod.cells x ∧ NodOk x := by
  obtain ⟨c0, c1, c2, c3, c4, rfl⟩ := arr5 hl
  obtain ⟨xs, n, _, rfl, _, hlen, hf⟩ := DataW.trod_struct Tryd.underlying65 h
  have e0 : DataW.trod enc Tryd.prog w base spare held n 4 (([c0, c1, c2, c3, c4].drop 0).take (Tryd.prog.cellsOf 4)) = xs[0]? := hf 0 _ rfl
  have e1 : DataW.trod enc Tryd.prog w base spare held n 3 (([c0, c1, c2, c3, c4].drop 1).take (Tryd.prog.cellsOf 3)) = xs[1]? := hf 1 _ rfl
  have e2 : DataW.trod enc Tryd.prog w base spare held n 3 (([c0, c1, c2, c3, c4].drop 2).take (Tryd.prog.cellsOf 3)) = xs[2]? := hf 2 _ rfl
  have e3 : DataW.trod enc Tryd.prog w base spare held n 3 (([c0, c1, c2, c3, c4].drop 3).take (Tryd.prog.cellsOf 3)) = xs[3]? := hf 3 _ rfl
  have e4 : DataW.trod enc Tryd.prog w base spare held n 3 (([c0, c1, c2, c3, c4].drop 4).take (Tryd.prog.cellsOf 3)) = xs[4]? := hf 4 _ rfl
  rw [Tryd.cBool] at e0
  rw [Tryd.cInt] at e1 e2 e3 e4
  match xs, hlen with
  | [y0, y1, y2, y3, y4], _ =>
    simp at e0 e1 e2 e3 e4
    obtain ⟨l, h0, _⟩ := DataW.trod_bool Tryd.underlying4 e0
    obtain ⟨a, h1, _, w1⟩ := DataW.trod_int Tryd.underlying3 e1
    obtain ⟨b, h2, _, w2⟩ := DataW.trod_int Tryd.underlying3 e2
    obtain ⟨c, h3, _, w3⟩ := DataW.trod_int Tryd.underlying3 e3
    obtain ⟨d, h4, _, w4⟩ := DataW.trod_int Tryd.underlying3 e4
    simp at h0 h1 h2 h3 h4
    subst h0 h1 h2 h3 h4
    exact ⟨⟨l, a, b, c, d⟩, rfl, ⟨w1, w2, w3, w4⟩⟩
theorem range_get {α : Type} {f : Nat → α} {n i : Nat} {z : α} (h : ((List.range n).map f)[i]? = some z) : i < n ∧ z = f i := by
  have hi : i < n := by have := (List.getElem?_eq_some_iff.1 h).1; simpa using this
  refine ⟨hi, ?_⟩
  rw [List.getElem?_map, List.getElem?_range hi] at h
  simpa using h.symm
/-- A slice whose elements fill five cells each, opened. -/
theorem fives_cells {α : Type} [Inhabited α] {t e : TypeId} {fuel : Nat} {cs : List Value} {y : DataW H × List MemPlace} (cells : α → List Value) (ok : α → Prop) (ht : Tryd.prog.underlying t = some (.slice e)) (hc : Tryd.prog.cellsOf e = 5)
    (hop : ∀ (n : Nat) (vs : List Value) (d : DataW H × List MemPlace), vs.length = 5 → DataW.trod enc Tryd.prog w base spare held n e vs = some d → ∃ x, vs = cells x ∧ ok x) (hln : ∀ x, (cells x).length = 5)
    (h : DataW.trod enc Tryd.prog w base spare held fuel t cs = some y) :
    ∃ (a : Option Addr) (cap : Nat) (l : List α), cs = [.slice a l.length cap] ∧ l.length ≤ cap ∧ FivesAt w a l cells ∧ ∀ x ∈ l, ok x := by
  obtain ⟨a, len, cap, n, rfl, hl, hm, hx⟩ := open_rows ht hc (by decide) h
  obtain ⟨f, hf⟩ := Go.Deep.choose_lt (α := α) (n := len) (p := fun i x => ok x ∧ ∃ b o, a = some ⟨b, o, none⟩ ∧ b < w.heap.size ∧ Five w b (o + i * 5) (cells x)) (fun i hi => by
    obtain ⟨b, o, vs, d, ha, hb, hlen, hcell, hd⟩ := hx i hi
    obtain ⟨x, rfl, hok⟩ := hop n vs d hlen hd
    exact ⟨x, hok, b, o, ha, hb, by simpa using hcell 0 (by decide), hcell 1 (by decide), hcell 2 (by decide), hcell 3 (by decide), hcell 4 (by decide)⟩)
  refine ⟨a, cap, (List.range len).map f, by simp, by simpa using hl, ⟨by simp; exact Nat.le_trans hl hm, fun i z hz => ?_⟩, fun z hz => ?_⟩
  · obtain ⟨hi, rfl⟩ := range_get hz
    exact (hf i hi).2
  · obtain ⟨i, hi, rfl⟩ := List.mem_map.1 hz
    exact (hf i (List.mem_range.1 hi)).1
instance : Inhabited Ans := ⟨⟨0, false, ⟨#[]⟩, none, 0, [], 0⟩⟩
instance : Inhabited Tre.Nod := ⟨⟨false, 0, 0, 0, 0⟩⟩
theorem forest_cells {fuel : Nat} {c0 c1 : Value} {y : DataW H × List MemPlace} (h : DataW.trod enc Tryd.prog w base spare held fuel 42 [c0, c1] = some y) :
    ∃ f : Fst, [c0, c1] = f.cells ∧ FstOk w f := by
  obtain ⟨xs, n, _, rfl, _, hlen, hf⟩ := DataW.trod_struct Tryd.underlying42 h
  have e0 : DataW.trod enc Tryd.prog w base spare held n 40 (([c0, c1].drop 0).take (Tryd.prog.cellsOf 40)) = xs[0]? := hf 0 _ rfl
  have e1 : DataW.trod enc Tryd.prog w base spare held n 25 (([c0, c1].drop 1).take (Tryd.prog.cellsOf 25)) = xs[1]? := hf 1 _ rfl
  rw [Tryd.cNodes] at e0
  rw [Tryd.cAnswers] at e1
  match xs, hlen with
  | [y0, y1], _ =>
    simp at e0 e1
    obtain ⟨na, ncap, nodes, h0, hn1, hn2, hn3⟩ := fives_cells Nod.cells NodOk Tryd.underlying40 Tryd.cNode (fun n vs d hl hd => node_cells hl hd) (fun _ => rfl) e0
    obtain ⟨aa, acap, answers, h1, ha1, ha2, ha3⟩ := fives_cells Ans.cells (AnsOk w) Tryd.underlying25 Tryd.cAnswer (fun n vs d hl hd => answer_cells hl hd) (fun _ => rfl) e1
    simp at h0 h1
    subst h0 h1
    exact ⟨⟨na, ncap, nodes, aa, acap, answers⟩, rfl, ⟨hn1, ha1, hn2, hn3, ha2, ha3⟩⟩
theorem open_forest {r : Reach} {b0 : Nat} {v : Value} {d : DataW H} {p : List MemPlace} (hv : Value.okWide Tryd.prog w r b0 42 v) (h : DataW.Trod enc Tryd.prog w base spare held 42 v d p) :
    ∃ x : Fst, v = .agg x.cells.toArray ∧ FstOk w x := by
  obtain ⟨cs, rfl, hsz⟩ := okWide_struct Tryd.underlying42 hv
  obtain ⟨fuel, hf⟩ := h
  obtain ⟨l⟩ := cs
  have hsz' : l.length = 2 := hsz.trans Tryd.cForest
  match l, hsz' with
  | [c0, c1], _ =>
    obtain ⟨x, hx, ho⟩ := forest_cells (by simpa [Value.cells] using hf)
    exact ⟨x, by rw [← hx], ho⟩
end
end Go.Proofs.YtcpmbjlhblkniaaDoor
namespace Go.Proofs.YtcpmbjlhblkniaaDoor
open Go.ChangeShapes Go.WideShapes Go.ChangeAt Go.RowKit
set_option linter.unusedVariables false
section
variable {H : Type} {enc : TypeId × Value → H} {P : Program}
theorem gr_trodAll (hl : laidOutB P = true) {W W' : World} (hg : Gr W W') {sp : Nat → Bool} : ∀ {ts : List TypeId} {vs : List Value} {ds : List (DataW H)} {ps : List MemPlace},
    (∀ t ∈ ts, P.readableRec t = true ∧ t < P.types.size) → DataW.TrodAll enc P W 0 (fun _ => true) true ts vs ds ps → (∀ x ∈ ps, x.block < W.heap.size) → (∀ x ∈ ps, sp x.block = true) → DataW.TrodAll enc P W' 0 sp true ts vs ds ps
  | [], [], [], _, _, h, _, _ => h
  | _ :: _, _ :: _, _ :: _, _, hT, ⟨p, q, h1, h2, e⟩, hlt, hs =>
    ⟨p, q, WideElems.Trod_stays hl (hT _ (List.mem_cons.2 (Or.inl rfl))).1 (hT _ (List.mem_cons.2 (Or.inl rfl))).2 h1 (fun x hx => hg.same (hlt x (by rw [e]; exact List.mem_append_left _ hx))) (fun x hx => hs x (by rw [e]; exact List.mem_append_left _ hx)),
      gr_trodAll hl hg (fun t ht => hT t (List.mem_cons.2 (Or.inr ht))) h2 (fun x hx => hlt x (by rw [e]; exact List.mem_append_right _ hx)) (fun x hx => hs x (by rw [e]; exact List.mem_append_right _ hx)), e⟩
variable {w : World} {base : Nat} {spare : Nat → Bool} {held : Bool}
theorem slice_reach {t e : TypeId} {fuel : Nat} {a : Option Addr} {n cap : Nat} {y : DataW H × List MemPlace} (ht : P.underlying t = some (.slice e)) (h : DataW.trod enc P w base spare held fuel t [.slice a n cap] = some y)
    (hw : ∀ k ∈ y.1.weights P t, k ≤ reachBytes) : n * P.bytesOf e ≤ reachBytes := by
  rcases Go.Deep.open_slice ht h with ⟨h1, _⟩ | ⟨a', len, cap', m, n', D, Pl, h1, _, hl, hm, hmm, rfl, hx⟩
  · simp at h1; rw [h1.2.1]; simp
  · simp at h1
    obtain ⟨_, rfl, _⟩ := h1
    have := hw ((((List.range n).map D).length + ((List.range (m - n)).map fun j => D (n + j)).length) * P.bytesOf e) (by simp [DataW.weights, ht])
    simp at this
    have h2 : n ≤ n + (m - n) := by omega
    exact Nat.le_trans (Nat.mul_le_mul_right _ h2) this
end
section
variable {H : Type} {enc : TypeId × Value → H} {w : World} {base : Nat} {spare : Nat → Bool} {held : Bool}
theorem Tryd.bNode : Tryd.prog.bytesOf 65 = 40 := by kernel_rfl
theorem forest_reach {f : Fst} {d : DataW H} {p : List MemPlace} (h : DataW.Trod enc Tryd.prog w base spare held 42 (.agg f.cells.toArray) d p) (hw : ∀ k ∈ d.weights Tryd.prog 42, k ≤ reachBytes) : f.nodes.length * 40 ≤ 140737488351232 := by
  obtain ⟨fuel, hf⟩ := h
  have hf' : DataW.trod enc Tryd.prog w base spare held fuel 42 [.slice f.na f.nodes.length f.ncap, .slice f.aa f.answers.length f.acap] = some (d, p) := by simpa [Value.cells, Fst.cells] using hf
  obtain ⟨xs, n, _, hd, _, hlen, hg⟩ := DataW.trod_struct Tryd.underlying42 hf'
  have e0 : DataW.trod enc Tryd.prog w base spare held n 40 (([.slice f.na f.nodes.length f.ncap, .slice f.aa f.answers.length f.acap] : List Value).drop 0 |>.take (Tryd.prog.cellsOf 40)) = xs[0]? := hg 0 _ rfl
  rw [Tryd.cNodes] at e0
  match xs, hlen with
  | [y0, y1], _ =>
    simp at e0 hd
    have := slice_reach Tryd.underlying40 e0 (fun k hk => hw k (by rw [hd.1]; simp [DataW.weights, Tryd.underlying42, DataW.weightsEach]; exact Or.inl hk))
    rw [Tryd.bNode] at this
    simpa [reachBytes] using this
end
end Go.Proofs.YtcpmbjlhblkniaaDoor
namespace Go.Proofs.YtcpmbjlhblkniaaDoor
open Go.ChangeShapes Go.WideShapes Go.ChangeAt Go.RowKit
set_option linter.unusedVariables false
set_option maxRecDepth 100000
structure Raws where
  p : Option Addr
  cap : Nat
  l : List Raw4
instance : Inhabited Raw4 := ⟨⟨0, 0, 0, 0⟩⟩
section
variable {H : Type} {enc : TypeId × Value → H} {w : World} {base : Nat} {spare : Nat → Bool} {held : Bool}
theorem Tryd.cRaw : Tryd.prog.cellsOf 67 = 4 := by kernel_rfl
theorem raw_cells {fuel : Nat} {cs : List Value} {y : DataW H × List MemPlace} (hl : cs.length = 4) (h : DataW.trod enc Tryd.prog w base spare held fuel 67 cs = some y) :
    ∃ x : Raw4, cs = [.int .i64 x.kind, .int .i64 x.a, .int .i64 x.b, .int .i64 x.c] ∧ RawOk x := by
  match cs, hl with
  | [c0, c1, c2, c3], _ =>
    obtain ⟨xs, n, _, rfl, _, hlen, hf⟩ := DataW.trod_struct Tryd.underlying67 h
    have e0 : DataW.trod enc Tryd.prog w base spare held n 3 (([c0, c1, c2, c3].drop 0).take (Tryd.prog.cellsOf 3)) = xs[0]? := hf 0 _ rfl
    have e1 : DataW.trod enc Tryd.prog w base spare held n 3 (([c0, c1, c2, c3].drop 1).take (Tryd.prog.cellsOf 3)) = xs[1]? := hf 1 _ rfl
    have e2 : DataW.trod enc Tryd.prog w base spare held n 3 (([c0, c1, c2, c3].drop 2).take (Tryd.prog.cellsOf 3)) = xs[2]? := hf 2 _ rfl
    have e3 : DataW.trod enc Tryd.prog w base spare held n 3 (([c0, c1, c2, c3].drop 3).take (Tryd.prog.cellsOf 3)) = xs[3]? := hf 3 _ rfl
    rw [Tryd.cInt] at e0 e1 e2 e3
    match xs, hlen with
    | [y0, y1, y2, y3], _ =>
      simp at e0 e1 e2 e3
      obtain ⟨a, h0, _, w0⟩ := DataW.trod_int Tryd.underlying3 e0
      obtain ⟨b, h1, _, w1⟩ := DataW.trod_int Tryd.underlying3 e1
      obtain ⟨c, h2, _, w2⟩ := DataW.trod_int Tryd.underlying3 e2
      obtain ⟨d, h3, _, w3⟩ := DataW.trod_int Tryd.underlying3 e3
      simp at h0 h1 h2 h3
      subst h0 h1 h2 h3
      exact ⟨⟨a, b, c, d⟩, rfl, ⟨w0, w1, w2, w3⟩⟩
theorem open_raws {r : Reach} {b0 : Nat} {v : Value} {d : DataW H} {p : List MemPlace} (hv : Value.okWide Tryd.prog w r b0 22 v) (h : DataW.Trod enc Tryd.prog w base spare held 22 v d p) :
    ∃ x : Raws, v = .slice x.p x.l.length x.cap ∧ RawsAt w x.p x.l := by
  obtain ⟨a0, n0, c0, rfl⟩ := okWide_slice Tryd.underlying22 hv
  obtain ⟨fuel, hf⟩ := h
  obtain ⟨a, len, cap, n, e, hl, hm, hx⟩ := open_rows Tryd.underlying22 Tryd.cRaw (by decide) (by simpa [Value.cells] using hf : DataW.trod enc Tryd.prog w base spare held fuel 22 [.slice a0 n0 c0] = some (d, p))
  simp at e
  obtain ⟨rfl, rfl, rfl⟩ := e
  obtain ⟨f, hf2⟩ := Go.Deep.choose_lt (α := Raw4) (n := n0) (p := fun i x => RawOk x ∧ ∃ b o, a0 = some ⟨b, o, none⟩ ∧ b < w.heap.size ∧ w.cell? ⟨b, o + i * 4, none⟩ = some (.int .i64 x.kind) ∧ w.cell? ⟨b, o + i * 4 + 1, none⟩ = some (.int .i64 x.a) ∧ w.cell? ⟨b, o + i * 4 + 2, none⟩ = some (.int .i64 x.b) ∧ w.cell? ⟨b, o + i * 4 + 3, none⟩ = some (.int .i64 x.c)) (fun i hi => by
    obtain ⟨b, o, vs, d, ha, hb, hlen, hcell, hd⟩ := hx i hi
    obtain ⟨x, rfl, hok⟩ := raw_cells hlen hd
    exact ⟨x, hok, b, o, ha, hb, by simpa using hcell 0 (by decide), hcell 1 (by decide), hcell 2 (by decide), hcell 3 (by decide)⟩)
  refine ⟨⟨a0, c0, (List.range n0).map f⟩, by simp, ⟨by simp; exact Nat.le_trans hl hm, fun i z hz => ?_⟩⟩
  obtain ⟨hi, rfl⟩ := range_get hz
  exact hf2 i hi
end
end Go.Proofs.YtcpmbjlhblkniaaDoor
namespace Go.Proofs.YtcpmbjlhblkniaaDoor
open Go.ChangeShapes Go.WideShapes Go.ChangeAt Go.RowKit
set_option linter.unusedVariables false
set_option maxRecDepth 100000
theorem Tryd.gOps : Tryd.prog.globalNamed "sundial/code.operators" = some 0 := by kernel_rfl
theorem Tryd.gOpsType : (Tryd.prog.globals[0]?).map (·.type) = some 138 := by kernel_rfl
theorem Tryd.cOps : Tryd.prog.cellsOf 138 = 24 := by kernel_rfl
theorem Tryd.cOp : Tryd.prog.cellsOf 107 = 4 := by kernel_rfl
theorem Tryd.cIntO : Tryd.prog.cellsOf 3 = 1 := by kernel_rfl
theorem Tryd.cBoolO : Tryd.prog.cellsOf 4 = 1 := by kernel_rfl
theorem Tryd.cStringO : Tryd.prog.cellsOf 9 = 1 := by kernel_rfl
section
variable {H : Type} {enc : TypeId × Value → H} {w : World} {base : Nat} {spare : Nat → Bool} {held : Bool}
theorem op_cells {fuel : Nat} {cs : List Value} {bs : List UInt8} {t l : Int} {b : Bool} {p : List MemPlace} (hl : cs.length = 4) (h : DataW.trod enc Tryd.prog w base spare held fuel 107 cs = some (.agg [.lit (.string bs), .lit (.int .i64 t), .lit (.int .i64 l), .lit (.bool b)], p)) :
    cs = [.string ⟨bs.toArray⟩, .int .i64 t, .int .i64 l, .bool b] := by
  match cs, hl with
  | [c0, c1, c2, c3], _ =>
    obtain ⟨xs, n, _, hx, _, hlen, hf⟩ := DataW.trod_struct Tryd.underlying107 h
    have e0 : DataW.trod enc Tryd.prog w base spare held n 9 (([c0, c1, c2, c3].drop 0).take (Tryd.prog.cellsOf 9)) = xs[0]? := hf 0 _ rfl
    have e1 : DataW.trod enc Tryd.prog w base spare held n 3 (([c0, c1, c2, c3].drop 1).take (Tryd.prog.cellsOf 3)) = xs[1]? := hf 1 _ rfl
    have e2 : DataW.trod enc Tryd.prog w base spare held n 3 (([c0, c1, c2, c3].drop 2).take (Tryd.prog.cellsOf 3)) = xs[2]? := hf 2 _ rfl
    have e3 : DataW.trod enc Tryd.prog w base spare held n 4 (([c0, c1, c2, c3].drop 3).take (Tryd.prog.cellsOf 4)) = xs[3]? := hf 3 _ rfl
    rw [Tryd.cStringO] at e0
    rw [Tryd.cIntO] at e1 e2
    rw [Tryd.cBoolO] at e3
    match xs, hlen with
    | [y0, y1, y2, y3], _ =>
      simp at e0 e1 e2 e3
      obtain ⟨s, h0, q0, _⟩ := DataW.trod_string Tryd.underlying9 e0
      obtain ⟨m, h1, q1, _⟩ := DataW.trod_int Tryd.underlying3 e1
      obtain ⟨k, h2, q2, _⟩ := DataW.trod_int Tryd.underlying3 e2
      obtain ⟨v, h3, q3⟩ := DataW.trod_bool Tryd.underlying4 e3
      simp at h0 h1 h2 h3
      subst h0 h1 h2 h3
      simp [q0, q1, q2, q3] at hx
      obtain ⟨⟨g0, g1, g2, g3⟩, -⟩ := hx
      subst g0 g1 g2 g3
      rfl
end
theorem opr_of_laid {W : World} {rest : List (String × DataW Unit)} (h : laidMet Tryd.prog (("sundial/code.operators", Rows.laid_sundial_code_operators) :: rest) W) : Opr W := by
  obtain ⟨ps, ⟨g', t', cs, fuel, p, q, hg', ht', hvar, hd, _, _⟩, _⟩ := h
  obtain rfl := Option.some.inj (Tryd.gOps.symm.trans hg')
  obtain rfl := Option.some.inj (Tryd.gOpsType.symm.trans ht')
  have hc := World.var?_cell Tryd.gOps hvar
  obtain ⟨xs, m, _, hx, hlen, hxl, hf⟩ := DataW.trod_array Tryd.underlying138 hd
  rw [Tryd.cOps] at hlen
  have hsz : cs.size = 24 := by simpa using hlen
  rw [Tryd.cOp] at hf
  match xs, hxl with
  | [y0, y1, y2, y3, y4, y5], _ =>
    unfold Rows.laid_sundial_code_operators at hx
    simp only [Prod.mk.injEq, DataW.agg.injEq, List.map_cons, List.map_nil, List.cons.injEq, and_true] at hx
    obtain ⟨⟨g0, g1, g2, g3, g4, g5⟩, -⟩ := hx
    have e0 := hf 0 (by decide)
    have e1 := hf 1 (by decide)
    have e2 := hf 2 (by decide)
    have e3 := hf 3 (by decide)
    have e4 := hf 4 (by decide)
    have e5 := hf 5 (by decide)
    obtain ⟨z0, y0⟩ := y0
    obtain ⟨z1, y1⟩ := y1
    obtain ⟨z2, y2⟩ := y2
    obtain ⟨z3, y3⟩ := y3
    obtain ⟨z4, y4⟩ := y4
    obtain ⟨z5, y5⟩ := y5
    simp only at g0 g1 g2 g3 g4 g5
    subst g0 g1 g2 g3 g4 g5
    have o0 := op_cells (by simp; omega) e0
    have o1 := op_cells (by simp; omega) e1
    have o2 := op_cells (by simp; omega) e2
    have o3 := op_cells (by simp; omega) e3
    have o4 := op_cells (by simp; omega) e4
    have o5 := op_cells (by simp; omega) e5
    have key : ∀ i j (l : List Value), (cs.toList.drop (i * 4)).take 4 = l → j < 4 → W.cell? ⟨0, i * 4 + j, none⟩ = l[j]? := fun i j l hl hj => by
      rw [hc, ← hl, List.getElem?_take, if_pos hj, List.getElem?_drop]
      simp
    have hlt : 0 < W.heap.size := by
      have := key 0 0 _ o0 (by decide)
      exact cell_lt this
    refine ⟨hlt, fun j hj => ?_⟩
    have hq : j = j / 4 * 4 + j % 4 := by omega
    have h6 : j / 4 = 0 ∨ j / 4 = 1 ∨ j / 4 = 2 ∨ j / 4 = 3 ∨ j / 4 = 4 ∨ j / 4 = 5 := by omega
    have h4 : j % 4 = 0 ∨ j % 4 = 1 ∨ j % 4 = 2 ∨ j % 4 = 3 := by omega
    rcases h6 with e | e | e | e | e | e <;> rcases h4 with e' | e' | e' | e' <;> rw [e, e'] at hq <;> subst hq
    · have h := key 0 0 _ o0 (by decide)
      exact h
    · have h := key 0 1 _ o0 (by decide)
      exact h
    · have h := key 0 2 _ o0 (by decide)
      exact h
    · have h := key 0 3 _ o0 (by decide)
      exact h
    · have h := key 1 0 _ o1 (by decide)
      exact h
    · have h := key 1 1 _ o1 (by decide)
      exact h
    · have h := key 1 2 _ o1 (by decide)
      exact h
    · have h := key 1 3 _ o1 (by decide)
      exact h
    · have h := key 2 0 _ o2 (by decide)
      exact h
    · have h := key 2 1 _ o2 (by decide)
      exact h
    · have h := key 2 2 _ o2 (by decide)
      exact h
    · have h := key 2 3 _ o2 (by decide)
      exact h
    · have h := key 3 0 _ o3 (by decide)
      exact h
    · have h := key 3 1 _ o3 (by decide)
      exact h
    · have h := key 3 2 _ o3 (by decide)
      exact h
    · have h := key 3 3 _ o3 (by decide)
      exact h
    · have h := key 4 0 _ o4 (by decide)
      exact h
    · have h := key 4 1 _ o4 (by decide)
      exact h
    · have h := key 4 2 _ o4 (by decide)
      exact h
    · have h := key 4 3 _ o4 (by decide)
      exact h
    · have h := key 5 0 _ o5 (by decide)
      exact h
    · have h := key 5 1 _ o5 (by decide)
      exact h
    · have h := key 5 2 _ o5 (by decide)
      exact h
    · have h := key 5 3 _ o5 (by decide)
      exact h
end Go.Proofs.YtcpmbjlhblkniaaDoor
namespace Go.Proofs.YtcpmbjlhblkniaaDoor
open Go.ChangeShapes Go.WideShapes Go.ChangeAt Go.RowKit
set_option linter.unusedVariables false
set_option maxRecDepth 100000
/-- Lines of a program that may be run are lines that may be. -/
theorem prog_lines {P : Prg} (h : Ver.Good P) : ∀ y ∈ P.code, Txl.lineE y = 0 := fun y hy => by
  obtain ⟨i, hi⟩ := List.getElem?_of_mem hy
  have hl := (List.getElem?_eq_some_iff.1 hi).1
  obtain ⟨⟨o1, o2⟩, n0, n1⟩ := h.ins i y hi
  have h8 := h.clen
  have h2 := h.plen
  have h3 := h.alen
  rw [Txl.lineE_op (show Ver.isOp y.op = true from decide_eq_true ⟨o1, o2⟩), if_pos]
  refine ⟨n0, ?_⟩
  have hc := choices_le (op := y.op) (i := i) (n := P.code.length) (pl := P.pool.length) (al := P.answers.length) (by omega) (by omega) (by omega) (by omega)
  cases hn : numbered y.op with
  | true => rw [if_pos rfl]; omega
  | false =>
    rw [if_neg (by simp)]
    unfold numbered at hn
    have hop : y.op = 1 ∨ y.op = 3 := by
      have := of_decide_eq_false hn
      omega
    unfold Ver.choices at n1
    rcases hop with e | e <;> (rw [e] at n1; simp at n1; omega)
theorem prsPost_error {w : World} {i x : Int} {e : Ending} {w' : World} (h : PrsPost w (.error (i, x)) e w') : e = .returned (.tuple #[.slice none 0 0, .int .i64 i, .int .i64 x]) ∧ Gr w w' := by
  obtain ⟨h1, h2⟩ := h
  refine ⟨?_, h2⟩
  rcases h1 with ⟨i1, x1, hq, he⟩ | ⟨_, _, _, hq, _⟩
  · cases hq; exact he
  · cases hq
theorem prsPost_ok {w : World} {c : List Ins} {e : Ending} {w' : World} (h : PrsPost w (.ok c) e w') : ∃ a cap, e = .returned (.tuple #[.slice a c.length cap, .int .i64 0, .int .i64 0]) ∧ InssAt w' a c ∧ Gr w w' := by
  obtain ⟨h1, h2⟩ := h
  rcases h1 with ⟨_, _, hq, _⟩ | ⟨c1, a, cap, hq, he, hA⟩
  · cases hq
  · cases hq; exact ⟨a, cap, he, hA, h2⟩
set_option maxHeartbeats 3200000 in
theorem textsBack_at (x : Raws) (m : Int) (w : World) (hx : RawsAt w x.p x.l) (wm : (Lit.int .i64 m).wf = true) (hT : Opr w) (hP : Po w) (hE : Er w) :
    Calls Tryd.prog 4 #[.slice x.p x.l.length x.cap, .int .i64 m] w fun e w' => e = .returned (.bool true) ∧ Gr w w' := by
  obtain ⟨p, cap, l⟩ := x
  simp only at hx ⊢
  have HPR : Hid _ := fun W (hW : RawsAt W p l) => program_any p cap l m W hW wm
  have HT : Hid _ := hT
  have HPo : Hid _ := hP
  have HEr : Hid _ := hE
  have HX : Hid _ := hx
  clear hx hT hP hE
  go_enter Tryd.func4, Tryd.ntmps4
  go_wp2_with fail
  refine (HPR.out _ HX.out).mono ?_
  rintro e w1 ⟨P, rfl, hP, hPT, hg1⟩
  obtain ⟨s, k, hv⟩ : ∃ s k, Ver.verify P = (s, k, 0) := ⟨(Ver.verify P).1, (Ver.verify P).2.1, by rw [← hPT.ok]⟩
  have hln := prog_lines (Ver.ways_of hv).1
  have hsh := hPT.short
  have htx := fun W (hw : PrgOk W P) (h1 : Opr W) (h2 : Po W) => text_any P.code P.ca P.ccap W hw.cat h1 h2
  have e1 : Txl.textE P.code = 0 := by unfold Txl.textE; rw [if_neg (by omega)]; exact Txl.bad_none hln
  have e2 : Txl.textV P.code = P.code.flatMap Txl.line := by unfold Txl.textV; rw [if_pos e1]
  rw [e1, e2] at htx
  have b1 := Prs.parse_back hln (by omega)
  have b2 := Prs.parse_what hln (by omega)
  have b3 := Prs.parse_arg hln (by omega)
  have b4 := Txl.lines_len hln
  obtain ⟨L, hL⟩ : ∃ L, L = P.code.flatMap Txl.line := ⟨_, rfl⟩
  rw [← hL] at htx b1 b2 b3 b4
  have hq1 := fun W (h1 : Opr W) (h2 : Po W) (h3 : Er W) => parse_any L W (by omega) h1 h2 h3
  have hq2 := fun W (h1 : Opr W) (h2 : Po W) (h3 : Er W) => parse_any (L ++ [119, 104, 97, 116, 10]) W (by rw [List.length_append]; simp only [List.length_cons, List.length_nil]; omega) h1 h2 h3
  have hq3 := fun W (h1 : Opr W) (h2 : Po W) (h3 : Er W) => parse_any (L ++ [97, 114, 103]) W (by rw [List.length_append]; simp only [List.length_cons, List.length_nil]; omega) h1 h2 h3
  rw [b1] at hq1
  rw [b2, ← app_arrT] at hq2
  rw [b3, ← app_arrT] at hq3
  have hll : L.length ≤ 9000 := by omega
  obtain ⟨ca, ccap, code, pa, pcap, pool, pc, pcp, ans⟩ := P
  simp only at htx hq1 hq2 hq3 hsh
  have HTX : Hid _ := htx
  have HQ1 : Hid _ := hq1
  have HQ2 : Hid _ := hq2
  have HQ3 : Hid _ := hq3
  have HP : Hid _ := hP
  have HG1 : Hid _ := hg1
  clear hL hv hln htx e1 e2 b1 b2 b3 b4 hq1 hq2 hq3 hP hPT hg1
  simp only [Prg.cells]
  go_wp2_with fail
  have ga : Gr w1 (w1.alloc (Obj.cells #[.slice ca code.length ccap, .slice pa pool.length pcap, .slice pc ans.length pcp] 27)) := (Gr.refl _).alloc _
  have hgA := HG1.out.trans ga
  refine (HTX.out _ (HP.out.gr ga) (HT.out.gr hgA) (HPo.out.gr hgA)).mono ?_
  rintro e w2 ⟨rfl, hg2⟩
  have k2 := (hg2.block w1.heap.size (by simp)).trans (heapA w1 _)
  have hgr2 := hgA.trans hg2
  have hP2 := HP.out.gr (ga.trans hg2)
  have z2 : w1.heap.size < w2.heap.size := Nat.lt_of_lt_of_le (by simp) hg2.size
  obtain ⟨c2, _⟩ := row_all k2
  have K2 : Hid _ := k2
  clear ga hgA hg2 k2
  go_wp2_with fail
  refine (HQ1.out _ (HT.out.gr hgr2) (HPo.out.gr hgr2) (HEr.out.gr hgr2)).mono ?_
  intro e w3 hx3
  obtain ⟨a3, cap3, rfl, hA3, hg3⟩ := prsPost_ok hx3
  have k3 := (hg3.block w1.heap.size z2).trans K2.out
  have hgr3 := hgr2.trans hg3
  have hP3 := hP2.gr hg3
  have z3 : w1.heap.size < w3.heap.size := Nat.lt_of_lt_of_le z2 hg3.size
  obtain ⟨c3, _⟩ := row_all k3
  have K3 : Hid _ := k3
  clear hx3 hg3 k3 c2 hP2
  go_wp2_with fail
  refine (HQ2.out _ (HT.out.gr hgr3) (HPo.out.gr hgr3) (HEr.out.gr hgr3)).mono ?_
  intro e w4 hx4
  obtain ⟨rfl, hg4⟩ := prsPost_error hx4
  have k4 := (hg4.block w1.heap.size z3).trans K3.out
  have hgr4 := hgr3.trans hg4
  have hP4 := hP3.gr hg4
  have hA4 := hA3.gr hg4
  have z4 : w1.heap.size < w4.heap.size := Nat.lt_of_lt_of_le z3 hg4.size
  obtain ⟨c4, _⟩ := row_all k4
  have K4 : Hid _ := k4
  clear hx4 hg4 k4 c3 hP3 hA3
  go_wp2_with fail
  refine (HQ3.out _ (HT.out.gr hgr4) (HPo.out.gr hgr4) (HEr.out.gr hgr4)).mono ?_
  intro e w5 hx5
  obtain ⟨rfl, hg5⟩ := prsPost_error hx5
  have k5 := (hg5.block w1.heap.size z4).trans K4.out
  have hgr5 := hgr4.trans hg5
  have hP5 := hP4.gr hg5
  have hA5 := hA4.gr hg5
  obtain ⟨c5, _⟩ := row_all k5
  clear hx5 hg5 k5 c4 hP4 hA4
  go_wp2_with fail
  refine (equalIns_yes _ _ _ _ code _ (hA5.gr (by repeat (with_reducible first | exact Gr.refl _ | refine Gr.drew ?_ | refine Gr.alloc ?_ _))) (hP5.cat.gr (by repeat (with_reducible first | exact Gr.refl _ | refine Gr.drew ?_ | refine Gr.alloc ?_ _)))).mono ?_
  rintro e w6 ⟨rfl, hg6⟩
  go_wp2_with fail
  go_ret
  refine ⟨rfl, ?_⟩
  refine Gr.trans ?_ hg6
  repeat (with_reducible first | exact hgr5 | refine Gr.drew ?_ | refine Gr.alloc ?_ _)
theorem textsBack_own : ownKnob Tryd.prog.godebug = none := by kernel_rfl
theorem textsBack_laidOut : laidOutB Tryd.prog = true := by kernel_rfl
theorem textsBack_rec : ∀ t ∈ Tryd.f4.params.toList, Tryd.prog.readableRec t = true ∧ t < Tryd.prog.types.size := by
  rw [Tryd.params4]
  intro t ht
  simp only [List.mem_cons, List.not_mem_nil, or_false] at ht
  rcases ht with rfl | rfl
  all_goals exact ⟨by kernel_rfl, of_decide_eq_true (by kernel_rfl)⟩
theorem textsBack_opr {W : World} (h : laidMetH Tryd.prog Rows.textsBackRow.laid W) : Opr W := by
  have h1 : laidMet Tryd.prog Rows.textsBackRow.laid W := h
  exact opr_of_laid (rest := []) (h1.filter fun x => x.1 == "sundial/code.operators")
theorem textsBack_pow {W : World} (h : laidMetH Tryd.prog Rows.textsBackRow.laid W) : Po W := by
  have h1 : laidMet Tryd.prog Rows.textsBackRow.laid W := h
  have h2 : laidMet Tryd.prog [("internal/strconv.uint64pow10", Lib.tabData .u64 Lib.pow10Tab)] W := h1.filter fun x => x.1 == "internal/strconv.uint64pow10"
  exact ⟨Lib.tabIs_of_head powG (by kernel_rfl) Tryd.underlying175 Tryd.underlying162 (by kernel_rfl) (by kernel_rfl) h2⟩
def tabCells (d : DataW Unit) : Array Value := match d with
  | .agg l => (l.map fun | .lit (.int k z) => Value.int k z | _ => .bool false).toArray
  | _ => #[]
def putTab (d : DataW Unit) (o : Obj) : Obj := match o with
  | .cells _ t frozen => .cells (tabCells d) t frozen
  | o => o
def putErr (h : Nat) (o : Obj) : Obj := match o with
  | .cells _ t frozen => .cells #[.iface 180 (.pointer (some ⟨h, 0, none⟩))] t frozen
  | o => o
theorem errStar : "*" ++ "errors.errorString" = "*errors.errorString" := by decide
theorem errRow (u : TypeId) (h : Tryd.prog.typeName? 3 u = some "*errors.errorString") : u = 180 :=
  typeName_ptr_named (nm := "errors.errorString") (by rw [errStar]; kernel_rfl) (by kernel_rfl) (by decide) u (by rw [errStar]; exact h)
theorem textsBack_er {W : World} (h : laidMetH Tryd.prog Rows.textsBackRow.laid W) (hsh : W.ShapedOpen Tryd.prog) : Er W := by
  have h1 : laidMet Tryd.prog Rows.textsBackRow.laid W := h
  have hS : laidMet Tryd.prog [("strconv.ErrSyntax", Rows.laid_strconv_ErrSyntax)] W := h1.filter fun x => x.1 == "strconv.ErrSyntax"
  have hR : laidMet Tryd.prog [("strconv.ErrRange", Rows.laid_strconv_ErrRange)] W := h1.filter fun x => x.1 == "strconv.ErrRange"
  obtain ⟨a1, s1, hv1, _⟩ := laid_sentinel hS synG (by kernel_rfl) Tryd.underlying77 errRow Tryd.underlying180 Tryd.underlying182 rfl rfl Tryd.underlying9 (by kernel_rfl) (by kernel_rfl)
  obtain ⟨a2, s2, hv2, _⟩ := laid_sentinel hR rngG (by kernel_rfl) Tryd.underlying77 errRow Tryd.underlying180 Tryd.underlying182 rfl rfl Tryd.underlying9 (by kernel_rfl) (by kernel_rfl)
  exact ⟨⟨_, _, hv1⟩, ⟨_, _, hv2⟩, Tryd.laysM145.s1_3 W hsh⟩
/-- A world for the witness: the settled one, the table holding what its initialiser lays. -/
def laidHeap (w : World) : World := { w with heap := (((((w.heap.modify 3 (putErr (w.heap.size - 2))).modify 2 (putErr (w.heap.size - 1))).modify 5 (putTab Rows.laid_math_bits_deBruijn32tab)).modify 6 (putTab Rows.laid_math_bits_deBruijn64tab)).modify 4 (putTab Rows.laid_internal_strconv_uint64pow10)).modify 0 fun
    | .cells _ t frozen => .cells #[.string ⟨#[97, 114, 103]⟩, .int .i64 0, .int .i64 1, .bool false, .string ⟨#[112, 117, 115, 104]⟩, .int .i64 0, .int .i64 1, .bool true, .string ⟨#[108, 101, 115, 115]⟩, .int .i64 2, .int .i64 1, .bool false, .string ⟨#[115, 107, 105, 112]⟩, .int .i64 1, .int .i64 0, .bool true, .string ⟨#[103, 111]⟩, .int .i64 0, .int .i64 0, .bool true, .string ⟨#[116, 101, 108, 108]⟩, .int .i64 0, .int .i64 0, .bool true] t frozen
    | o => o }
theorem textsBack_met (os : Os) : laidMet Tryd.prog Rows.textsBackRow.laid ((laidHeap (World.holding Tryd.prog os ⟨#[.cells #[.string ⟨#[118, 97, 108, 117, 101, 32, 111, 117, 116, 32, 111, 102, 32, 114, 97, 110, 103, 101]⟩] 182, .cells #[.string ⟨#[105, 110, 118, 97, 108, 105, 100, 32, 115, 121, 110, 116, 97, 120]⟩] 182], #[], []⟩)).forCall (fun _ _ => 0) ⟨#[], #[.slice none 0 0, .int .i64 0], []⟩).memory :=
  laidMet_of_run' 8 (by kernel_rfl) (by kernel_rfl)
theorem textsBack_reads (os : Os) {H : Type} (enc : TypeId × Value → H) : ∃ places, DataW.whole enc Tryd.prog ((laidHeap (World.holding Tryd.prog os ⟨#[.cells #[.string ⟨#[118, 97, 108, 117, 101, 32, 111, 117, 116, 32, 111, 102, 32, 114, 97, 110, 103, 101]⟩] 182, .cells #[.string ⟨#[105, 110, 118, 97, 108, 105, 100, 32, 115, 121, 110, 116, 97, 120]⟩] 182], #[], []⟩)).forCall (fun _ _ => 0) ⟨#[], #[.slice none 0 0, .int .i64 0], []⟩).memory Tryd.f4.params.toList Rows.textsBackSpec.vars false (#[.slice none 0 0, .int .i64 0] : Array Value).toList 8 = some ([.nil, .lit (.int .i64 0)], [], places) :=
  ⟨[], by kernel_rfl⟩
theorem textsBack_contract (H : Type) (enc : TypeId × Value → H) (W : World) (base : Nat) (args : Array Value) (ds gs : List (DataW H)) (before : List MemPlace)
    (hval : ∀ (j : Nat) t v, Tryd.f4.params[j]? = some t → args[j]? = some v → Value.okWide Tryd.prog W .any base t v)
    (hW : DataW.Whole enc Tryd.prog Tryd.f4.params.toList Rows.textsBackSpec.vars false W args.toList ds gs before) (hL : laidMetH Tryd.prog Rows.textsBackRow.laid W) (hsh : W.ShapedOpen Tryd.prog) :
    Calls Tryd.prog 4 args W fun e W' => ∃ v, e = .returned v ∧ Rows.textsBackSpec.post enc Tryd.prog Tryd.f4 false true false false W args v W' := by
  have hW' := hW
  obtain ⟨p, q, hA0, hV, rfl, hfz, hnd⟩ := hW
  have hA : DataW.TrodAll enc Tryd.prog W 0 (fun _ => true) true Tryd.f4.params.toList args.toList ds p := hA0
  have hAk := hA
  rw [Tryd.params4] at hA hval
  obtain ⟨v0, vs0, d0, ds0, p0, q0, hargs, rfl, rfl, h0, r0⟩ := trodAll_cons hA
  obtain ⟨v1, vs1, d1, ds1, p1, q1, rfl, rfl, rfl, h1, r1⟩ := trodAll_cons r0
  obtain ⟨rfl, rfl, rfl⟩ := trodAll_nil r1
  obtain rfl : args = #[v0, v1] := by cases args; simp_all
  obtain ⟨rfl, rfl⟩ := trodVars_none hV
  obtain ⟨x0, rfl, f0⟩ := open_raws (hval 0 22 v0 rfl rfl) h0
  obtain ⟨x1, rfl, _, _, f1⟩ := open_int Tryd.underlying3 (hval 1 3 v1 rfl rfl) h1
  clear hA0
  refine (textsBack_at x0 x1 W f0 f1 (textsBack_opr hL) (textsBack_pow hL) (textsBack_er hL hsh)).mono fun e W' ⟨he, hg⟩ => ?_
  subst he
  refine ⟨_, rfl, _, _, _, [], _, [], hW', ?_, gr_trodAll textsBack_laidOut hg textsBack_rec hAk (fun x hx => hW'.lt x (List.mem_append_left _ hx)) (fun x hx => by simpa using hW'.lt x (List.mem_append_left _ hx)), ?_, hg.frame _, fun h => by cases h⟩
  · exact trodAll_cons_mk (shut_bool Tryd.underlying4 _) trodAll_mk0
  · rfl
set_option maxRecDepth 100000 in
theorem textsBack_lifted (os : Os) (started : os.Started) (H : Type) (enc : TypeId × Value → H) (F : Stop.Interp) :
    ReturnsInHanded {} Tryd.checked os 4 .any ((OpenSpec.ofChange Rows.textsBackSpec).preRow enc Tryd.prog Tryd.f4 Rows.textsBackRow.domain false Rows.textsBackRow.laid) (((OpenSpec.ofChange Rows.textsBackSpec).at F).post enc Tryd.prog Tryd.f4 false true false false) := by
  obtain ⟨places, hx⟩ := textsBack_reads os enc
  refine returnsInHanded_of_row (C := Tryd.checked) (s := OpenSpec.ofChange Rows.textsBackSpec) textsBack_own started (by kernel_rfl) Tryd.func4
    (witness_row_at (enc := enc) (C := Tryd.checked) false (laidHeap (World.holding Tryd.prog os ⟨#[.cells #[.string ⟨#[118, 97, 108, 117, 101, 32, 111, 117, 116, 32, 111, 102, 32, 114, 97, 110, 103, 101]⟩] 182, .cells #[.string ⟨#[105, 110, 118, 97, 108, 105, 100, 32, 115, 121, 110, 116, 97, 120]⟩] 182], #[], []⟩)) #[.slice none 0 0, .int .i64 0] rfl (by kernel_rfl) (by kernel_rfl) (by kernel_rfl)
      (OpenSpec.preRow_of_cond 8 hx (by kernel_rfl) (fun k hk => by cases hk) (by kernel_rfl) (textsBack_met os))) ?_
  intro W base args ds gs before hval hW _ _ _ hL hsh _
  exact textsBack_contract H enc W base args ds gs before hval hW hL hsh
theorem textsBack_said : Rows.TextsBackSaid :=
  OpenClaim.holds_of_cond 4 Tryd.f4 rfl rfl rfl rfl rfl rfl rfl ⟨rfl, rfl, rfl, rfl, rfl⟩ rfl rfl rfl rfl rfl (by kernel_rfl) Tryd.func4 (by kernel_rfl)
    (of_decide_eq_true (by kernel_rfl)) (by unfold Func.isWrapper; first | (rw [if_pos (by decide +kernel)]; kernel_rfl) | (rw [if_neg (by decide +kernel)]; exact ⟨rfl, rfl⟩))
    (fun os started H enc _ F => by rw [OpenClaim.pre_eq_preRow]; exact textsBack_lifted os started H enc F)
theorem textsBack_plain (f : FuncId) (fn : Func) (hf : Tryd.pinned.checked.prog.funcNamed "sundial/sundialkeep.TextsBack" = some f) (hfn : Tryd.pinned.checked.prog.funcs[f]? = some fn) :
    true = Tryd.pinned.checked.prog.looks [] ∧ ∀ (j : Nat) t, fn.params[j]? = some t → Tryd.pinned.checked.prog.wantsStandIn t = false := by
  obtain rfl : f = 4 := Option.some.inj ((show Tryd.prog.funcNamed "sundial/sundialkeep.TextsBack" = some 4 by kernel_rfl).symm.trans hf) |>.symm
  obtain rfl : fn = Tryd.f4 := (Option.some.inj (Tryd.func4.symm.trans hfn)).symm
  refine ⟨by kernel_rfl, fun j t ht => ?_⟩
  rw [Tryd.params4] at ht
  have hm : t = 22 ∨ t = 3 := by have h := Array.mem_of_getElem? ht; simp at h; first | simpa using h | (rcases h with h | h | h | h <;> simp [h]) | (rcases h with h | h | h <;> simp [h])
  rcases hm with rfl | rfl
  · exact (show Tryd.prog.wantsStandIn 22 = false by kernel_rfl)
  · exact (show Tryd.prog.wantsStandIn 3 = false by kernel_rfl)
/-- The card. -/
theorem textsBack_card : Rows.TextsBackCardSaid :=
  Claim7.holds_tied_plain_at .later [] _ _ _ _ textsBack_said (fun _ h => by cases h) (by kernel_rfl) (fun _ h => by cases h) textsBack_row_tie rfl ⟨rfl, rfl⟩ (by kernel_rfl) rfl textsBack_plain (by kernel_rfl)
#print axioms textsBack_card
end Go.Proofs.YtcpmbjlhblkniaaDoor
