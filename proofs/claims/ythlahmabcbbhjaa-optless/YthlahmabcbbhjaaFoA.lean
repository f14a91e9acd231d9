/- The forest that is drawn: it may be. -/
import Derived.Test.YthlahmabcbbhjaaStB
import Derived.Test.YthlahmabcbbhjaaGr
import Derived.Test.YthlahmabcbbhjaaTreV
import Derived.Test.YthlahmabcbbhjaaTreC
import Derived.Deep.Cut
namespace Go.Proofs.Ythlahmabcbbhjaa
open Go.ChangeShapes Go.WideShapes Go.ChangeAt Go.RowKit
set_option linter.unusedVariables false
set_option linter.unusedSimpArgs false
/-- Raw things: four numbers each. -/
structure Raw4 where
  kind : Int
  a : Int
  b : Int
  c : Int
structure RawOk (r : Raw4) : Prop where
  kind : (Lit.int .i64 r.kind).wf = true
  a : (Lit.int .i64 r.a).wf = true
  b : (Lit.int .i64 r.b).wf = true
  c : (Lit.int .i64 r.c).wf = true
structure RawsAt (w : World) (p : Option Addr) (l : List Raw4) : Prop where
  len : l.length ≤ maxLen
  cell : ∀ (i : Nat) x, l[i]? = some x → RawOk x ∧ ∃ b o, p = some ⟨b, o, none⟩ ∧ b < w.heap.size ∧ w.cell? ⟨b, o + i * 4, none⟩ = some (.int .i64 x.kind) ∧ w.cell? ⟨b, o + i * 4 + 1, none⟩ = some (.int .i64 x.a) ∧ w.cell? ⟨b, o + i * 4 + 2, none⟩ = some (.int .i64 x.b) ∧ w.cell? ⟨b, o + i * 4 + 3, none⟩ = some (.int .i64 x.c)
theorem RawsAt.gr {w w' : World} {p : Option Addr} {l : List Raw4} (h : RawsAt w p l) (hg : Gr w w') : RawsAt w' p l :=
  ⟨h.len, fun i x hx => by
    obtain ⟨ho, b, o, e, hb, c0, c1, c2, c3⟩ := h.cell i x hx
    exact ⟨ho, b, o, e, Nat.lt_of_lt_of_le hb hg.size, (hg.cell b _ hb).trans c0, (hg.cell b _ hb).trans c1, (hg.cell b _ hb).trans c2, (hg.cell b _ hb).trans c3⟩⟩
/-- What the nodes of the drawn forest keep to. -/
structure GoodN (l : List Tre.Nod) : Prop where
  node : ∀ (i : Nat) nd, l[i]? = some nd → Tre.nodF nd i 5 = 0
  ok : ∀ nd ∈ l, NodOk nd
theorem wf_small {n : Int} (h : -9223372036854775808 ≤ n) (h' : n ≤ 9223372036854775807) : (Lit.int .i64 n).wf = true := WalkArith.wf_i64 ⟨h, h'⟩
theorem GoodN.snoc {l : List Tre.Nod} (h : GoodN l) {nd : Tre.Nod} (h1 : Tre.nodF nd l.length 5 = 0) (h2 : NodOk nd) : GoodN (l ++ [nd]) :=
  ⟨fun i x hx => by
    rcases Nat.lt_or_ge i l.length with g | g
    · rw [List.getElem?_append_left g] at hx; exact h.node i x hx
    · rw [List.getElem?_append_right g] at hx
      have : i - l.length = 0 := by
        have := (List.getElem?_eq_some_iff.1 hx).1
        simp at this; omega
      have hi : i = l.length := by omega
      subst hi
      simp at hx
      rw [← hx]; exact h1,
   fun x hx => by
    rcases List.mem_append.1 hx with g | g
    · exact h.ok x g
    · rw [List.mem_singleton.1 g]; exact h2⟩
theorem goodN_first : GoodN [⟨true, 1, 0, 0, 0⟩] :=
  ⟨fun i x hx => by
    have : i = 0 := by have := (List.getElem?_eq_some_iff.1 hx).1; simp at this; omega
    subst this
    simp at hx
    rw [← hx]; decide,
   fun x hx => by rw [List.mem_singleton.1 hx]; exact ⟨by decide, by decide, by decide, by decide⟩⟩
theorem leaf_good (x : Int) (n : Nat) : Tre.nodF ⟨true, Cal.pk x 5, 0, 0, 0⟩ n 5 = 0 ∧ NodOk ⟨true, Cal.pk x 5, 0, 0, 0⟩ := by
  have h1 := Cal.pk_lo x (k := 5) (by omega)
  have h2 := Cal.pk_hi x (k := 5) (by omega)
  exact ⟨Tre.nodF_l0 (Tre.inB_t h1 (by omega)), ⟨wf_small (by simp only; omega) (by simp only; omega), by show (Lit.int .i64 0).wf = true; decide, by show (Lit.int .i64 0).wf = true; decide, by show (Lit.int .i64 0).wf = true; decide⟩⟩
theorem node_good (x y z : Int) {n : Nat} (hn : 0 < n) (hn' : n ≤ 100) : Tre.nodF ⟨false, 0, Cal.pk x 60 - 20, (n : Int) - 1 - Cal.pk y (min n 4), (n : Int) - 1 - Cal.pk z (min n 4)⟩ n 5 = 0 ∧ NodOk ⟨false, 0, Cal.pk x 60 - 20, (n : Int) - 1 - Cal.pk y (min n 4), (n : Int) - 1 - Cal.pk z (min n 4)⟩ := by
  have h1 := Cal.pk_lo x (k := 60) (by omega)
  have h2 := Cal.pk_hi x (k := 60) (by omega)
  have h3 := Cal.pk_lo y (k := min (n : Int) 4) (by omega)
  have h4 := Cal.pk_hi y (k := min (n : Int) 4) (by omega)
  have h5 := Cal.pk_lo z (k := min (n : Int) 4) (by omega)
  have h6 := Cal.pk_hi z (k := min (n : Int) 4) (by omega)
  exact ⟨Tre.nodF_n0 (Tre.inB_t (by omega) (by omega)) (Tre.inB_t (by omega) (by omega)), ⟨by show (Lit.int .i64 0).wf = true; decide, wf_small (by simp only; omega) (by simp only; omega), wf_small (by simp only; omega) (by simp only; omega), wf_small (by simp only; omega) (by simp only; omega)⟩⟩
def nodC (l : List Tre.Nod) : List Value := l.flatMap Nod.cells
theorem nodC_snoc (l : List Tre.Nod) (x : Tre.Nod) : nodC (l ++ [x]) = nodC l ++ Nod.cells x := by simp [nodC]
theorem lt_of_some {w : World} {b : Nat} {o : Obj} (h : w.heap[b]? = some o) : b < w.heap.size := (Array.getElem?_eq_some_iff.1 h).1
theorem Try.infoNode : ∃ i, Try.prog.info? 47 = some i ∧ i.zero = some (.agg #[.bool false, .int .i64 0, .int .i64 0, .int .i64 0, .int .i64 0]) ∧ i.size = 5 ∧ i.bytes = 40 :=
  ⟨_, rfl, by kernel_rfl, by kernel_rfl, by kernel_rfl⟩
theorem nod_cell (x : Tre.Nod) : ∀ u ∈ Nod.cells x, u.oneCell' = true := by
  intro u hu
  simp [Nod.cells] at hu
  rcases hu with rfl | rfl | rfl | rfl | rfl <;> rfl
/-- Slots of the region that lays a leaf. -/
def Fi9 (B Rb g0 n cap0 n0 : Nat) (x : Int) : Tmp → Value → World → Prop
  | 40, v, _ => v = .pointer (some ⟨B, 0, none⟩)
  | 41, v, _ => v = .slice (some ⟨g0, 0, none⟩) n cap0
  | 42, v, _ => v = .pointer (some ⟨Rb, 1, none⟩)
  | 43, v, _ => v = .int .i64 x
  | 44, v, _ => v = .int .i64 (Cal.pk x 5)
  | 45, v, _ => v = .agg #[.bool true, .int .i64 (Cal.pk x 5), .int .i64 0, .int .i64 0, .int .i64 0]
  | 46, v, w => ∃ g, v = .slice (some ⟨g, 0, none⟩) 1 1 ∧ n0 ≤ g ∧ w.heap[g]? = some (.cells #[.bool true, .int .i64 (Cal.pk x 5), .int .i64 0, .int .i64 0, .int .i64 0] 47)
  | _, _, _ => True
theorem Fi9.mono {B Rb g0 n cap0 n0 : Nat} {x : Int} (d : Tmp) (v : Value) (w w' : World) (hg : Gr w w') (h : Fi9 B Rb g0 n cap0 n0 x d v w) : Fi9 B Rb g0 n cap0 n0 x d v w' := by
  unfold Fi9 at h ⊢
  split at h
  all_goals first | exact h | trivial | (obtain ⟨g, e, hn, hr⟩ := h; exact ⟨g, e, hn, (hg.block g (lt_of_some hr)).trans hr⟩)
/-- Slots of the region that lays a node. -/
def Fi10 (B Rb g0 n cap0 n0 : Nat) (x y z : Int) : Tmp → Value → World → Prop
  | 49, v, _ => v = .pointer (some ⟨B, 0, none⟩)
  | 50, v, _ => v = .slice (some ⟨g0, 0, none⟩) n cap0
  | 51, v, _ => v = .pointer (some ⟨Rb, 1, none⟩)
  | 52, v, _ => v = .int .i64 x
  | 53, v, _ => v = .int .i64 (Cal.pk x 60)
  | 54, v, _ => v = .int .i64 (Cal.pk x 60 - 20)
  | 55, v, _ => v = .int .i64 n
  | 56, v, _ => v = .int .i64 ((n : Int) - 1)
  | 57, v, _ => v = .pointer (some ⟨Rb, 2, none⟩)
  | 58, v, _ => v = .int .i64 y
  | 59, v, _ => v = .int .i64 n
  | 60, v, _ => v = .int .i64 (min (n : Int) 4)
  | 61, v, _ => v = .int .i64 (Cal.pk y (min (n : Int) 4))
  | 62, v, _ => v = .int .i64 ((n : Int) - 1 - Cal.pk y (min (n : Int) 4))
  | 63, v, _ => v = .int .i64 n
  | 64, v, _ => v = .int .i64 ((n : Int) - 1)
  | 65, v, _ => v = .pointer (some ⟨Rb, 3, none⟩)
  | 66, v, _ => v = .int .i64 z
  | 67, v, _ => v = .int .i64 n
  | 68, v, _ => v = .int .i64 (min (n : Int) 4)
  | 69, v, _ => v = .int .i64 (Cal.pk z (min (n : Int) 4))
  | 70, v, _ => v = .int .i64 ((n : Int) - 1 - Cal.pk z (min (n : Int) 4))
  | 71, v, _ => v = .agg #[.bool false, .int .i64 0, .int .i64 (Cal.pk x 60 - 20), .int .i64 ((n : Int) - 1 - Cal.pk y (min (n : Int) 4)), .int .i64 ((n : Int) - 1 - Cal.pk z (min (n : Int) 4))]
  | 72, v, w => ∃ g, v = .slice (some ⟨g, 0, none⟩) 1 1 ∧ n0 ≤ g ∧ w.heap[g]? = some (.cells #[.bool false, .int .i64 0, .int .i64 (Cal.pk x 60 - 20), .int .i64 ((n : Int) - 1 - Cal.pk y (min (n : Int) 4)), .int .i64 ((n : Int) - 1 - Cal.pk z (min (n : Int) 4))] 47)
  | _, _, _ => True
theorem Fi10.mono {B Rb g0 n cap0 n0 : Nat} {x y z : Int} (d : Tmp) (v : Value) (w w' : World) (hg : Gr w w') (h : Fi10 B Rb g0 n cap0 n0 x y z d v w) : Fi10 B Rb g0 n cap0 n0 x y z d v w' := by
  unfold Fi10 at h ⊢
  split at h
  all_goals first | exact h | trivial | (obtain ⟨g, e, hn, hr⟩ := h; exact ⟨g, e, hn, (hg.block g (lt_of_some hr)).trans hr⟩)
theorem args2 {a : Act} {x y : Operand} {u v : Value} (hx : a.eval x = u) (hy : a.eval y = v) : (#[x, y] : Array Operand).map a.eval = #[u, v] := by simp [hx, hy]
theorem run_picked (vs : Array Value) (w : World) : (callFunc 14 vs).run Try.prog w = .ok (.enter 14 vs) w := by
  have h1 : (Try.f14.name == "runtime.NumGoroutine") = false := by kernel_rfl
  have h2 : Try.f14.body.isNone = false := by kernel_rfl
  have h1' : ¬ Try.f14.name = "runtime.NumGoroutine" := by simpa using h1
  have h2' : ¬ Try.f14.body = none := by intro h; rw [h] at h2; cases h2
  simp [callFunc, go_sem, Try.func14, h1', h2']
/-- What lies in memory while the forest is drawn. -/
structure FoR (w wr : World) (n g cap : Nat) (ns : List Tre.Nod) : Prop where
  len : ns.length = n
  good : GoodN ns
  gr : Gr w wr
  size : w.heap.size + 5 ≤ wr.heap.size
  own : wr.ownsRow (w.heap.size + 1 + 1 + 1 + 1) 47 5 (.slice (some ⟨g, 0, none⟩) n cap) n (nodC ns)
  box : wr.heap[w.heap.size + 1 + 1 + 1]? = some (.cells #[.slice (some ⟨g, 0, none⟩) n cap, .slice (some ⟨w.heap.size + 1 + 1, 0, none⟩) 5 5] 25)
  res : wr.heap[w.heap.size]? = some (.cells #[.slice none 0 0, .slice none 0 0] 25)
  offs : wr.heap[w.heap.size + 1]? = some (.cells #[.int .i64 3600, .int .i64 0] 3)
  answ : wr.heap[w.heap.size + 1 + 1]? = some (.cells #[.int .i64 0, .bool false, .string ⟨#[]⟩, .slice none 0 0, .int .i64 1, .int .i64 0, .bool false, .string ⟨#[]⟩, .slice none 0 0, .int .i64 2, .int .i64 0, .bool false, .string ⟨#[]⟩, .slice none 0 0, .int .i64 1, .int .i64 0, .bool false, .string ⟨#[]⟩, .slice (some ⟨w.heap.size + 1, 0, none⟩) 2 2, .int .i64 0, .int .i64 0, .bool true, .string ⟨#[88]⟩, .slice none 0 0, .int .i64 0] 37)
theorem heap5 (w : World) (o1 o2 o3 o4 o5 : Obj) : (((((w.alloc o1).alloc o2).alloc o3).alloc o4).alloc o5).heap[w.heap.size]? = some o1 ∧ (((((w.alloc o1).alloc o2).alloc o3).alloc o4).alloc o5).heap[w.heap.size + 1]? = some o2 ∧ (((((w.alloc o1).alloc o2).alloc o3).alloc o4).alloc o5).heap[w.heap.size + 1 + 1]? = some o3 ∧ (((((w.alloc o1).alloc o2).alloc o3).alloc o4).alloc o5).heap[w.heap.size + 1 + 1 + 1]? = some o4 ∧ (((((w.alloc o1).alloc o2).alloc o3).alloc o4).alloc o5).heap[w.heap.size + 1 + 1 + 1 + 1]? = some o5 := by
  refine ⟨?_, ?_, ?_, ?_, ?_⟩
  · rw [Below.heap_alloc _ _ _ (by simp <;> omega), Below.heap_alloc _ _ _ (by simp <;> omega), Below.heap_alloc _ _ _ (by simp <;> omega), Below.heap_alloc _ _ _ (by simp)]; exact heapA w o1
  · rw [Below.heap_alloc _ _ _ (by simp <;> omega), Below.heap_alloc _ _ _ (by simp <;> omega), Below.heap_alloc _ _ _ (by simp)]; simpa using heapA (w.alloc o1) o2
  · rw [Below.heap_alloc _ _ _ (by simp <;> omega), Below.heap_alloc _ _ _ (by simp)]; simpa using heapA ((w.alloc o1).alloc o2) o3
  · rw [Below.heap_alloc _ _ _ (by simp)]; simpa using heapA (((w.alloc o1).alloc o2).alloc o3) o4
  · simpa using heapA ((((w.alloc o1).alloc o2).alloc o3).alloc o4) o5
theorem owns_row {w : World} {base b n size : Nat} {t : TypeId} {cs : Array Value} (hb : base ≤ b) (h : w.heap[b]? = some (.cells cs t)) (hs : cs.size = n * size) (hm : n ≤ maxLen) : w.ownsRow base t size (.slice (some ⟨b, 0, none⟩) n n) n cs.toList :=
  ⟨by simpa using hs, Or.inr ⟨b, n, cs, rfl, hb, h, Nat.le_refl _, hm, hs, by rw [List.take_of_length_le (by simp [hs])]⟩⟩
theorem FoR.step {w wr W1 w2 w3 : World} {n g cap g2 cap2 : Nat} {ns : List Tre.Nod} {nd : Tre.Nod} (hF : FoR w wr n g cap ns) (hgW : Gr wr W1) (hR : Gr W1 w2) (hgrow : w2.grownBy w3 (Value.slice (some ⟨g, 0, none⟩) n cap).ownBlock)
    (hat : (Value.slice (some ⟨g, 0, none⟩) n cap).ownBlock = some g2 ∨ g2 = w2.heap.size) (hown : w3.ownsRow (w.heap.size + 1 + 1 + 1 + 1) 47 5 (.slice (some ⟨g2, 0, none⟩) (n + 1) cap2) (n + 1) (nodC ns ++ Nod.cells nd)) (h1 : Tre.nodF nd n 5 = 0) (h2 : NodOk nd) :
    FoR w (w3.setCell ⟨w.heap.size + 1 + 1 + 1, 0, none⟩ (.slice (some ⟨g2, 0, none⟩) (n + 1) cap2)) (n + 1) g2 cap2 (ns ++ [nd]) := by
  have hz := hF.size
  have hg12 : Gr wr w2 := hgW.trans hR
  have hs2 := hg12.size
  have hs3 := hgrow.size
  have hrow : ∀ x, (Value.slice (some ⟨g, 0, none⟩) n cap).ownBlock = some x → w.heap.size + 1 + 1 + 1 + 1 ≤ x := fun x hx => (owns_lt hF.own hx).1
  have hb : ∀ b, b < w.heap.size + 1 + 1 + 1 + 1 → w3.heap[b]? = wr.heap[b]? := fun b hlt => by
    rw [hgrow.block b (by omega) (fun e => by have := hrow _ e.symm; omega), hg12.block b (by omega)]
  have hg2 : w.heap.size + 1 + 1 + 1 + 1 ≤ g2 := (owns_lt hown rfl).1
  have ho : ∀ b, b ≠ w.heap.size + 1 + 1 + 1 → (w3.setCell ⟨w.heap.size + 1 + 1 + 1, 0, none⟩ (.slice (some ⟨g2, 0, none⟩) (n + 1) cap2)).heap[b]? = w3.heap[b]? := fun b hne => heap_setCell_other w3 ⟨w.heap.size + 1 + 1 + 1, 0, none⟩ b _ hne
  refine ⟨by simp [hF.len], hF.good.snoc (by rw [hF.len]; exact h1) h2, ?_, ?_, ?_, ?_, ?_, ?_, ?_⟩
  · exact ((hF.gr.trans hg12).by_ hgrow (fun x hx => by have := hrow x hx; omega)).setCell (by show w.heap.size ≤ w.heap.size + 1 + 1 + 1; omega) _
  · simp [World.setCell]; omega
  · rw [nodC_snoc]
    refine owns_same hown fun x hx => ho x ?_
    have := (owns_lt hown hx).1
    omega
  · have := heap_setCell_same w3 (w.heap.size + 1 + 1 + 1) 0 _ _ (.slice (some ⟨g2, 0, none⟩) (n + 1) cap2) ((hb _ (by omega)).trans hF.box)
    simpa using this
  · rw [ho _ (by omega), hb _ (by omega)]; exact hF.res
  · rw [ho _ (by omega), hb _ (by omega)]; exact hF.offs
  · rw [ho _ (by omega), hb _ (by omega)]; exact hF.answ
theorem flat5 {α : Type} {cells : α → List Value} (h5 : ∀ x, (cells x).length = 5) : ∀ (l : List α) (i j : Nat) (x : α), l[i]? = some x → j < 5 → (l.flatMap cells)[i * 5 + j]? = (cells x)[j]?
  | [], i, j, x, h, _ => by simp at h
  | y :: l, 0, j, x, h, hj => by
    simp at h
    subst h
    rw [List.flatMap_cons, List.getElem?_append_left (by rw [h5]; omega)]
    simp
  | y :: l, i + 1, j, x, h, hj => by
    rw [List.flatMap_cons, List.getElem?_append_right (by rw [h5]; omega), h5]
    have := flat5 h5 l i j x (by simpa using h) hj
    rwa [show (i + 1) * 5 + j - 5 = i * 5 + j by omega]
theorem owns_fives {α : Type} {w : World} {base g n cap : Nat} {t : TypeId} {l : List α} {cells : α → List Value} (h5 : ∀ x, (cells x).length = 5) (hl : l.length = n) (h : w.ownsRow base t 5 (.slice (some ⟨g, 0, none⟩) n cap) n (l.flatMap cells)) : FivesAt w (some ⟨g, 0, none⟩) l cells := by
  have hlt := (owns_lt h rfl).2
  have hmax : n ≤ maxLen := by
    rcases h.2 with ⟨e, _⟩ | ⟨g', c, cur, e, _, _, h1, h2, _⟩
    · cases e
    · exact Nat.le_trans h1 h2
  refine ⟨by rw [hl]; exact hmax, fun i x hx => ⟨g, 0, rfl, hlt, ?_⟩⟩
  have hc : ∀ j, j < 5 → w.cell? ⟨g, 0 + (i * 5 + j), none⟩ = (cells x)[j]? := fun j hj => by
    have hf := flat5 h5 l i j x hx hj
    have hj' : j < (cells x).length := by rw [h5]; exact hj
    rw [List.getElem?_eq_getElem hj'] at hf ⊢
    have := h.cells (g := g) rfl _ _ hf
    rwa [show (⟨g, 0, none⟩ : Addr).add (i * 5 + j) = ⟨g, 0 + (i * 5 + j), none⟩ from Go.WideShapes.add_plain ..] at this
  exact ⟨by simpa using hc 0 (by decide), by simpa [Nat.add_assoc] using hc 1 (by decide), by simpa [Nat.add_assoc] using hc 2 (by decide), by simpa [Nat.add_assoc] using hc 3 (by decide), by simpa [Nat.add_assoc] using hc 4 (by decide)⟩
/-- The answers of the drawn forest. -/
def ans5 (b : Nat) : List Ans := [⟨0, false, ⟨#[]⟩, none, 0, [], 1⟩, ⟨0, false, ⟨#[]⟩, none, 0, [], 2⟩, ⟨0, false, ⟨#[]⟩, none, 0, [], 1⟩, ⟨0, false, ⟨#[]⟩, some ⟨b, 0, none⟩, 2, [3600, 0], 0⟩, ⟨0, true, ⟨#[88]⟩, none, 0, [], 0⟩]
theorem ans5_ok (b : Nat) : ∀ x ∈ ans5 b, x.fault = 0 := by
  intro x hx
  simp only [ans5, List.mem_cons, List.not_mem_nil, or_false] at hx
  rcases hx with rfl | rfl | rfl | rfl | rfl <;> first | decide | (show Tre.ansF 0 0 [3600, 0] 0 = 0; decide)
theorem FoR.fin {w wr : World} {n g cap : Nat} {ns : List Tre.Nod} (hF : FoR w wr n g cap ns) (h1 : 0 < n) (h2 : n ≤ 41) {w' : World} (hw : Gr w w') (hs : ∀ b, b ≠ w.heap.size → w'.heap[b]? = wr.heap[b]?) :
    FstOk w' ⟨some ⟨g, 0, none⟩, cap, ns, some ⟨w.heap.size + 1 + 1, 0, none⟩, 5, ans5 (w.heap.size + 1)⟩ ∧ forF ⟨some ⟨g, 0, none⟩, cap, ns, some ⟨w.heap.size + 1 + 1, 0, none⟩, 5, ans5 (w.heap.size + 1)⟩ = 0 := by
  have hl := hF.len
  have hcap : n ≤ cap := by
    rcases hF.own.2 with ⟨e, _⟩ | ⟨g', c, cur, e, _, _, k1, k2, _⟩
    · cases e
    · cases e; exact k1
  have hown : w'.ownsRow (w.heap.size + 1 + 1 + 1 + 1) 47 5 (.slice (some ⟨g, 0, none⟩) n cap) n (ns.flatMap Nod.cells) := owns_same hF.own fun x hx => hs x (by have := (owns_lt hF.own hx).1; omega)
  have hans : w'.ownsRow 0 37 5 (.slice (some ⟨w.heap.size + 1 + 1, 0, none⟩) 5 5) 5 ((ans5 (w.heap.size + 1)).flatMap Ans.cells) := owns_row (Nat.zero_le _) ((hs _ (by omega)).trans hF.answ) rfl (by decide)
  have hof : w'.ownsRow 0 3 1 (.slice (some ⟨w.heap.size + 1, 0, none⟩) 2 2) 2 (ints [3600, 0]) := owns_row (Nat.zero_le _) ((hs _ (by omega)).trans hF.offs) rfl (by decide)
  have hint : IntsAt w' (some ⟨w.heap.size + 1, 0, none⟩) [3600, 0] := by
    obtain ⟨a, c, e, _, hi⟩ := owns_ints (zs := [3600, 0]) hof
    cases e; exact hi
  refine ⟨⟨by simp only; omega, by show 5 ≤ 5; decide, owns_fives (fun _ => rfl) hl hown, hF.good.ok, owns_fives (fun _ => rfl) rfl hans, fun x hx => ?_⟩, ?_⟩
  · simp only [ans5, List.mem_cons, List.not_mem_nil, or_false] at hx
    rcases hx with rfl | rfl | rfl | rfl | rfl
    · exact ⟨by decide, by decide, by decide, by decide, IntsAt.nil _ _, fun z hz => by cases hz⟩
    · exact ⟨by decide, by decide, by decide, by decide, IntsAt.nil _ _, fun z hz => by cases hz⟩
    · exact ⟨by decide, by decide, by decide, by decide, IntsAt.nil _ _, fun z hz => by cases hz⟩
    · exact ⟨by show (Lit.int .i64 0).wf = true; decide, by show (Lit.int .i64 0).wf = true; decide, by show 0 ≤ maxLen; exact Nat.zero_le _, by show 2 ≤ 2; decide, hint, fun z hz => by
        simp only [List.mem_cons, List.not_mem_nil, or_false] at hz
        rcases hz with rfl | rfl <;> decide⟩
    · exact ⟨by decide, by decide, by decide, by decide, IntsAt.nil _ _, fun z hz => by cases hz⟩
  · refine forF_0 (by simp only; omega) (by simp only [ans5]; simp; omega) (fun i hi => ?_) (fun i hi => ?_)
    · obtain ⟨x, hx⟩ : ∃ x, (ans5 (w.heap.size + 1))[i]? = some x := ⟨_, List.getElem?_eq_getElem hi⟩
      rw [ansE_at hx]; exact ans5_ok _ x (List.mem_of_getElem? hx)
    · obtain ⟨x, hx⟩ : ∃ x, ns[i]? = some x := ⟨_, List.getElem?_eq_getElem hi⟩
      rw [nodE_at hx]; exact hF.good.node i x hx
set_option maxHeartbeats 1600000 in
theorem forest_any (p : Option Addr) (cap : Nat) (l : List Raw4) (w : World) (hl : RawsAt w p l) :
    Calls Try.prog 13 #[.slice p l.length cap] w fun e w' => ∃ F : Fst, e = .returned (.agg F.cells.toArray) ∧ FstOk w' F ∧ forF F = 0 ∧ Gr w w' := by
  have l1 := hl.len
  unfold maxLen at l1
  go_enter Try.func13, Try.ntmps13
  go_wp2_with fail
  go_loopw [4] (fun t wr => ∃ (k n g cap' : Nat) (ns : List Tre.Nod), k ≤ l.length ∧ k ≤ 40 ∧ n = k + 1 ∧ t = .int .i64 k ∧ FoR w wr n g cap' ns) (fun t _ => l.length - (intOf t).toNat)
  case atStart =>
    obtain ⟨h1, h2, h3, h4, h5⟩ := heap5 w (.cells #[.slice none 0 0, .slice none 0 0] 25) (.cells #[.int .i64 3600, .int .i64 0] 3) (.cells #[.int .i64 0, .bool false, .string ⟨#[]⟩, .slice none 0 0, .int .i64 1, .int .i64 0, .bool false, .string ⟨#[]⟩, .slice none 0 0, .int .i64 2, .int .i64 0, .bool false, .string ⟨#[]⟩, .slice none 0 0, .int .i64 1, .int .i64 0, .bool false, .string ⟨#[]⟩, .slice (some ⟨w.heap.size + 1, 0, none⟩) 2 2, .int .i64 0, .int .i64 0, .bool true, .string ⟨#[88]⟩, .slice none 0 0, .int .i64 0] 37) (.cells #[.slice (some ⟨w.heap.size + 1 + 1 + 1 + 1, 0, none⟩) 1 1, .slice (some ⟨w.heap.size + 1 + 1, 0, none⟩) 5 5] 25) (.cells #[.bool true, .int .i64 1, .int .i64 0, .int .i64 0, .int .i64 0] 47)
    exact ⟨0, 1, w.heap.size + 1 + 1 + 1 + 1, 1, [⟨true, 1, 0, 0, 0⟩], Nat.zero_le _, by omega, rfl, rfl, ⟨rfl, goodN_first, (((((Gr.refl w).alloc _).alloc _).alloc _).alloc _).alloc _, by simp, owns_row (Nat.le_refl _) h5 rfl (by decide), h4, h1, h2, h3⟩⟩
  case round =>
    obtain ⟨k, n, g, cap', ns, hk1, hk2, hn, rfl, hF⟩ := hrel
    obtain ⟨i0, hi, hi1, hi2, hi3⟩ := Try.infoNode
    obtain ⟨cB, fB⟩ := row_all hF.box
    obtain ⟨cN, fN⟩ := row_all hF.res
    have hn1 : 0 < n := by omega
    have hn2 : n ≤ 41 := by omega
    have hn3 : (n : Int) = k + 1 := by omega
    have Hn : Hid _ := hn
    have Hn3 : Hid _ := hn3
    clear hn hn3
    have zr := hF.size
    have hz0 : w.heap.size < wr.heap.size := by omega
    have hz3 : w.heap.size + 1 + 1 + 1 < wr.heap.size := by omega
    by_cases hlt : k < l.length
    · by_cases h40 : k < 40
      · obtain ⟨x, hx⟩ : ∃ x, l[k]? = some x := ⟨_, List.getElem?_eq_getElem hlt⟩
        obtain ⟨ho, b, o, rfl, hb, q0, q1, q2, q3⟩ := (hl.gr hF.gr).cell k x hx
        have Hx : Hid _ := hx
        clear hx
        obtain ⟨kind, xa, xb, xc⟩ := x
        obtain ⟨wk, wa, wb, wc⟩ := ho
        simp only at wk wa wb wc q0 q1 q2 q3
        have d40 : decide ((k : Int) < 40) = true := by simp; omega
        cases hq : (Cal.pk kind 3 == 0) with
        | true =>
          go_upto_region 9 with (go_at_call 14; refine (picked_any _ _ _ (by assumption) (by omega) (by omega)).mono ?_; rintro e w2 ⟨rfl, rfl⟩)
          obtain ⟨W1, hW1⟩ : ∃ W1, W1 = wr.alloc (Obj.cells #[Value.int IntKind.i64 kind, Value.int IntKind.i64 xa, Value.int IntKind.i64 xb, Value.int IntKind.i64 xc] 61) := ⟨_, rfl⟩
          have hgW : Gr wr W1 := by rw [hW1]; exact (Gr.refl _).alloc _
          have hzR : wr.heap.size < W1.heap.size := by rw [hW1]; simp
          have hrow : W1.heap[wr.heap.size]? = some (Obj.cells #[Value.int IntKind.i64 kind, Value.int IntKind.i64 xa, Value.int IntKind.i64 xb, Value.int IntKind.i64 xc] 61) := by rw [hW1]; exact heapA _ _
          rw [← hW1]
          clear hW1
          have hcR1 : W1.cell? ⟨wr.heap.size, 1, none⟩ = some (.int .i64 xa) := (row_all hrow).1 1
          have hcR2 : W1.cell? ⟨wr.heap.size, 2, none⟩ = some (.int .i64 xb) := (row_all hrow).1 2
          have hcR3 : W1.cell? ⟨wr.heap.size, 3, none⟩ = some (.int .i64 xc) := (row_all hrow).1 3
          have hzB : w.heap.size + 1 + 1 + 1 < W1.heap.size := by omega
          have hcB : W1.cell? ⟨w.heap.size + 1 + 1 + 1, 0, none⟩ = some (.slice (some ⟨g, 0, none⟩) n cap') := (hgW.cell _ _ hz3).trans (cB 0)
          refine Slots.name_frame ?_
          intro a0 ha0
          have e3 : a0.eval (.tmp 3) = .pointer (some ⟨w.heap.size + 1 + 1 + 1, 0, none⟩) := by rw [ha0]; rfl
          have e5 : a0.eval (.tmp 5) = .pointer (some ⟨wr.heap.size, 0, none⟩) := by rw [ha0]; rfl
          have e6 : a0.eval (.tmp 6) = .int .i64 n := by rw [ha0]; rfl
          have hsz : a0.tmps.size = 76 := by rw [ha0]; rfl
          have HA : Hid _ := ha0
          clear ha0
          refine Slots.wp_region_tailN 7 (R := Gr) (fun _ _ _ h k => h.trans k) Gr.refl (Fi9 (w.heap.size + 1 + 1 + 1) wr.heap.size g n cap' wr.heap.size xa) Fi9.mono (by kernel_rfl) (by decide +kernel) (by rw [hsz]; decide +kernel) (by decide) (by decide +kernel) ?_ ?_
          · refine ⟨?_, ?_, ?_, ?_, ?_, ?_, ?_, trivial⟩
            · intro a w2 hR hs
              replace hR : Gr W1 w2 := Gr.trans (Gr.drew (Gr.refl W1)) hR
              exact St.fieldForest (b := w.heap.size + 1 + 1 + 1) (o := 0) ((hs.ini 3 (by decide +kernel)).trans e3) (by decide) ⟨Gr.refl _, _, rfl, fun d hd => by cases hd; rfl⟩
            · intro a w2 hR hs
              replace hR : Gr W1 w2 := Gr.trans (Gr.drew (Gr.refl W1)) hR
              exact St.loadNodes (hs.bef 40 (by decide +kernel)) ((hR.cell (w.heap.size + 1 + 1 + 1) 0 hzB).trans hcB) ⟨Gr.refl _, _, rfl, fun d hd => by cases hd; rfl⟩
            · intro a w2 hR hs
              replace hR : Gr W1 w2 := Gr.trans (Gr.drew (Gr.refl W1)) hR
              exact St.fieldRaw (b := wr.heap.size) (o := 0) ((hs.ini 5 (by decide +kernel)).trans e5) (by decide) ⟨Gr.refl _, _, rfl, fun d hd => by cases hd; rfl⟩
            · intro a w2 hR hs
              replace hR : Gr W1 w2 := Gr.trans (Gr.drew (Gr.refl W1)) hR
              exact St.loadI (hs.bef 42 (by decide +kernel)) ((hR.cell wr.heap.size 1 hzR).trans hcR1) ⟨Gr.refl _, _, rfl, fun d hd => by cases hd; rfl⟩
            · intro a w2 hR hs
              replace hR : Gr W1 w2 := Gr.trans (Gr.drew (Gr.refl W1)) hR
              exact St.call (vs := #[.int .i64 xa, .int .i64 5]) run_picked (args2 (hs.bef 43 (by decide +kernel)) rfl) (picked_any xa 5 _ wa (by omega) (by omega)) (fun e w3 h => by obtain ⟨rfl, rfl⟩ := h; exact ⟨_, rfl, Gr.refl _, _, rfl, fun d hd => by cases hd; rfl⟩)
            · intro a w2 hR hs
              replace hR : Gr W1 w2 := Gr.trans (Gr.drew (Gr.refl W1)) hR
              exact St.buildLeaf (hs.bef 44 (by decide +kernel)) ⟨Gr.refl _, _, rfl, fun d hd => by cases hd; rfl⟩
            · intro a w2 hR hs
              replace hR : Gr W1 w2 := Gr.trans (Gr.drew (Gr.refl W1)) hR
              exact St.sliceNode (hs.bef 45 (by decide +kernel)) ⟨(Gr.refl _).alloc _, _, rfl, fun d hd => by cases hd; exact ⟨_, rfl, Nat.le_trans (Nat.le_of_lt hzR) hR.size, heapA _ _⟩⟩
          · intro vs w2 hR hfi
            replace hR : Gr W1 w2 := Gr.trans (Gr.drew (Gr.refl W1)) hR
            have e41 : vs 41 = .slice (some ⟨g, 0, none⟩) n cap' := hfi 41 (by decide)
            obtain ⟨gn, e46, hgn, hrown⟩ := hfi 46 (by decide)
            have hrow3 : ∀ x, (Value.slice (some ⟨g, 0, none⟩) n cap').ownBlock = some x → w.heap.size + 1 + 1 + 1 + 1 ≤ x := fun x hx => (owns_lt hF.own hx).1
            refine wp_append_lies w2 (.tmp 41) (.tmp 46) 22 rfl (w.heap.size + 1 + 1 + 1 + 1) 47 i0 _ 5 40 Try.underlying22 hi hi1 hi2 hi3 rfl (by decide) (.slice (some ⟨g, 0, none⟩) n cap') n (nodC ns) ((Slots.eval_fill (by decide +kernel) (by rw [hsz]; decide)).trans e41) (owns_gr hF.own (hgW.trans hR)) ⟨gn, 0, none⟩ 1 1 (Nod.cells ⟨true, Cal.pk xa 5, 0, 0, 0⟩) ((Slots.eval_fill (by decide +kernel) (by rw [hsz]; decide)).trans e46) (by rfl) (World.news_of_block hrown) (nod_cell _) (by omega) (by unfold maxLen; omega) (by omega) (by have := hR.size; omega) _ rfl ?_
            intro g2 cap2 w3 hown3 hgrow hat hlt3
            have hB3 : w3.heap[w.heap.size + 1 + 1 + 1]? = some (.cells #[.slice (some ⟨g, 0, none⟩) n cap', .slice (some ⟨w.heap.size + 1 + 1, 0, none⟩) 5 5] 25) := (hgrow.block (w.heap.size + 1 + 1 + 1) (Nat.lt_of_lt_of_le hzB hR.size) (fun e => by have := hrow3 _ e.symm; omega)).trans ((hR.block _ hzB).trans ((hgW.block _ hz3).trans hF.box))
            have c3 := (row_all hB3).1
            have f3 := (row_all hB3).2
            refine Slots.name_seq ?_
            intro a1 ha1
            have s1 : a1.tmps.size = 76 := by rw [ha1, (Slots.put_room _ _ _).1, (Slots.fill_room _ _ _).1, hsz]
            have x3 : a1.eval (.tmp 3) = .pointer (some ⟨w.heap.size + 1 + 1 + 1, 0, none⟩) := by
              rw [ha1]
              refine Eq.trans (Slots.eval_put (by decide)) ?_
              refine Eq.trans (Slots.eval_other (by decide +kernel)) ?_
              exact e3
            have x47 : a1.eval (.tmp 47) = .slice (some ⟨g2, 0, none⟩) (n + 1) cap2 := by
              rw [ha1]
              exact Slots.eval_put_same (Slots.lt_fill (by rw [hsz]; decide))
            have HA1 : Hid _ := ha1
            clear ha1
            refine Slots.seq_cons ?_
            refine St.fieldForest (b := w.heap.size + 1 + 1 + 1) (o := 0) x3 (by decide) ?_
            refine Slots.seq_cons ?_
            refine St.storeNodes (Slots.eval_put_same (by rw [s1]; decide)) ((Slots.eval_put (by decide)).trans x47) (c3 0) (f3 0) ?_
            have hfin := FoR.step (nd := ⟨true, Cal.pk xa 5, 0, 0, 0⟩) hF hgW hR hgrow hat hown3 (leaf_good xa n).1 (leaf_good xa n).2
            have HF : Hid _ := hfin
            refine Slots.seq_nil ?_
            rw [HA1.out, HA.out]
            clear HA HA1 hfin
            simp only [Slots.dstL, List.take_succ_cons, List.take_zero, List.filterMap_cons, List.filterMap_nil, Slots.fill]
            go_wp2
            exact ⟨⟨k + 1, n + 1, g2, cap2, _, by omega, by omega, by have := Hn.out; omega, by go_num, HF.out⟩, by simp [intOf]; omega⟩
        | false =>
          go_upto_region 10 with (go_at_call 14; refine (picked_any _ _ _ (by assumption) (by omega) (by omega)).mono ?_; rintro e w2 ⟨rfl, rfl⟩)
          obtain ⟨W1, hW1⟩ : ∃ W1, W1 = wr.alloc (Obj.cells #[Value.int IntKind.i64 kind, Value.int IntKind.i64 xa, Value.int IntKind.i64 xb, Value.int IntKind.i64 xc] 61) := ⟨_, rfl⟩
          have hgW : Gr wr W1 := by rw [hW1]; exact (Gr.refl _).alloc _
          have hzR : wr.heap.size < W1.heap.size := by rw [hW1]; simp
          have hrow : W1.heap[wr.heap.size]? = some (Obj.cells #[Value.int IntKind.i64 kind, Value.int IntKind.i64 xa, Value.int IntKind.i64 xb, Value.int IntKind.i64 xc] 61) := by rw [hW1]; exact heapA _ _
          rw [← hW1]
          clear hW1
          have hcR1 : W1.cell? ⟨wr.heap.size, 1, none⟩ = some (.int .i64 xa) := (row_all hrow).1 1
          have hcR2 : W1.cell? ⟨wr.heap.size, 2, none⟩ = some (.int .i64 xb) := (row_all hrow).1 2
          have hcR3 : W1.cell? ⟨wr.heap.size, 3, none⟩ = some (.int .i64 xc) := (row_all hrow).1 3
          have hzB : w.heap.size + 1 + 1 + 1 < W1.heap.size := by omega
          have hcB : W1.cell? ⟨w.heap.size + 1 + 1 + 1, 0, none⟩ = some (.slice (some ⟨g, 0, none⟩) n cap') := (hgW.cell _ _ hz3).trans (cB 0)
          have p1 := Cal.pk_lo xa (k := 60) (by omega)
          have p2 := Cal.pk_hi xa (k := 60) (by omega)
          have p3 := Cal.pk_lo xb (k := min (n : Int) 4) (by omega)
          have p4 := Cal.pk_hi xb (k := min (n : Int) 4) (by omega)
          have p5 := Cal.pk_lo xc (k := min (n : Int) 4) (by omega)
          have p6 := Cal.pk_hi xc (k := min (n : Int) 4) (by omega)
          refine Slots.name_frame ?_
          intro a0 ha0
          have e3 : a0.eval (.tmp 3) = .pointer (some ⟨w.heap.size + 1 + 1 + 1, 0, none⟩) := by rw [ha0]; rfl
          have e5 : a0.eval (.tmp 5) = .pointer (some ⟨wr.heap.size, 0, none⟩) := by rw [ha0]; rfl
          have e6 : a0.eval (.tmp 6) = .int .i64 n := by rw [ha0]; rfl
          have hsz : a0.tmps.size = 76 := by rw [ha0]; rfl
          have HA : Hid _ := ha0
          clear ha0
          refine Slots.wp_region_tailN 24 (R := Gr) (fun _ _ _ h k => h.trans k) Gr.refl (Fi10 (w.heap.size + 1 + 1 + 1) wr.heap.size g n cap' wr.heap.size xa xb xc) Fi10.mono (by kernel_rfl) (by decide +kernel) (by rw [hsz]; decide +kernel) (by decide) (by decide +kernel) ?_ ?_
          · refine ⟨?_, ?_, ?_, ?_, ?_, ?_, ?_, ?_, ?_, ?_, ?_, ?_, ?_, ?_, ?_, ?_, ?_, ?_, ?_, ?_, ?_, ?_, ?_, ?_, trivial⟩
            · intro a w2 hR hs
              replace hR : Gr W1 w2 := Gr.trans (Gr.drew (Gr.refl W1)) hR
              exact St.fieldForest (b := w.heap.size + 1 + 1 + 1) (o := 0) ((hs.ini 3 (by decide +kernel)).trans e3) (by decide) ⟨Gr.refl _, _, rfl, fun d hd => by cases hd; rfl⟩
            · intro a w2 hR hs
              replace hR : Gr W1 w2 := Gr.trans (Gr.drew (Gr.refl W1)) hR
              exact St.loadNodes (hs.bef 49 (by decide +kernel)) ((hR.cell (w.heap.size + 1 + 1 + 1) 0 hzB).trans hcB) ⟨Gr.refl _, _, rfl, fun d hd => by cases hd; rfl⟩
            · intro a w2 hR hs
              replace hR : Gr W1 w2 := Gr.trans (Gr.drew (Gr.refl W1)) hR
              exact St.fieldRaw (b := wr.heap.size) (o := 0) ((hs.ini 5 (by decide +kernel)).trans e5) (by decide) ⟨Gr.refl _, _, rfl, fun d hd => by cases hd; rfl⟩
            · intro a w2 hR hs
              replace hR : Gr W1 w2 := Gr.trans (Gr.drew (Gr.refl W1)) hR
              exact St.loadI (hs.bef 51 (by decide +kernel)) ((hR.cell wr.heap.size 1 hzR).trans hcR1) ⟨Gr.refl _, _, rfl, fun d hd => by cases hd; rfl⟩
            · intro a w2 hR hs
              replace hR : Gr W1 w2 := Gr.trans (Gr.drew (Gr.refl W1)) hR
              exact St.call (vs := #[.int .i64 xa, .int .i64 60]) run_picked (args2 (hs.bef 52 (by decide +kernel)) rfl) (picked_any xa 60 _ wa (by omega) (by omega)) (fun e w3 h => by obtain ⟨rfl, rfl⟩ := h; exact ⟨_, rfl, Gr.refl _, _, rfl, fun d hd => by cases hd; rfl⟩)
            · intro a w2 hR hs
              replace hR : Gr W1 w2 := Gr.trans (Gr.drew (Gr.refl W1)) hR
              exact St.sub (hs.bef 53 (by decide +kernel)) rfl (by omega) (by omega) ⟨Gr.refl _, _, rfl, fun d hd => by cases hd; rfl⟩
            · intro a w2 hR hs
              replace hR : Gr W1 w2 := Gr.trans (Gr.drew (Gr.refl W1)) hR
              exact St.move ((hs.ini 6 (by decide +kernel)).trans e6) ⟨Gr.refl _, _, rfl, fun d hd => by cases hd; rfl⟩
            · intro a w2 hR hs
              replace hR : Gr W1 w2 := Gr.trans (Gr.drew (Gr.refl W1)) hR
              exact St.sub (hs.bef 55 (by decide +kernel)) rfl (by omega) (by omega) ⟨Gr.refl _, _, rfl, fun d hd => by cases hd; rfl⟩
            · intro a w2 hR hs
              replace hR : Gr W1 w2 := Gr.trans (Gr.drew (Gr.refl W1)) hR
              exact St.fieldRaw (b := wr.heap.size) (o := 0) ((hs.ini 5 (by decide +kernel)).trans e5) (by decide) ⟨Gr.refl _, _, rfl, fun d hd => by cases hd; rfl⟩
            · intro a w2 hR hs
              replace hR : Gr W1 w2 := Gr.trans (Gr.drew (Gr.refl W1)) hR
              exact St.loadI (hs.bef 57 (by decide +kernel)) ((hR.cell wr.heap.size 2 hzR).trans hcR2) ⟨Gr.refl _, _, rfl, fun d hd => by cases hd; rfl⟩
            · intro a w2 hR hs
              replace hR : Gr W1 w2 := Gr.trans (Gr.drew (Gr.refl W1)) hR
              exact St.move ((hs.ini 6 (by decide +kernel)).trans e6) ⟨Gr.refl _, _, rfl, fun d hd => by cases hd; rfl⟩
            · intro a w2 hR hs
              replace hR : Gr W1 w2 := Gr.trans (Gr.drew (Gr.refl W1)) hR
              exact St.min2 (hs.bef 59 (by decide +kernel)) rfl ⟨Gr.refl _, _, rfl, fun d hd => by cases hd; rfl⟩
            · intro a w2 hR hs
              replace hR : Gr W1 w2 := Gr.trans (Gr.drew (Gr.refl W1)) hR
              exact St.call (vs := #[.int .i64 xb, .int .i64 (min (n : Int) 4)]) run_picked (args2 (hs.bef 58 (by decide +kernel)) (hs.bef 60 (by decide +kernel))) (picked_any xb _ _ wb (by omega) (by omega)) (fun e w3 h => by obtain ⟨rfl, rfl⟩ := h; exact ⟨_, rfl, Gr.refl _, _, rfl, fun d hd => by cases hd; rfl⟩)
            · intro a w2 hR hs
              replace hR : Gr W1 w2 := Gr.trans (Gr.drew (Gr.refl W1)) hR
              exact St.sub (hs.bef 56 (by decide +kernel)) (hs.bef 61 (by decide +kernel)) (by omega) (by omega) ⟨Gr.refl _, _, rfl, fun d hd => by cases hd; rfl⟩
            · intro a w2 hR hs
              replace hR : Gr W1 w2 := Gr.trans (Gr.drew (Gr.refl W1)) hR
              exact St.move ((hs.ini 6 (by decide +kernel)).trans e6) ⟨Gr.refl _, _, rfl, fun d hd => by cases hd; rfl⟩
            · intro a w2 hR hs
              replace hR : Gr W1 w2 := Gr.trans (Gr.drew (Gr.refl W1)) hR
              exact St.sub (hs.bef 63 (by decide +kernel)) rfl (by omega) (by omega) ⟨Gr.refl _, _, rfl, fun d hd => by cases hd; rfl⟩
            · intro a w2 hR hs
              replace hR : Gr W1 w2 := Gr.trans (Gr.drew (Gr.refl W1)) hR
              exact St.fieldRaw (b := wr.heap.size) (o := 0) ((hs.ini 5 (by decide +kernel)).trans e5) (by decide) ⟨Gr.refl _, _, rfl, fun d hd => by cases hd; rfl⟩
            · intro a w2 hR hs
              replace hR : Gr W1 w2 := Gr.trans (Gr.drew (Gr.refl W1)) hR
              exact St.loadI (hs.bef 65 (by decide +kernel)) ((hR.cell wr.heap.size 3 hzR).trans hcR3) ⟨Gr.refl _, _, rfl, fun d hd => by cases hd; rfl⟩
            · intro a w2 hR hs
              replace hR : Gr W1 w2 := Gr.trans (Gr.drew (Gr.refl W1)) hR
              exact St.move ((hs.ini 6 (by decide +kernel)).trans e6) ⟨Gr.refl _, _, rfl, fun d hd => by cases hd; rfl⟩
            · intro a w2 hR hs
              replace hR : Gr W1 w2 := Gr.trans (Gr.drew (Gr.refl W1)) hR
              exact St.min2 (hs.bef 67 (by decide +kernel)) rfl ⟨Gr.refl _, _, rfl, fun d hd => by cases hd; rfl⟩
            · intro a w2 hR hs
              replace hR : Gr W1 w2 := Gr.trans (Gr.drew (Gr.refl W1)) hR
              exact St.call (vs := #[.int .i64 xc, .int .i64 (min (n : Int) 4)]) run_picked (args2 (hs.bef 66 (by decide +kernel)) (hs.bef 68 (by decide +kernel))) (picked_any xc _ _ wc (by omega) (by omega)) (fun e w3 h => by obtain ⟨rfl, rfl⟩ := h; exact ⟨_, rfl, Gr.refl _, _, rfl, fun d hd => by cases hd; rfl⟩)
            · intro a w2 hR hs
              replace hR : Gr W1 w2 := Gr.trans (Gr.drew (Gr.refl W1)) hR
              exact St.sub (hs.bef 64 (by decide +kernel)) (hs.bef 69 (by decide +kernel)) (by omega) (by omega) ⟨Gr.refl _, _, rfl, fun d hd => by cases hd; rfl⟩
            · intro a w2 hR hs
              replace hR : Gr W1 w2 := Gr.trans (Gr.drew (Gr.refl W1)) hR
              exact St.buildNode (hs.bef 54 (by decide +kernel)) (hs.bef 62 (by decide +kernel)) (hs.bef 70 (by decide +kernel)) ⟨Gr.refl _, _, rfl, fun d hd => by cases hd; rfl⟩
            · intro a w2 hR hs
              replace hR : Gr W1 w2 := Gr.trans (Gr.drew (Gr.refl W1)) hR
              exact St.sliceNode (hs.bef 71 (by decide +kernel)) ⟨(Gr.refl _).alloc _, _, rfl, fun d hd => by cases hd; exact ⟨_, rfl, Nat.le_trans (Nat.le_of_lt hzR) hR.size, heapA _ _⟩⟩
          · intro vs w2 hR hfi
            replace hR : Gr W1 w2 := Gr.trans (Gr.drew (Gr.refl W1)) hR
            have e41 : vs 50 = .slice (some ⟨g, 0, none⟩) n cap' := hfi 50 (by decide)
            obtain ⟨gn, e46, hgn, hrown⟩ := hfi 72 (by decide)
            have hrow3 : ∀ x, (Value.slice (some ⟨g, 0, none⟩) n cap').ownBlock = some x → w.heap.size + 1 + 1 + 1 + 1 ≤ x := fun x hx => (owns_lt hF.own hx).1
            refine wp_append_lies w2 (.tmp 50) (.tmp 72) 22 rfl (w.heap.size + 1 + 1 + 1 + 1) 47 i0 _ 5 40 Try.underlying22 hi hi1 hi2 hi3 rfl (by decide) (.slice (some ⟨g, 0, none⟩) n cap') n (nodC ns) ((Slots.eval_fill (by decide +kernel) (by rw [hsz]; decide)).trans e41) (owns_gr hF.own (hgW.trans hR)) ⟨gn, 0, none⟩ 1 1 (Nod.cells ⟨false, 0, Cal.pk xa 60 - 20, (n : Int) - 1 - Cal.pk xb (min (n : Int) 4), (n : Int) - 1 - Cal.pk xc (min (n : Int) 4)⟩) ((Slots.eval_fill (by decide +kernel) (by rw [hsz]; decide)).trans e46) (by rfl) (World.news_of_block hrown) (nod_cell _) (by omega) (by unfold maxLen; omega) (by omega) (by have := hR.size; omega) _ rfl ?_
            intro g2 cap2 w3 hown3 hgrow hat hlt3
            have hB3 : w3.heap[w.heap.size + 1 + 1 + 1]? = some (.cells #[.slice (some ⟨g, 0, none⟩) n cap', .slice (some ⟨w.heap.size + 1 + 1, 0, none⟩) 5 5] 25) := (hgrow.block (w.heap.size + 1 + 1 + 1) (Nat.lt_of_lt_of_le hzB hR.size) (fun e => by have := hrow3 _ e.symm; omega)).trans ((hR.block _ hzB).trans ((hgW.block _ hz3).trans hF.box))
            have c3 := (row_all hB3).1
            have f3 := (row_all hB3).2
            refine Slots.name_seq ?_
            intro a1 ha1
            have s1 : a1.tmps.size = 76 := by rw [ha1, (Slots.put_room _ _ _).1, (Slots.fill_room _ _ _).1, hsz]
            have x3 : a1.eval (.tmp 3) = .pointer (some ⟨w.heap.size + 1 + 1 + 1, 0, none⟩) := by
              rw [ha1]
              refine Eq.trans (Slots.eval_put (by decide)) ?_
              refine Eq.trans (Slots.eval_other (by decide +kernel)) ?_
              exact e3
            have x47 : a1.eval (.tmp 73) = .slice (some ⟨g2, 0, none⟩) (n + 1) cap2 := by
              rw [ha1]
              exact Slots.eval_put_same (Slots.lt_fill (by rw [hsz]; decide))
            have HA1 : Hid _ := ha1
            clear ha1
            refine Slots.seq_cons ?_
            refine St.fieldForest (b := w.heap.size + 1 + 1 + 1) (o := 0) x3 (by decide) ?_
            refine Slots.seq_cons ?_
            refine St.storeNodes (Slots.eval_put_same (by rw [s1]; decide)) ((Slots.eval_put (by decide)).trans x47) (c3 0) (f3 0) ?_
            have hfin := FoR.step (nd := ⟨false, 0, Cal.pk xa 60 - 20, (n : Int) - 1 - Cal.pk xb (min (n : Int) 4), (n : Int) - 1 - Cal.pk xc (min (n : Int) 4)⟩) hF hgW hR hgrow hat hown3 (node_good xa xb xc hn1 (by omega)).1 (node_good xa xb xc hn1 (by omega)).2
            have HF : Hid _ := hfin
            refine Slots.seq_nil ?_
            rw [HA1.out, HA.out]
            clear HA HA1 hfin
            simp only [Slots.dstL, List.take_succ_cons, List.take_zero, List.filterMap_cons, List.filterMap_nil, Slots.fill]
            go_wp2
            exact ⟨⟨k + 1, n + 1, g2, cap2, _, by omega, by omega, by have := Hn.out; omega, by go_num, HF.out⟩, by simp [intOf]; omega⟩
      · have d40 : decide ((k : Int) < 40) = false := by simp; omega
        go_wp2
        have hw' : Gr w ((wr.setCell ⟨w.heap.size, 0, none⟩ (.slice (some ⟨g, 0, none⟩) n cap')).setCell ⟨w.heap.size, 1, none⟩ (.slice (some ⟨w.heap.size + 1 + 1, 0, none⟩) 5 5)) := (hF.gr.setCell (Nat.le_refl _) _).setCell (Nat.le_refl _) _
        obtain ⟨hok, h0⟩ := hF.fin hn1 hn2 hw' (fun b hne => (heap_setCell_other _ ⟨w.heap.size, 1, none⟩ b _ hne).trans (heap_setCell_other _ ⟨w.heap.size, 0, none⟩ b _ hne))
        exact bodyPost_ret (v := .agg #[.slice (some ⟨g, 0, none⟩) n cap', .slice (some ⟨w.heap.size + 1 + 1, 0, none⟩) 5 5]) (by simp [results, Try.results13, go_sem, cN]) rfl ⟨_, by rw [← hF.len]; rfl, hok, h0, hw'⟩
    · go_wp2
      have hw' : Gr w ((wr.setCell ⟨w.heap.size, 0, none⟩ (.slice (some ⟨g, 0, none⟩) n cap')).setCell ⟨w.heap.size, 1, none⟩ (.slice (some ⟨w.heap.size + 1 + 1, 0, none⟩) 5 5)) := (hF.gr.setCell (Nat.le_refl _) _).setCell (Nat.le_refl _) _
      obtain ⟨hok, h0⟩ := hF.fin hn1 hn2 hw' (fun b hne => (heap_setCell_other _ ⟨w.heap.size, 1, none⟩ b _ hne).trans (heap_setCell_other _ ⟨w.heap.size, 0, none⟩ b _ hne))
      exact bodyPost_ret (v := .agg #[.slice (some ⟨g, 0, none⟩) n cap', .slice (some ⟨w.heap.size + 1 + 1, 0, none⟩) 5 5]) (by simp [results, Try.results13, go_sem, cN]) rfl ⟨_, by rw [← hF.len]; rfl, hok, h0, hw'⟩
end Go.Proofs.Ythlahmabcbbhjaa
