/- All numbers parted by the nodes of a forest: plain mathematics. -/
import Derived.Test.YtcpmbjlhblkniaaDoorHalM
namespace Go.Proofs.YtcpmbjlhblkniaaDoor
set_option linter.unusedVariables false
def nod0 : Tre.Nod := ⟨true, 0, 0, 0, 0⟩
/-- The answer's place that a node tells. -/
def valD (nodes : List Tre.Nod) (t : Int) : Nat → Tre.Nod → Int
  | 0, _ => 0
  | n + 1, nd => if nd.leaf = true then nd.ans else if t < nd.bound then valD nodes t n (nodes.getD nd.less.toNat nod0) else valD nodes t n (nodes.getD nd.more.toNat nod0)
/-- The parts of the numbers from one on up to another that a node tells. -/
def wkD (nodes : List Tre.Nod) : Nat → Tre.Nod → Int → Int → List (Int × Int)
  | 0, _, _, _ => []
  | n + 1, nd, f, l =>
    if nd.leaf = true then [(f, nd.ans)]
    else if l < nd.bound then wkD nodes n (nodes.getD nd.less.toNat nod0) f l
    else if nd.bound ≤ f then wkD nodes n (nodes.getD nd.more.toNat nod0) f l
    else wkD nodes n (nodes.getD nd.less.toNat nod0) f (nd.bound - 1) ++ wkD nodes n (nodes.getD nd.more.toNat nod0) nd.bound l
/-- Nodes lead to such alone that stand ahead. -/
structure Down (nodes : List Tre.Nod) : Prop where
  less : ∀ (i : Nat) nd, nodes[i]? = some nd → nd.leaf = false → 0 ≤ nd.less ∧ nd.less < i ∧ 0 ≤ nd.more ∧ nd.more < i
theorem NG.down {nodes : List Tre.Nod} {many : Int} (h : NG nodes many) : Down nodes :=
  ⟨fun i nd hi hl => by
    obtain ⟨leaf, a, b, l, m⟩ := nd
    simp only at hl
    subst hl
    exact (h.inner hi).2⟩
theorem Good.down {f : Fst} (h : Good f) : Down f.nodes :=
  ⟨fun i nd hi hl => by
    obtain ⟨leaf, a, b, l, m⟩ := nd
    simp only at hl
    subst hl
    exact h.inner hi⟩
theorem Down.kid {nodes : List Tre.Nod} (h : Down nodes) {i : Nat} {nd : Tre.Nod} (hi : nodes[i]? = some nd) (hl : nd.leaf = false) :
    (nd.less.toNat < i ∧ nodes[nd.less.toNat]? = some (nodes.getD nd.less.toNat nod0)) ∧ nd.more.toNat < i ∧ nodes[nd.more.toNat]? = some (nodes.getD nd.more.toNat nod0) := by
  have h1 := h.less i nd hi hl
  have h2 := (List.getElem?_eq_some_iff.1 hi).1
  have g : ∀ k : Nat, k < nodes.length → nodes[k]? = some (nodes.getD k nod0) := fun k hk => by
    rw [List.getD_eq_getElem?_getD, List.getElem?_eq_getElem hk]; rfl
  exact ⟨⟨by omega, g _ (by omega)⟩, by omega, g _ (by omega)⟩
theorem valD_N {nodes : List Tre.Nod} (h : Down nodes) (t : Int) : ∀ (n i : Nat) (nd : Tre.Nod), nodes[i]? = some nd → valN nodes t n i = valD nodes t n nd
  | 0, i, nd, hi => rfl
  | n + 1, i, nd, hi => by
    unfold valN valD
    rw [hi]
    simp only
    by_cases hl : nd.leaf = true
    · rw [if_pos hl, if_pos hl]
    · have hl' : nd.leaf = false := by simpa using hl
      obtain ⟨⟨_, g1⟩, _, g2⟩ := h.kid hi hl'
      rw [if_neg hl, if_neg hl, valD_N h t n _ _ g1, valD_N h t n _ _ g2]
/-- What the parts of a node are. -/
structure Wk (nodes : List Tre.Nod) (n : Nat) (nd : Tre.Nod) (f l : Int) (ps : List (Int × Int)) : Prop where
  head : ∃ q r, ps = q :: r ∧ q.1 = f
  lo : ∀ q ∈ ps, f ≤ q.1 ∧ q.1 ≤ l
  rise : ps.Pairwise (fun a b => a.1 < b.1)
  from_ : ∀ q ∈ ps.tail, ∃ nd ∈ nodes, nd.leaf = false ∧ nd.bound = q.1
  ans : ∀ q ∈ ps, ∃ nd ∈ nodes, nd.leaf = true ∧ nd.ans = q.2
  tells : ∀ t, f ≤ t → t ≤ l → lastA ps t = valD nodes t n nd
theorem lastA_append {A B : List (Int × Int)} (t : Int) (hA : A ≠ []) : lastA (A ++ B) t = lastG (lastA A t) B t := by
  cases A with
  | nil => exact absurd rfl hA
  | cons q r => show lastG q.2 (r ++ B) t = _; rw [lastG_append]; rfl
theorem wk_all {nodes : List Tre.Nod} (h : Down nodes) : ∀ (n i : Nat) (nd : Tre.Nod) (f l : Int), i < n → nodes[i]? = some nd → f ≤ l → Wk nodes n nd f l (wkD nodes n nd f l)
  | 0, i, nd, f, l, hn, _, _ => by omega
  | n + 1, i, nd, f, l, hn, hi, hfl => by
    have hm := List.mem_of_getElem? hi
    by_cases hl : nd.leaf = true
    · have e : wkD nodes (n + 1) nd f l = [(f, nd.ans)] := by unfold wkD; rw [if_pos hl]
      rw [e]
      refine ⟨⟨_, _, rfl, rfl⟩, fun q hq => ?_, by simp, by simp, fun q hq => ?_, fun t _ _ => ?_⟩
      · rw [List.mem_singleton.1 hq]; exact ⟨Int.le_refl _, hfl⟩
      · rw [List.mem_singleton.1 hq]; exact ⟨nd, hm, hl, rfl⟩
      · unfold valD; rw [if_pos hl]; rfl
    · have hl' : nd.leaf = false := by simpa using hl
      obtain ⟨⟨k1, g1⟩, k2, g2⟩ := h.kid hi hl'
      by_cases hb : l < nd.bound
      · have e : wkD nodes (n + 1) nd f l = wkD nodes n (nodes.getD nd.less.toNat nod0) f l := by rw [wkD, if_neg hl, if_pos hb]
        rw [e]
        have w := wk_all h n _ _ f l (by omega) g1 hfl
        refine ⟨w.head, w.lo, w.rise, w.from_, w.ans, fun t h1 h2 => ?_⟩
        rw [w.tells t h1 h2]
        conv => rhs; unfold valD
        rw [if_neg hl, if_pos (by omega)]
      · by_cases hf : nd.bound ≤ f
        · have e : wkD nodes (n + 1) nd f l = wkD nodes n (nodes.getD nd.more.toNat nod0) f l := by rw [wkD, if_neg hl, if_neg hb, if_pos hf]
          rw [e]
          have w := wk_all h n _ _ f l (by omega) g2 hfl
          refine ⟨w.head, w.lo, w.rise, w.from_, w.ans, fun t h1 h2 => ?_⟩
          rw [w.tells t h1 h2]
          conv => rhs; unfold valD
          rw [if_neg hl, if_neg (by omega)]
        · have e : wkD nodes (n + 1) nd f l = wkD nodes n (nodes.getD nd.less.toNat nod0) f (nd.bound - 1) ++ wkD nodes n (nodes.getD nd.more.toNat nod0) nd.bound l := by rw [wkD, if_neg hl, if_neg hb, if_neg hf]
          rw [e]
          have a := wk_all h n _ _ f (nd.bound - 1) (by omega) g1 (by omega)
          have b := wk_all h n _ _ nd.bound l (by omega) g2 (by omega)
          obtain ⟨qa, ra, ea, fa⟩ := a.head
          obtain ⟨qb, rb, eb, fb⟩ := b.head
          have hane : wkD nodes n (nodes.getD nd.less.toNat nod0) f (nd.bound - 1) ≠ [] := by rw [ea]; simp
          refine ⟨⟨qa, ra ++ _, by rw [ea]; rfl, fa⟩, fun q hq => ?_, ?_, fun q hq => ?_, fun q hq => ?_, fun t h1 h2 => ?_⟩
          · rcases List.mem_append.1 hq with g | g
            · have := a.lo q g; omega
            · have := b.lo q g; omega
          · rw [List.pairwise_append]
            refine ⟨a.rise, b.rise, fun x hx y hy => ?_⟩
            have := a.lo x hx
            have := b.lo y hy
            omega
          · rw [ea, List.cons_append, List.tail_cons] at hq
            rcases List.mem_append.1 hq with g | g
            · exact a.from_ q (by rw [ea]; exact g)
            · rw [eb] at g
              rcases List.mem_cons.1 g with rfl | g
              · exact ⟨nd, hm, hl', fb.symm⟩
              · exact b.from_ q (by rw [eb]; exact g)
          · rcases List.mem_append.1 hq with g | g
            · exact a.ans q g
            · exact b.ans q g
          · rw [lastA_append t hane]
            conv => rhs; unfold valD
            rw [if_neg hl]
            by_cases ht : t < nd.bound
            · rw [if_pos ht, lastG_behind _ (fun q hq => by have := b.lo q hq; omega)]
              exact a.tells t h1 (by omega)
            · rw [if_neg ht, ← b.tells t (by omega) h2, eb, lastG_cons, if_pos (by omega)]
              rfl
/-- Numbers that rise are no more than the list holds that they are of. -/
theorem nodup_le : ∀ (n : Nat) (a b : List Int), a.length ≤ n → a.Nodup → (∀ x ∈ a, x ∈ b) → a.length ≤ b.length
  | n, [], b, _, _, _ => Nat.zero_le _
  | n + 1, x :: a, b, hn, hd, hs => by
    have hx := hs x (by simp)
    obtain ⟨h1, h2⟩ := List.nodup_cons.1 hd
    have := nodup_le n a (b.erase x) (by simpa using hn) h2 (fun y hy => by
      have hne : y ≠ x := fun e => h1 (e ▸ hy)
      exact (List.mem_erase_of_ne hne).2 (hs y (by simp [hy])))
    have hl := List.length_erase_of_mem hx
    have hb : 0 < b.length := List.length_pos_of_mem hx
    simp only [List.length_cons]
    omega
theorem Wk.len {nodes : List Tre.Nod} {n : Nat} {nd : Tre.Nod} {f l : Int} {ps : List (Int × Int)} (h : Wk nodes n nd f l ps) : ps.length ≤ ((nodes.filter fun n => !n.leaf).map fun n => n.bound).length + 1 := by
  obtain ⟨q, r, e, _⟩ := h.head
  have hr := h.rise
  rw [e] at hr
  have hr2 := (List.pairwise_cons.1 hr).2
  have := nodup_le _ (r.map fun q => q.1) ((nodes.filter fun n => !n.leaf).map fun n => n.bound) (Nat.le_refl _) (by
    rw [List.nodup_iff_pairwise_ne, List.pairwise_map]
    exact hr2.imp fun h => by omega) (fun x hx => by
    obtain ⟨y, hy, rfl⟩ := List.mem_map.1 hx
    obtain ⟨nd, h1, h2, h3⟩ := h.from_ y (by rw [e]; exact hy)
    exact List.mem_map.2 ⟨nd, List.mem_filter.2 ⟨h1, by simp [h2]⟩, h3⟩)
  rw [List.length_map] at this
  rw [e]
  simpa using this
theorem Wk.len2 {nodes : List Tre.Nod} {n : Nat} {nd : Tre.Nod} {f l : Int} {ps : List (Int × Int)} (h : Wk nodes n nd f l ps) : ps.length ≤ nodes.length + 1 := by
  have h1 := h.len
  rw [List.length_map] at h1
  have h2 := List.length_filter_le (fun n : Tre.Nod => !n.leaf) nodes
  omega
theorem Wk.riseT {nodes : List Tre.Nod} {n : Nat} {nd : Tre.Nod} {f l : Int} {ps : List (Int × Int)} (h : Wk nodes n nd f l ps) : Rise ps := by
  obtain ⟨q, r, e, _⟩ := h.head
  have hr := h.rise
  rw [e] at hr ⊢
  exact ⟨(List.pairwise_cons.1 hr).2⟩
theorem wk_fuel {nodes : List Tre.Nod} (h : Down nodes) : ∀ (n m i : Nat) (nd : Tre.Nod) (f l : Int), i < n → i < m → nodes[i]? = some nd → wkD nodes n nd f l = wkD nodes m nd f l
  | 0, m, i, nd, f, l, hn, _, _ => by omega
  | n + 1, 0, i, nd, f, l, _, hm, _ => by omega
  | n + 1, m + 1, i, nd, f, l, hn, hm, hi => by
    unfold wkD
    by_cases hl : nd.leaf = true
    · rw [if_pos hl, if_pos hl]
    · have hl' : nd.leaf = false := by simpa using hl
      obtain ⟨⟨k1, g1⟩, k2, g2⟩ := h.kid hi hl'
      rw [if_neg hl, if_neg hl, wk_fuel h n m _ _ f l (by omega) (by omega) g1, wk_fuel h n m _ _ f l (by omega) (by omega) g2, wk_fuel h n m _ _ f (nd.bound - 1) (by omega) (by omega) g1, wk_fuel h n m _ _ nd.bound l (by omega) (by omega) g2]
theorem wk_leaf {nodes : List Tre.Nod} {k : Nat} {a b l' m f l : Int} : wkD nodes (k + 1) ⟨true, a, b, l', m⟩ f l = [(f, a)] := by unfold wkD; rw [if_pos rfl]
theorem wk_less {nodes : List Tre.Nod} (h : Down nodes) {k : Nat} {a b l' m f l : Int} (hi : nodes[k]? = some ⟨false, a, b, l', m⟩) (hb : l < b) {x : Tre.Nod} (hx : nodes[l'.toNat]? = some x) : wkD nodes (k + 1) ⟨false, a, b, l', m⟩ f l = wkD nodes (l'.toNat + 1) x f l := by
  obtain ⟨⟨k1, g1⟩, k2, g2⟩ := h.kid hi rfl
  simp only at k1 g1
  rw [hx] at g1
  rw [wkD, if_neg (by simp), if_pos hb, ← Option.some.inj g1]
  exact wk_fuel h _ _ _ _ _ _ k1 (by omega) hx
theorem wk_more {nodes : List Tre.Nod} (h : Down nodes) {k : Nat} {a b l' m f l : Int} (hi : nodes[k]? = some ⟨false, a, b, l', m⟩) (hb : ¬ l < b) (hf : b ≤ f) {x : Tre.Nod} (hx : nodes[m.toNat]? = some x) : wkD nodes (k + 1) ⟨false, a, b, l', m⟩ f l = wkD nodes (m.toNat + 1) x f l := by
  obtain ⟨⟨k1, g1⟩, k2, g2⟩ := h.kid hi rfl
  simp only at k2 g2
  rw [hx] at g2
  rw [wkD, if_neg (by simp), if_neg hb, if_pos hf, ← Option.some.inj g2]
  exact wk_fuel h _ _ _ _ _ _ k2 (by omega) hx
theorem wk_both {nodes : List Tre.Nod} (h : Down nodes) {k : Nat} {a b l' m f l : Int} (hi : nodes[k]? = some ⟨false, a, b, l', m⟩) (hb : ¬ l < b) (hf : ¬ b ≤ f) {x y : Tre.Nod} (hx : nodes[l'.toNat]? = some x) (hy : nodes[m.toNat]? = some y) :
    wkD nodes (k + 1) ⟨false, a, b, l', m⟩ f l = wkD nodes (l'.toNat + 1) x f (b - 1) ++ wkD nodes (m.toNat + 1) y b l := by
  obtain ⟨⟨k1, g1⟩, k2, g2⟩ := h.kid hi rfl
  simp only at k1 k2 g1 g2
  rw [hx] at g1
  rw [hy] at g2
  rw [wkD, if_neg (by simp), if_neg hb, if_neg hf, ← Option.some.inj g1, ← Option.some.inj g2]
  rw [wk_fuel h k (l'.toNat + 1) _ _ _ _ k1 (by omega) hx, wk_fuel h k (m.toNat + 1) _ _ _ _ k2 (by omega) hy]
end Go.Proofs.YtcpmbjlhblkniaaDoor
