/- Trees that are grown of parts: plain mathematics. -/
import Derived.Test.YtcpmbjlhblkniaaDoorTreV
import Derived.Test.YtcpmbjlhblkniaaDoorGr
namespace Go.Proofs.YtcpmbjlhblkniaaDoor
open Go.RowKit
set_option linter.unusedVariables false
/-- Nodes that may be, one behind the other. -/
structure NG (ns : List Tre.Nod) (many : Int) : Prop where
  node : ∀ (i : Nat) nd, ns[i]? = some nd → Tre.nodF nd i many = 0
theorem NG.inner {ns : List Tre.Nod} {many : Int} (h : NG ns many) {i : Nat} {a b l m : Int} (hi : ns[i]? = some ⟨false, a, b, l, m⟩) : a = 0 ∧ 0 ≤ l ∧ l < i ∧ 0 ≤ m ∧ m < i := by
  have := h.node i _ hi
  by_cases ha : a = 0
  · subst ha
    cases hl : Tre.inB l 0 ((i : Int) - 1) with
    | false => rw [Tre.nodF_n8 hl] at this; omega
    | true =>
      cases hm : Tre.inB m 0 ((i : Int) - 1) with
      | false => rw [Tre.nodF_n8' hm] at this; omega
      | true =>
        have h1 := inB_iff.1 hl
        have h2 := inB_iff.1 hm
        omega
  · rw [Tre.nodF_n4 ha] at this; omega
theorem NG.fuel {ns : List Tre.Nod} {many : Int} (h : NG ns many) (t : Int) : ∀ (n m i : Nat), i < n → i < m → i < ns.length → valN ns t n i = valN ns t m i := by
  intro n
  induction n with
  | zero => intro m i hi; omega
  | succ n ih =>
    intro m i hi hm hl
    obtain ⟨m, rfl⟩ : ∃ q, m = q + 1 := ⟨m - 1, by omega⟩
    obtain ⟨x, hx⟩ : ∃ x, ns[i]? = some x := ⟨_, List.getElem?_eq_getElem hl⟩
    obtain ⟨leaf, a, b, l, k⟩ := x
    cases leaf with
    | true => rw [valN_leaf hx, valN_leaf hx]
    | false =>
      have := h.inner hx
      by_cases ht : t < b
      · rw [valN_less hx ht, valN_less hx ht]; exact ih _ _ (by omega) (by omega) (by omega)
      · rw [valN_more hx ht, valN_more hx ht]; exact ih _ _ (by omega) (by omega) (by omega)
/-- What a node tells stays, as nodes are laid behind. -/
theorem val_prefix {ns ns' : List Tre.Nod} {many : Int} (h : NG ns many) (hp : ∀ (i : Nat) x, ns[i]? = some x → ns'[i]? = some x) (t : Int) : ∀ (n i : Nat), i < n → i < ns.length → valN ns' t n i = valN ns t n i := by
  intro n
  induction n with
  | zero => intro i hi; omega
  | succ n ih =>
    intro i hi hl
    obtain ⟨x, hx⟩ : ∃ x, ns[i]? = some x := ⟨_, List.getElem?_eq_getElem hl⟩
    have hx' := hp i x hx
    obtain ⟨leaf, a, b, l, k⟩ := x
    cases leaf with
    | true => rw [valN_leaf hx, valN_leaf hx']
    | false =>
      have := h.inner hx
      by_cases ht : t < b
      · rw [valN_less hx ht, valN_less hx' ht]; exact ih _ (by omega) (by omega)
      · rw [valN_more hx ht, valN_more hx' ht]; exact ih _ (by omega) (by omega)
/-- The answer of parts for a number, by halves. -/
def halfA : Nat → List (Int × Int) → Int → Int
  | 0, _, _ => 0
  | n + 1, ps, t => if ps.length ≤ 1 then (ps.headD (0, 0)).2 else if t < (ps.getD (ps.length / 2) (0, 0)).1 then halfA n (ps.take (ps.length / 2)) t else halfA n (ps.drop (ps.length / 2)) t
/-- How many nodes are asked. -/
def askN (nodes : List Tre.Nod) (t : Int) : Nat → Nat → Nat
  | 0, _ => 0
  | n + 1, i =>
    match nodes[i]? with
    | none => 0
    | some nd => if nd.leaf = true then 1 else if t < nd.bound then askN nodes t n nd.less.toNat + 1 else askN nodes t n nd.more.toNat + 1
theorem askN_leaf {nodes : List Tre.Nod} {t : Int} {n i : Nat} {a b l m : Int} (h : nodes[i]? = some ⟨true, a, b, l, m⟩) : askN nodes t (n + 1) i = 1 := by simp [askN, h]
theorem askN_less {nodes : List Tre.Nod} {t : Int} {n i : Nat} {a b l m : Int} (h : nodes[i]? = some ⟨false, a, b, l, m⟩) (ht : t < b) : askN nodes t (n + 1) i = askN nodes t n l.toNat + 1 := by simp [askN, h, ht]
theorem askN_more {nodes : List Tre.Nod} {t : Int} {n i : Nat} {a b l m : Int} (h : nodes[i]? = some ⟨false, a, b, l, m⟩) (ht : ¬ t < b) : askN nodes t (n + 1) i = askN nodes t n m.toNat + 1 := by simp [askN, h, ht]
theorem NG.fuelK {ns : List Tre.Nod} {many : Int} (h : NG ns many) (t : Int) : ∀ (n m i : Nat), i < n → i < m → i < ns.length → askN ns t n i = askN ns t m i := by
  intro n
  induction n with
  | zero => intro m i hi; omega
  | succ n ih =>
    intro m i hi hm hl
    obtain ⟨m, rfl⟩ : ∃ q, m = q + 1 := ⟨m - 1, by omega⟩
    obtain ⟨⟨leaf, a, b, l, r⟩, hx⟩ : ∃ x, ns[i]? = some x := ⟨_, List.getElem?_eq_getElem hl⟩
    cases leaf with
    | true => rw [askN_leaf hx, askN_leaf hx]
    | false =>
      have := h.inner hx
      by_cases ht : t < b
      · rw [askN_less hx ht, askN_less hx ht, ih m _ (by omega) (by omega) (by omega)]
      · rw [askN_more hx ht, askN_more hx ht, ih m _ (by omega) (by omega) (by omega)]
theorem ask_prefix {ns ns' : List Tre.Nod} {many : Int} (h : NG ns many) (hp : ∀ (i : Nat) x, ns[i]? = some x → ns'[i]? = some x) (t : Int) : ∀ (n i : Nat), i < n → i < ns.length → askN ns' t n i = askN ns t n i := by
  intro n
  induction n with
  | zero => intro i hi; omega
  | succ n ih =>
    intro i hi hl
    obtain ⟨⟨leaf, a, b, l, r⟩, hx⟩ : ∃ x, ns[i]? = some x := ⟨_, List.getElem?_eq_getElem hl⟩
    have hx' := hp i _ hx
    cases leaf with
    | true => rw [askN_leaf hx, askN_leaf hx']
    | false =>
      have := h.inner hx
      by_cases ht : t < b
      · rw [askN_less hx ht, askN_less hx' ht, ih _ (by omega) (by omega)]
      · rw [askN_more hx ht, askN_more hx' ht, ih _ (by omega) (by omega)]
/-- How many nodes of a list are no leaves. -/
def inN (ns : List Tre.Nod) : Nat := ns.countP fun n => !n.leaf
/-- What growing a tree of parts leaves. -/
structure Grew (many : Int) (ns ns' : List Tre.Nod) (i n : Nat) (ps : List (Int × Int)) : Prop where
  ng : NG ns' many
  pre : ∀ (j : Nat) x, ns[j]? = some x → ns'[j]? = some x
  lt : i < ns'.length
  len : ns'.length + 1 ≤ ns.length + 2 * ps.length
  tells : ∀ t, valN ns' t (i + 1) i = halfA n ps t
  from_ : ∀ nd ∈ ns', nd ∈ ns ∨ nd.leaf = true ∨ ∃ (j : Nat) (x : Int × Int), 1 ≤ j ∧ ps[j]? = some x ∧ nd.bound = x.1
  last : ns = [] → ps.tail.Pairwise (fun a b => a.1 < b.1) → i + 1 = ns'.length
  cnt : inN ns' + 1 ≤ inN ns + ps.length
  lv : ∀ nd ∈ ns', nd ∈ ns ∨ nd.leaf = false ∨ ∃ x ∈ ps, nd.ans = x.2
  deep : ∀ (t : Int) (K : Nat), ps.length ≤ 2 ^ K → askN ns' t (i + 1) i ≤ K + 1
theorem rise_ne {ps : List (Int × Int)} (h : ps.tail.Pairwise (fun a b => a.1 < b.1)) {i j : Nat} {x y : Int × Int} (hi : 1 ≤ i) (hij : i < j) (hx : ps[i]? = some x) (hy : ps[j]? = some y) : x.1 < y.1 := by
  obtain ⟨i, rfl⟩ : ∃ q, i = q + 1 := ⟨i - 1, by omega⟩
  obtain ⟨j, rfl⟩ : ∃ q, j = q + 1 := ⟨j - 1, by omega⟩
  cases ps with
  | nil => simp at hx
  | cons p r =>
    simp at hx hy h
    obtain ⟨h1, e1⟩ := List.getElem?_eq_some_iff.1 hx
    obtain ⟨h2, e2⟩ := List.getElem?_eq_some_iff.1 hy
    have := List.pairwise_iff_getElem.1 h i j h1 h2 (by omega)
    rw [e1, e2] at this; exact this
theorem NG.snoc {ns : List Tre.Nod} {many : Int} (h : NG ns many) {nd : Tre.Nod} (h1 : Tre.nodF nd ns.length many = 0) : NG (ns ++ [nd]) many :=
  ⟨fun i x hx => by
    rcases Nat.lt_or_ge i ns.length with g | g
    · rw [List.getElem?_append_left g] at hx; exact h.node i x hx
    · rw [List.getElem?_append_right g] at hx
      have h0 : i - ns.length = 0 := by
        have := (List.getElem?_eq_some_iff.1 hx).1
        simp at this; omega
      have hi : i = ns.length := by omega
      subst hi
      simp at hx
      rw [← hx]; exact h1⟩
theorem placed {ns ns' : List Tre.Nod} {many : Int} (h : NG ns many) {nd : Tre.Nod} (h1 : Tre.nodF nd ns.length many = 0) (hn : ns' = ns ∨ ns' = ns ++ [nd]) : NG ns' many ∧ (∀ (j : Nat) x, ns[j]? = some x → ns'[j]? = some x) ∧ ns'.length ≤ ns.length + 1 := by
  rcases hn with rfl | rfl
  · exact ⟨h, fun _ _ h => h, by omega⟩
  · refine ⟨h.snoc h1, fun j x hj => ?_, by simp⟩
    rw [List.getElem?_append_left (List.getElem?_eq_some_iff.1 hj).1]; exact hj
theorem grew_leaf {many : Int} {ns ns' : List Tre.Nod} {i n : Nat} {p : Int × Int} (h : NG ns many) (h0 : 0 ≤ p.2) (h1 : p.2 < many) (hn : ns' = ns ∨ ns' = ns ++ [⟨true, p.2, 0, 0, 0⟩]) (hi : ns'[i]? = some ⟨true, p.2, 0, 0, 0⟩) : Grew many ns ns' i (n + 1) [p] := by
  obtain ⟨g1, g2, g3⟩ := placed h (Tre.nodF_l0 (Tre.inB_t h0 (by omega))) hn
  refine ⟨g1, g2, (List.getElem?_eq_some_iff.1 hi).1, by simp; omega, fun t => by rw [valN_leaf hi]; simp [halfA], fun nd hmem => ?_, fun hnil _ => ?_, ?_, fun nd hmem => ?_, fun t K _ => by rw [askN_leaf hi]; omega⟩
  · rcases hn with e | e
    · rw [e] at hmem; exact Or.inl hmem
    · rw [e] at hmem
      rcases List.mem_append.1 hmem with hmem | hmem
      · exact Or.inl hmem
      · rw [List.mem_singleton.1 hmem]; exact Or.inr (Or.inl rfl)
  · subst hnil
    have := (List.getElem?_eq_some_iff.1 hi).1
    rcases hn with rfl | rfl
    · simp at this
    · simp at this ⊢; omega
  · rcases hn with rfl | rfl
    · simp
    · simp [inN, List.countP_append]
  · rcases hn with e | e
    · rw [e] at hmem; exact Or.inl hmem
    · rw [e] at hmem
      rcases List.mem_append.1 hmem with hmem | hmem
      · exact Or.inl hmem
      · rw [List.mem_singleton.1 hmem]; exact Or.inr (Or.inr ⟨p, by simp, rfl⟩)
theorem grew_node {many : Int} {ns n1 n2 n3 : List Tre.Nod} {i j k n : Nat} {ps : List (Int × Int)} (h2 : 2 ≤ ps.length) (a : Grew many ns n1 i n (ps.take (ps.length / 2))) (b : Grew many n1 n2 j n (ps.drop (ps.length / 2)))
    (hn : n3 = n2 ∨ n3 = n2 ++ [⟨false, 0, (ps.getD (ps.length / 2) (0, 0)).1, i, j⟩]) (hk : n3[k]? = some ⟨false, 0, (ps.getD (ps.length / 2) (0, 0)).1, i, j⟩) : Grew many ns n3 k (n + 1) ps := by
  have li : i < n2.length := by
    obtain ⟨x, hx⟩ : ∃ x, n1[i]? = some x := ⟨_, List.getElem?_eq_getElem a.lt⟩
    exact (List.getElem?_eq_some_iff.1 (b.pre i x hx)).1
  have lj := b.lt
  obtain ⟨g1, g2, g3⟩ := placed b.ng (nd := ⟨false, 0, (ps.getD (ps.length / 2) (0, 0)).1, i, j⟩) (Tre.nodF_n0 (Tre.inB_t (by omega) (by omega)) (Tre.inB_t (by omega) (by omega))) hn
  have hin := g1.inner hk
  have la := a.len
  have lb := b.len
  rw [List.length_take] at la
  rw [List.length_drop] at lb
  have hfrom : ∀ nd ∈ n2, nd ∈ ns ∨ nd.leaf = true ∨ ∃ (j : Nat) (x : Int × Int), 1 ≤ j ∧ ps[j]? = some x ∧ j ≠ ps.length / 2 ∧ nd.bound = x.1 := fun nd h => by
    rcases b.from_ nd h with h | h | ⟨j, x, h1, h2, h3⟩
    · rcases a.from_ nd h with h | h | ⟨j, x, h1, h2, h3⟩
      · exact Or.inl h
      · exact Or.inr (Or.inl h)
      · have hj := (List.getElem?_eq_some_iff.1 h2).1
        rw [List.length_take] at hj
        rw [List.getElem?_take_of_lt (by omega)] at h2
        exact Or.inr (Or.inr ⟨j, x, h1, h2, by omega, h3⟩)
    · exact Or.inr (Or.inl h)
    · rw [List.getElem?_drop] at h2
      exact Or.inr (Or.inr ⟨ps.length / 2 + j, x, by omega, h2, by omega, h3⟩)
  refine ⟨g1, fun q x hq => g2 q x (b.pre q x (a.pre q x hq)), (List.getElem?_eq_some_iff.1 hk).1, ?_, fun t => ?_, fun nd h => ?_, fun h0 hR => ?_, ?_, fun nd h => ?_, fun t K hK => ?_⟩
  · have hm : min (ps.length / 2) ps.length = ps.length / 2 := by omega
    rw [hm] at la
    omega
  · have hl : ¬ ps.length ≤ 1 := by omega
    unfold halfA
    rw [if_neg hl]
    by_cases ht : t < (ps.getD (ps.length / 2) (0, 0)).1
    · rw [valN_less hk ht, if_pos ht, ← a.tells t, ← val_prefix a.ng (fun q x hq => g2 q x (b.pre q x hq)) t (i + 1) i (by omega) a.lt]
      simp only [Int.toNat_natCast]
      exact g1.fuel t _ _ _ (by omega) (by omega) (by have := (List.getElem?_eq_some_iff.1 hk).1; omega)
    · rw [valN_more hk ht, if_neg ht, ← b.tells t, ← val_prefix b.ng g2 t (j + 1) j (by omega) b.lt]
      simp only [Int.toNat_natCast]
      exact g1.fuel t _ _ _ (by omega) (by omega) (by have := (List.getElem?_eq_some_iff.1 hk).1; omega)
  · have hin2 : nd ∈ n2 ∨ nd = ⟨false, 0, (ps.getD (ps.length / 2) (0, 0)).1, i, j⟩ := by
      rcases hn with rfl | rfl
      · exact Or.inl h
      · rcases List.mem_append.1 h with h | h
        · exact Or.inl h
        · exact Or.inr (List.mem_singleton.1 h)
    rcases hin2 with h | h
    · rcases hfrom nd h with h | h | ⟨q, x, h1, h2, _, h3⟩
      · exact Or.inl h
      · exact Or.inr (Or.inl h)
      · exact Or.inr (Or.inr ⟨q, x, h1, h2, h3⟩)
    · have hq : ps.length / 2 < ps.length := by omega
      refine Or.inr (Or.inr ⟨ps.length / 2, ps[ps.length / 2], by omega, List.getElem?_eq_getElem hq, ?_⟩)
      rw [h]; simp [List.getD_eq_getElem?_getD, List.getElem?_eq_getElem hq]
  · subst h0
    have hq : ps.length / 2 < ps.length := by omega
    have hnot : (⟨false, 0, (ps.getD (ps.length / 2) (0, 0)).1, i, j⟩ : Tre.Nod) ∉ n2 := fun h => by
      rcases hfrom _ h with h | h | ⟨q, x, h1, h2, h4, h3⟩
      · simp at h
      · simp at h
      · have hmid : ps[ps.length / 2]? = some (ps[ps.length / 2]) := List.getElem?_eq_getElem hq
        simp only [List.getD_eq_getElem?_getD, hmid, Option.getD_some] at h3
        rcases Nat.lt_or_gt_of_ne h4 with g | g
        · have := rise_ne hR h1 g h2 hmid; omega
        · have := rise_ne hR (by omega) g hmid h2; omega
    rcases hn with rfl | rfl
    · exact absurd (List.mem_of_getElem? hk) hnot
    · rcases Nat.lt_or_ge k n2.length with g | g
      · rw [List.getElem?_append_left g] at hk
        exact absurd (List.mem_of_getElem? hk) hnot
      · have := (List.getElem?_eq_some_iff.1 hk).1
        simp at this ⊢; omega
  · have ca := a.cnt
    have cb := b.cnt
    rw [List.length_take] at ca
    rw [List.length_drop] at cb
    rcases hn with rfl | rfl
    · omega
    · have : inN (n2 ++ [⟨false, 0, (ps.getD (ps.length / 2) (0, 0)).1, (i : Int), (j : Int)⟩]) = inN n2 + 1 := by simp [inN, List.countP_append]
      omega
  · have hin2 : nd ∈ n2 ∨ nd.leaf = false := by
      rcases hn with rfl | rfl
      · exact Or.inl h
      · rcases List.mem_append.1 h with h | h
        · exact Or.inl h
        · rw [List.mem_singleton.1 h]; exact Or.inr rfl
    rcases hin2 with h | h
    · rcases b.lv nd h with h | h | ⟨x, hx, e⟩
      · rcases a.lv nd h with h | h | ⟨x, hx, e⟩
        · exact Or.inl h
        · exact Or.inr (Or.inl h)
        · exact Or.inr (Or.inr ⟨x, List.mem_of_mem_take hx, e⟩)
      · exact Or.inr (Or.inl h)
      · exact Or.inr (Or.inr ⟨x, List.mem_of_mem_drop hx, e⟩)
    · exact Or.inr (Or.inl h)
  · obtain ⟨K, rfl⟩ : ∃ q, K = q + 1 := ⟨K - 1, by
      cases K with
      | zero => simp at hK; omega
      | succ K => omega⟩
    have hK2 : 2 ^ (K + 1) = 2 * 2 ^ K := by rw [Nat.pow_succ]; omega
    by_cases ht : t < (ps.getD (ps.length / 2) (0, 0)).1
    · rw [askN_less hk ht]
      have := a.deep t K (by rw [List.length_take]; omega)
      rw [← ask_prefix a.ng (fun q x hq => g2 q x (b.pre q x hq)) t (i + 1) i (by omega) a.lt] at this
      simp only [Int.toNat_natCast]
      rw [g1.fuelK t k (i + 1) i (by omega) (by omega) (by have := (List.getElem?_eq_some_iff.1 hk).1; omega)]
      omega
    · rw [askN_more hk ht]
      have := b.deep t K (by rw [List.length_drop]; omega)
      rw [← ask_prefix b.ng g2 t (j + 1) j (by omega) b.lt] at this
      simp only [Int.toNat_natCast]
      rw [g1.fuelK t k (j + 1) j (by omega) (by omega) (by have := (List.getElem?_eq_some_iff.1 hk).1; omega)]
      omega
end Go.Proofs.YtcpmbjlhblkniaaDoor
