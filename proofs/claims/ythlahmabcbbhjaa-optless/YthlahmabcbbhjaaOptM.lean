/- What merging and balancing leave: plain mathematics. -/
import Derived.Test.YthlahmabcbbhjaaPaA
namespace Go.Proofs.Ythlahmabcbbhjaa
set_option linter.unusedVariables false
/-- How many nodes of a list are leaves. -/
def leN (ns : List Tre.Nod) : Nat := ns.countP fun n => n.leaf
theorem in_le (ns : List Tre.Nod) : inN ns + leN ns = ns.length := by
  induction ns with
  | nil => rfl
  | cons n ns ih =>
    unfold inN leN at ih ⊢
    rw [List.countP_cons, List.countP_cons, List.length_cons]
    cases n.leaf <;> simp <;> omega
theorem NG.leaf0 {ns : List Tre.Nod} {many : Int} (h : NG ns many) {nd : Tre.Nod} (hm : nd ∈ ns) (hl : nd.leaf = true) : nd = ⟨true, nd.ans, 0, 0, 0⟩ := by
  obtain ⟨i, hi⟩ := List.getElem?_of_mem hm
  have := h.node i _ hi
  obtain ⟨leaf, a, b, l, m⟩ := nd
  simp only at hl
  subst hl
  cases hb : Tre.inB a 0 (many - 1) with
  | false => rw [Tre.nodF_l2 hb] at this; omega
  | true =>
    by_cases h4 : b = 0 ∧ l = 0 ∧ m = 0
    · obtain ⟨rfl, rfl, rfl⟩ := h4; rfl
    · rw [Tre.nodF_l4 hb h4] at this; omega
theorem leaves_le {ns fs : List Tre.Nod} {many : Int} (h : NG ns many) (hd : ns.Nodup) (R : Int → Int → Prop) (hR : ∀ a b n, R a n → R b n → a = b) (hx : ∀ nd ∈ ns, nd.leaf = true → ∃ m ∈ fs, m.leaf = true ∧ R nd.ans m.ans) : leN ns ≤ leN fs := by
  have hx' : ∀ nd : Tre.Nod, ∃ n : Int, nd ∈ ns → nd.leaf = true → R nd.ans n ∧ ∃ m ∈ fs, m.leaf = true ∧ m.ans = n := fun nd => by
    by_cases h1 : nd ∈ ns ∧ nd.leaf = true
    · obtain ⟨m, h2, h3, h4⟩ := hx nd h1.1 h1.2
      exact ⟨m.ans, fun _ _ => ⟨h4, m, h2, h3, rfl⟩⟩
    · exact ⟨0, fun a b => absurd ⟨a, b⟩ h1⟩
  have hg : ∀ nd, nd ∈ ns → nd.leaf = true → R nd.ans (Classical.choose (hx' nd)) ∧ ∃ m ∈ fs, m.leaf = true ∧ m.ans = Classical.choose (hx' nd) := fun nd => Classical.choose_spec (hx' nd)
  have := nodup_le _ ((ns.filter fun n => n.leaf).map fun nd => Classical.choose (hx' nd)) ((fs.filter fun n => n.leaf).map fun n => n.ans) (Nat.le_refl _) (by
    rw [List.nodup_iff_pairwise_ne, List.pairwise_map]
    refine List.Pairwise.imp_of_mem ?_ (List.nodup_iff_pairwise_ne.1 (hd.sublist (List.filter_sublist (p := fun n : Tre.Nod => n.leaf))))
    intro a b ha hb hne he
    obtain ⟨ha1, ha2⟩ := List.mem_filter.1 ha
    obtain ⟨hb1, hb2⟩ := List.mem_filter.1 hb
    have e1 := (hg a ha1 ha2).1
    have e2 := (hg b hb1 hb2).1
    rw [← he] at e2
    have e3 := hR _ _ _ e1 e2
    apply hne
    rw [h.leaf0 ha1 ha2, h.leaf0 hb1 hb2, e3]) (fun x hx => by
    obtain ⟨nd, h1, rfl⟩ := List.mem_map.1 hx
    obtain ⟨h2, h3⟩ := List.mem_filter.1 h1
    obtain ⟨m, h4, h5, h6⟩ := (hg nd h2 h3).2
    exact List.mem_map.2 ⟨m, List.mem_filter.2 ⟨h4, by simpa using h5⟩, h6⟩)
  rw [List.length_map, List.length_map] at this
  unfold leN
  rw [List.countP_eq_length_filter, List.countP_eq_length_filter]
  exact this
/-- Where a compacted part begins, another answer is told than ahead of it. -/
theorem comp_jump : ∀ (ps : List (Int × Int)) (d : Int), ps.Pairwise (fun a b => a.1 < b.1) → ∀ q ∈ comp d ps, lastG d (comp d ps) (q.1 - 1) ≠ lastG d (comp d ps) q.1
  | [], d, _, q, hq => by simp [comp] at hq
  | p :: ps, d, h, q, hq => by
    obtain ⟨h1, h2⟩ := List.pairwise_cons.1 h
    by_cases hp : p.2 = d
    · have e : comp d (p :: ps) = comp d ps := by rw [comp, if_pos hp]
      rw [e] at hq ⊢
      exact comp_jump ps d h2 q hq
    · have e : comp d (p :: ps) = p :: comp p.2 ps := by rw [comp, if_neg hp]
      rw [e] at hq ⊢
      have hb : ∀ x ∈ comp p.2 ps, p.1 < x.1 := fun x hx => h1 x ((comp_sub p.2 ps).subset hx)
      rw [lastG_cons, lastG_cons]
      rcases List.mem_cons.1 hq with rfl | hq
      · rw [if_neg (by omega), if_pos (Int.le_refl _), lastG_behind d (fun x hx => by have := hb x hx; omega), lastG_behind q.2 hb]
        exact fun e => hp e.symm
      · have := hb q hq
        rw [if_pos (by omega), if_pos (by omega)]
        exact comp_jump ps p.2 h2 q hq
theorem compact_jump {ps : List (Int × Int)} (h : Rise ps) {q : Int × Int} (hq : q ∈ (compact ps).tail) : lastA ps (q.1 - 1) ≠ lastA ps q.1 := by
  rw [← compact_last h, ← compact_last h]
  cases ps with
  | nil => simp [compact] at hq
  | cons p r => exact comp_jump r p.2 h.tail q hq
theorem rise_tells {ps : List (Int × Int)} (h : ps.Pairwise (fun a b => a.1 < b.1)) : ∀ {q : Int × Int}, q ∈ ps → ∀ d, lastG d ps q.1 = q.2 := by
  induction ps with
  | nil => intro q hq; simp at hq
  | cons p r ih =>
    intro q hq d
    obtain ⟨h1, h2⟩ := List.pairwise_cons.1 h
    rw [lastG_cons]
    rcases List.mem_cons.1 hq with rfl | hq
    · rw [if_pos (Int.le_refl _)]; exact lastG_behind _ h1
    · exact ih h2 hq _
theorem rise_tellsA {ps : List (Int × Int)} (h : ps.Pairwise (fun a b => a.1 < b.1)) {q : Int × Int} (hq : q ∈ ps) : lastA ps q.1 = q.2 := by
  have := rise_tells h hq 0
  cases ps with
  | nil => simp at hq
  | cons p r =>
    rw [lastG_cons] at this
    have hp : p.1 ≤ q.1 := by
      rcases List.mem_cons.1 hq with rfl | hq
      · exact Int.le_refl _
      · have := (List.pairwise_cons.1 h).1 q hq; omega
    rw [if_pos hp] at this
    exact this
/-- Where another answer is told than ahead, there is a node that asks. -/
theorem val_jump {nodes : List Tre.Nod} (h : Down nodes) (t : Int) : ∀ (n i : Nat) (nd : Tre.Nod), i < n → nodes[i]? = some nd → valD nodes (t - 1) n nd ≠ valD nodes t n nd → ∃ x ∈ nodes, x.leaf = false ∧ x.bound = t
  | 0, i, nd, hn, _, _ => by omega
  | n + 1, i, nd, hn, hi, hne => by
    by_cases hl : nd.leaf = true
    · unfold valD at hne; rw [if_pos hl, if_pos hl] at hne; exact absurd rfl hne
    · have hl' : nd.leaf = false := by simpa using hl
      obtain ⟨⟨k1, g1⟩, k2, g2⟩ := h.kid hi hl'
      unfold valD at hne
      rw [if_neg hl, if_neg hl] at hne
      by_cases hb : t < nd.bound
      · rw [if_pos (by omega), if_pos hb] at hne
        exact val_jump h t n _ _ (by omega) g1 hne
      · by_cases hb2 : t - 1 < nd.bound
        · exact ⟨nd, List.mem_of_getElem? hi, hl', by omega⟩
        · rw [if_neg hb2, if_neg hb] at hne
          exact val_jump h t n _ _ (by omega) g2 hne
theorem val_leaf {nodes : List Tre.Nod} (h : Down nodes) (t : Int) : ∀ (n i : Nat) (nd : Tre.Nod), i < n → nodes[i]? = some nd → ∃ x ∈ nodes, x.leaf = true ∧ x.ans = valD nodes t n nd
  | 0, i, nd, hn, _ => by omega
  | n + 1, i, nd, hn, hi => by
    by_cases hl : nd.leaf = true
    · exact ⟨nd, List.mem_of_getElem? hi, hl, by unfold valD; rw [if_pos hl]⟩
    · have hl' : nd.leaf = false := by simpa using hl
      obtain ⟨⟨k1, g1⟩, k2, g2⟩ := h.kid hi hl'
      unfold valD
      rw [if_neg hl]
      by_cases hb : t < nd.bound
      · rw [if_pos hb]; exact val_leaf h t n _ _ (by omega) g1
      · rw [if_neg hb]; exact val_leaf h t n _ _ (by omega) g2
theorem Good.root {f : Fst} (h : Good f) : ∃ root, f.nodes[f.nodes.length - 1]? = some root := ⟨_, List.getElem?_eq_getElem (by have := h.ne; omega)⟩
theorem Good.evalD {f : Fst} (h : Good f) {root : Tre.Nod} (hr : f.nodes[f.nodes.length - 1]? = some root) (t : Int) : evalI f t = (valD f.nodes t f.nodes.length root).toNat := by
  unfold evalI; rw [valD_N h.down t _ _ _ hr]
/-- Two forests tell the same. -/
structure Same (f g : Fst) : Prop where
  same : ∀ t, minI ≤ t → t ≤ maxI → ∃ y x, g.answers[evalI g t]? = some y ∧ f.answers[evalI f t]? = some x ∧ y.val = x.val
/-- What growing a forest anew leaves. -/
structure Grown2 (f : Fst) (qs : List (Int × Int)) (ns : List Ans) (S : Int → Nat → Prop) (nodes : List Tre.Nod) : Prop where
  good : Good f
  says : ∃ root, f.nodes[f.nodes.length - 1]? = some root ∧ Says S (wkD f.nodes f.nodes.length root minI maxI) qs
  say : ∀ n i, S n i → ∃ x y, f.answers[n.toNat]? = some x ∧ ns[i]? = some y ∧ y.val = x.val
  fromf : ∀ y ∈ ns, ∃ x ∈ f.answers, y.val = x.val
  few : ns.length ≤ f.answers.length
  grew : Grew ns.length [] nodes (nodes.length - 1) (compact qs).length (compact qs)
  ne : 0 < nodes.length
  nodup : nodes.Nodup
theorem minmax : minI ≤ maxI := by unfold minI maxI; omega
theorem Grown2.wk {f : Fst} {qs : List (Int × Int)} {ns : List Ans} {S : Int → Nat → Prop} {nodes : List Tre.Nod} (h : Grown2 f qs ns S nodes) : ∃ root, f.nodes[f.nodes.length - 1]? = some root ∧ Says S (wkD f.nodes f.nodes.length root minI maxI) qs ∧ Wk f.nodes f.nodes.length root minI maxI (wkD f.nodes f.nodes.length root minI maxI) := by
  obtain ⟨root, hr, hs⟩ := h.says
  exact ⟨root, hr, hs, wk_all h.good.down _ _ _ _ _ (by have := h.good.ne; omega) hr minmax⟩
theorem Says.tail {S : Int → Nat → Prop} {ps qs : List (Int × Int)} (h : Says S ps qs) {q : Int × Int} (hq : q ∈ qs.tail) : ∃ p ∈ ps.tail, p.1 = q.1 := by
  obtain ⟨j, hj⟩ := List.getElem?_of_mem hq
  rw [List.getElem?_tail] at hj
  have hl := h.len
  have := (List.getElem?_eq_some_iff.1 hj).1
  obtain ⟨i, h1, _⟩ := h.at_ (j + 1) _ (List.getElem?_eq_getElem (by omega))
  rw [hj] at h1
  cases h1
  exact ⟨ps[j + 1]'(by omega), List.mem_of_getElem? (i := j) (by rw [List.getElem?_tail]; exact List.getElem?_eq_getElem (by omega)), rfl⟩
theorem Says.mem {S : Int → Nat → Prop} {ps qs : List (Int × Int)} (h : Says S ps qs) {q : Int × Int} (hq : q ∈ qs) : ∃ p ∈ ps, ∃ i : Nat, q = (p.1, (i : Int)) ∧ S p.2 i := by
  obtain ⟨j, hj⟩ := List.getElem?_of_mem hq
  have hl := h.len
  have := (List.getElem?_eq_some_iff.1 hj).1
  obtain ⟨i, h1, h2⟩ := h.at_ j _ (List.getElem?_eq_getElem (by omega))
  rw [hj] at h1
  cases h1
  exact ⟨_, List.getElem_mem _, i, rfl, h2⟩
theorem compact_subset {ps : List (Int × Int)} {q : Int × Int} (h : q ∈ compact ps) : q ∈ ps := by
  cases ps with
  | nil => exact h
  | cons p r =>
    rcases List.mem_cons.1 h with rfl | h
    · simp
    · exact List.mem_cons_of_mem _ ((comp_sub p.2 r).subset h)
theorem compact_tail {ps : List (Int × Int)} {q : Int × Int} (h : q ∈ (compact ps).tail) : q ∈ ps.tail := by
  cases ps with
  | nil => exact h
  | cons p r => exact (comp_sub p.2 r).subset h
theorem Grown2.rise {f : Fst} {qs : List (Int × Int)} {ns : List Ans} {S : Int → Nat → Prop} {nodes : List Tre.Nod} (h : Grown2 f qs ns S nodes) : qs.Pairwise (fun a b => a.1 < b.1) ∧ Rise qs ∧ qs ≠ [] := by
  obtain ⟨root, hr, hs, hw⟩ := h.wk
  have := hs.rise hw.rise
  obtain ⟨q, r, e, _⟩ := hw.head
  have hl := hs.len
  rw [e] at hl
  cases qs with
  | nil => simp at hl
  | cons q r => exact ⟨this, ⟨(List.pairwise_cons.1 this).2⟩, by simp⟩
theorem Grown2.tells {f : Fst} {qs : List (Int × Int)} {ns : List Ans} {S : Int → Nat → Prop} {nodes : List Tre.Nod} (h : Grown2 f qs ns S nodes) (t : Int) : valN nodes t nodes.length (nodes.length - 1) = lastA qs t := by
  have h1 := h.grew.tells t
  have := h.ne
  rw [half_compact h.rise.2.2 h.rise.2.1 t (Nat.le_refl _), show nodes.length - 1 + 1 = nodes.length by omega] at h1
  exact h1
theorem Grown2.told {f : Fst} {qs : List (Int × Int)} {ns : List Ans} {S : Int → Nat → Prop} {nodes : List Tre.Nod} (h : Grown2 f qs ns S nodes) {t : Int} (h1 : minI ≤ t) (h2 : t ≤ maxI) : ∃ (i : Nat) (x y : Ans), lastA qs t = i ∧ f.answers[evalI f t]? = some x ∧ ns[i]? = some y ∧ y.val = x.val := by
  obtain ⟨root, hr, hs, hw⟩ := h.wk
  obtain ⟨q, r, e, _⟩ := hw.head
  obtain ⟨i, e1, e2⟩ := hs.tell (by rw [e]; simp) t
  rw [hw.tells t h1 h2] at e2
  obtain ⟨x, y, hx, hy, hv⟩ := h.say _ _ e2
  exact ⟨i, x, y, e1, by rw [h.good.evalD hr]; exact hx, hy, hv⟩
/-- As few nodes as any forest that tells the same has. -/
theorem Grown2.least {f : Fst} {qs : List (Int × Int)} {ns : List Ans} {S : Int → Nat → Prop} {nodes : List Tre.Nod} (h : Grown2 f qs ns S nodes) (hn : (ns.map Ans.val).Nodup) {g : Fst} (hg : Good g) (hs : Same f g) : nodes.length ≤ g.nodes.length := by
  obtain ⟨hp, hr, hne⟩ := h.rise
  obtain ⟨root, hro⟩ := hg.root
  obtain ⟨froot, hfr, hsay, hw⟩ := h.wk
  have hvals : ∀ (i j : Nat) (y z : Ans), ns[i]? = some y → ns[j]? = some z → y.val = z.val → i = j := fun i j y z hy hz e => by
    have h1 : (ns.map Ans.val)[i]? = some y.val := by simp [hy]
    have h2 : (ns.map Ans.val)[j]? = some y.val := by simp [hz, e]
    have l1 := (List.getElem?_eq_some_iff.1 h1).1
    exact (List.getElem?_inj l1 hn).1 (h1.trans h2.symm)
  have hlo : ∀ q ∈ qs, minI ≤ q.1 ∧ q.1 ≤ maxI := fun q hq => by
    obtain ⟨p, hp, i, rfl, _⟩ := hsay.mem hq
    exact hw.lo p hp
  have hin : inN nodes ≤ inN g.nodes := by
    have hc := h.grew.cnt
    have := nodup_le _ ((compact qs).tail.map fun q => q.1) ((g.nodes.filter fun n => !n.leaf).map fun n => n.bound) (Nat.le_refl _) (by
      rw [List.nodup_iff_pairwise_ne, List.pairwise_map]
      exact (compact_rise hr).tail.imp fun h => by omega) (fun x hx => by
      obtain ⟨q, hq, rfl⟩ := List.mem_map.1 hx
      have hj := compact_jump hr hq
      have hqt := compact_tail hq
      have hq2 : minI < q.1 := by
        cases qs with
        | nil => simp at hqt
        | cons p r =>
          have := (List.pairwise_cons.1 hp).1 q hqt
          have := hlo p (by simp)
          omega
      have hq3 := hlo q (List.mem_of_mem_tail hqt)
      obtain ⟨i, x, y, e1, e2, e3, e4⟩ := h.told (t := q.1 - 1) (by omega) (by omega)
      obtain ⟨i', x', y', e1', e2', e3', e4'⟩ := h.told (t := q.1) (by omega) (by omega)
      obtain ⟨u, v, s1, s2, s3⟩ := hs.same (q.1 - 1) (by omega) (by omega)
      obtain ⟨u', v', s1', s2', s3'⟩ := hs.same q.1 (by omega) (by omega)
      rw [e2] at s2
      rw [e2'] at s2'
      cases s2
      cases s2'
      obtain ⟨nd, k1, k2, k3⟩ := val_jump hg.down q.1 g.nodes.length _ root (by have := hg.ne; omega) hro (fun e => by
        have ee : evalI g (q.1 - 1) = evalI g q.1 := by rw [hg.evalD hro, hg.evalD hro, e]
        rw [ee, s1'] at s1
        cases s1
        apply hj
        rw [e1, e1', hvals i i' y y' e3 e3' (by rw [e4, e4', ← s3, ← s3'])])
      exact List.mem_map.2 ⟨nd, List.mem_filter.2 ⟨k1, by simp [k2]⟩, k3⟩)
    rw [List.length_map, List.length_map, List.length_tail] at this
    have e : inN g.nodes = (g.nodes.filter fun n => !n.leaf).length := by unfold inN; rw [List.countP_eq_length_filter]
    have z : inN ([] : List Tre.Nod) = 0 := rfl
    omega
  have hle : leN nodes ≤ leN g.nodes := by
    refine leaves_le h.grew.ng h.nodup (fun a n => ∃ x y, g.answers[n.toNat]? = some x ∧ ns[a.toNat]? = some y ∧ y.val = x.val ∧ 0 ≤ a) ?_ ?_
    · rintro a b n ⟨x, y, h1, h2, h3, h4⟩ ⟨x', y', k1, k2, k3, k4⟩
      rw [h1] at k1
      cases k1
      have := hvals _ _ _ _ h2 k2 (h3.trans k3.symm)
      omega
    · intro nd hnd hl
      rcases h.grew.lv nd hnd with k | k | ⟨q, hq, e⟩
      · simp at k
      · rw [hl] at k; cases k
      · have hqs := compact_subset hq
        have hq3 := hlo q hqs
        obtain ⟨i, x, y, e1, e2, e3, e4⟩ := h.told (t := q.1) hq3.1 hq3.2
        obtain ⟨u, v, s1, s2, s3⟩ := hs.same q.1 hq3.1 hq3.2
        rw [e2] at s2
        cases s2
        obtain ⟨m, m1, m2, m3⟩ := val_leaf hg.down q.1 g.nodes.length _ root (by have := hg.ne; omega) hro
        rw [rise_tellsA hp hqs, ← e] at e1
        refine ⟨m, m1, m2, u, y, ?_, by rw [e1]; exact e3, e4.trans s3.symm, by omega⟩
        rw [m3, ← hg.evalD hro]; exact s1
  have := in_le nodes
  have := in_le g.nodes
  omega
/-- No more nodes than there were, where each answer stands for itself. -/
theorem Grown2.fewer {f : Fst} {qs : List (Int × Int)} {ns : List Ans} {S : Int → Nat → Prop} {nodes : List Tre.Nod} (h : Grown2 f qs ns S nodes) (hS : ∀ n i, S n i → n = i) : nodes.length ≤ f.nodes.length := by
  obtain ⟨hp, hr, hne⟩ := h.rise
  obtain ⟨froot, hfr, hsay, hw⟩ := h.wk
  have hin : inN nodes ≤ inN f.nodes := by
    have hc := h.grew.cnt
    have h1 := compact_len qs
    have h2 := hw.len
    rw [← hsay.len, List.length_map] at h2
    have e : inN f.nodes = (f.nodes.filter fun n => !n.leaf).length := by unfold inN; rw [List.countP_eq_length_filter]
    have z : inN ([] : List Tre.Nod) = 0 := rfl
    omega
  have hle : leN nodes ≤ leN f.nodes := by
    refine leaves_le h.grew.ng h.nodup (fun a n => a = n) (fun a b n h1 h2 => h1.trans h2.symm) ?_
    intro nd hnd hl
    rcases h.grew.lv nd hnd with k | k | ⟨q, hq, e⟩
    · simp at k
    · rw [hl] at k; cases k
    · obtain ⟨p, hp, i, rfl, hi⟩ := hsay.mem (compact_subset hq)
      obtain ⟨m, m1, m2, m3⟩ := hw.ans p hp
      exact ⟨m, m1, m2, by rw [e, m3]; exact (hS _ _ hi).symm⟩
  have := in_le nodes
  have := in_le f.nodes
  omega
/-- What is asked for a number at most. -/
theorem Grown2.deep {f : Fst} {qs : List (Int × Int)} {ns : List Ans} {S : Int → Nat → Prop} {nodes : List Tre.Nod} (h : Grown2 f qs ns S nodes) (bs : List Int) (hb : ∀ nd ∈ f.nodes, nd.leaf = false → nd.bound ∈ bs) (K : Nat) (hK : bs.length + 1 ≤ 2 ^ K) (t : Int) : askN nodes t nodes.length (nodes.length - 1) ≤ K + 1 := by
  obtain ⟨froot, hfr, hsay, hw⟩ := h.wk
  obtain ⟨hp, hr, hne⟩ := h.rise
  have := nodup_le _ (qs.tail.map fun q => q.1) bs (Nat.le_refl _) (by
    rw [List.nodup_iff_pairwise_ne, List.pairwise_map]
    exact hr.tail.imp fun h => by omega) (fun x hx => by
    obtain ⟨q, hq, rfl⟩ := List.mem_map.1 hx
    obtain ⟨p, hp, e⟩ := hsay.tail hq
    obtain ⟨nd, k1, k2, k3⟩ := hw.from_ p hp
    rw [← e, ← k3]
    exact hb nd k1 k2)
  rw [List.length_map, List.length_tail] at this
  have h1 := compact_len qs
  have h2 := h.grew.deep t K (by omega)
  have := h.ne
  rwa [show nodes.length - 1 + 1 = nodes.length by omega] at h2
/-- The forest that is grown may be, and tells the same. -/
theorem Grown2.same {f : Fst} {qs : List (Int × Int)} {ns ys : List Ans} {S : Int → Nat → Prop} {nodes : List Tre.Nod} (h : Grown2 f qs ns S nodes) (h8 : nodes.length ≤ f.nodes.length ∨ nodes.length ≤ 8000) (hy : ys.map Ans.val = ns.map Ans.val) {na aa : Option Addr} {ncap acap : Nat} :
    forF ⟨na, ncap, nodes, aa, acap, ys⟩ = 0 ∧ Same f ⟨na, ncap, nodes, aa, acap, ys⟩ := by
  have hlen : ys.length = ns.length := by have := congrArg List.length hy; simpa using this
  have h1 := h.ne
  have h2 := h.good.n8
  have h3 := h.good.a2
  have h4 := h.few
  constructor
  · refine forF_0 (by show nodes.length ≠ 0; omega) (by show ¬ (8000 < nodes.length ∨ 2000 < ys.length); omega) (fun i hi => ?_) (fun i hi => ?_)
    · obtain ⟨y, hyi⟩ : ∃ y, ys[i]? = some y := ⟨_, List.getElem?_eq_getElem hi⟩
      rw [ansE_at hyi]
      have hm : y.val ∈ ns.map Ans.val := by rw [← hy]; exact List.mem_map_of_mem (List.mem_of_getElem? hyi)
      obtain ⟨z, hz, hzv⟩ := List.mem_map.1 hm
      obtain ⟨x, hx, hxv⟩ := h.fromf z hz
      have hg := h.good.ans x hx
      rw [hxv] at hzv
      simp only [Ans.val, Prod.mk.injEq] at hzv
      obtain ⟨e1, e2, e3, e4, e5⟩ := hzv
      unfold Ans.fault at hg ⊢
      rw [← e1, ← e3, ← e4, ← e5]
      exact hg
    · obtain ⟨nd, hnd⟩ : ∃ y, nodes[i]? = some y := ⟨_, List.getElem?_eq_getElem hi⟩
      rw [nodE_at hnd]
      have := h.grew.ng.node i nd hnd
      show Tre.nodF nd i (ys.length : Int) = 0
      rw [hlen]; exact this
  · refine ⟨fun t t1 t2 => ?_⟩
    obtain ⟨i, x, y, e1, e2, e3, e4⟩ := h.told t1 t2
    have he : evalI ⟨na, ncap, nodes, aa, acap, ys⟩ t = i := by unfold evalI; simp only; rw [h.tells, e1]; rfl
    have hv : (ys.map Ans.val)[i]? = some y.val := by rw [hy]; simp [e3]
    rw [List.getElem?_map] at hv
    cases hyi : ys[i]? with
    | none => rw [hyi] at hv; simp at hv
    | some z =>
      rw [hyi] at hv
      simp at hv
      exact ⟨z, x, by rw [he]; exact hyi, e2, hv.trans e4⟩
theorem Same.refl {f : Fst} (h : Good f) : Same f f := ⟨fun t _ _ => by
  obtain ⟨x, hx⟩ : ∃ x, f.answers[evalI f t]? = some x := ⟨_, List.getElem?_eq_getElem (h.evalI_lt t).1⟩
  exact ⟨x, x, hx, hx, rfl⟩⟩
/-- What a forest is that was made less: merged, shared, balanced. -/
structure Made (m s b : Bool) (f g : Fst) (w w' : World) : Prop where
  ok : FstOk w' g
  good : forF g = 0
  same : Same f g
  gr : Gr w w'
  twins : m = true → (g.answers.map Ans.val).Nodup
  least : m = true → ∀ g2, Good g2 → Same f g2 → g.nodes.length ≤ g2.nodes.length
  nodup : (m || s || b) = true → g.nodes.Nodup
  deep : (m || b) = true → ∀ (bs : List Int), (∀ nd ∈ f.nodes, nd.leaf = false → nd.bound ∈ bs) → ∀ K, bs.length + 1 ≤ 2 ^ K → ∀ t, askN g.nodes t g.nodes.length (g.nodes.length - 1) ≤ K + 1
theorem Gr.wl {low : Nat} {w1 w w' : World} (h : Gr w1 w) (g : Wl low w w') (h1 : w1.heap.size ≤ low) : Gr w1 w' :=
  ⟨g.os.trans h.os, g.out.trans h.out, Nat.le_trans h.size g.size, fun b hb => (g.block b (by omega)).trans (h.block b hb)⟩
end Go.Proofs.Ythlahmabcbbhjaa
