/- Trees that are the same are one: plain mathematics. -/
import Derived.Test.YthlahmabcbbhjaaOptM
namespace Go.Proofs.Ythlahmabcbbhjaa
set_option linter.unusedVariables false
/-- Which nodes the root leads to, bs far bs the ones behind a number say. -/
structure AskK (nodes : List Tre.Nod) (bs : List Bool) (k : Nat) : Prop where
  len : bs.length = nodes.length
  root : bs[nodes.length - 1]? = some true
  kids : ∀ j nd, k ≤ j → bs[j]? = some true → nodes[j]? = some nd → nd.leaf = false → bs[nd.less.toNat]? = some true ∧ bs[nd.more.toNat]? = some true
  par : ∀ i, bs[i]? = some true → i = nodes.length - 1 ∨ ∃ j nd, i < j ∧ k ≤ j ∧ bs[j]? = some true ∧ nodes[j]? = some nd ∧ nd.leaf = false ∧ (nd.less.toNat = i ∨ nd.more.toNat = i)
theorem set_true {bs : List Bool} {i j : Nat} (h : bs[j]? = some true) : (bs.set i true)[j]? = some true := by
  rw [List.getElem?_set]
  split
  · rename_i e
    have := (List.getElem?_eq_some_iff.1 h).1
    rw [if_pos (by omega)]
  · exact h
theorem set_at {bs : List Bool} {i : Nat} (h : i < bs.length) : (bs.set i true)[i]? = some true := by
  rw [List.getElem?_set_self h]
theorem set_inv {bs : List Bool} {i j : Nat} (h : (bs.set i true)[j]? = some true) : bs[j]? = some true ∨ j = i := by
  by_cases e : i = j
  · exact Or.inr e.symm
  · rw [List.getElem?_set_ne e] at h; exact Or.inl h
theorem AskK.skip {nodes : List Tre.Nod} {bs : List Bool} {k : Nat} (h : AskK nodes bs (k + 1)) {nd : Tre.Nod} (hn : nodes[k]? = some nd) (hs : bs[k]? = some false ∨ nd.leaf = true) : AskK nodes bs k :=
  ⟨h.len, h.root, fun j x hj ha hx hl => by
    rcases Nat.lt_or_ge k j with g | g
    · exact h.kids j x g ha hx hl
    · have e : j = k := by omega
      subst e
      rw [hn] at hx
      cases hx
      rcases hs with g | g
      · rw [g] at ha; exact absurd ha (by simp)
      · rw [g] at hl; exact absurd hl (by simp), fun i hi => by
    rcases h.par i hi with g | ⟨j, x, g1, g2, g3⟩
    · exact Or.inl g
    · exact Or.inr ⟨j, x, g1, by omega, g3⟩⟩
theorem AskK.step {nodes : List Tre.Nod} {bs : List Bool} {k : Nat} (h : AskK nodes bs (k + 1)) (hD : Down nodes) {nd : Tre.Nod} (hn : nodes[k]? = some nd) (ha : bs[k]? = some true) (hl : nd.leaf = false) : AskK nodes ((bs.set nd.less.toNat true).set nd.more.toNat true) k := by
  obtain ⟨⟨k1, g1⟩, k2, g2⟩ := hD.kid hn hl
  have hz := h.len
  have hk := (List.getElem?_eq_some_iff.1 hn).1
  refine ⟨by simp [h.len], set_true (set_true h.root), fun j x hj hja hx hxl => ?_, fun i hi => ?_⟩
  · rcases Nat.lt_or_ge k j with g | g
    · have hja2 : bs[j]? = some true := by
        rcases set_inv hja with u | u
        · rcases set_inv u with v | v
          · exact v
          · omega
        · omega
      obtain ⟨u, v⟩ := h.kids j x g hja2 hx hxl
      exact ⟨set_true (set_true u), set_true (set_true v)⟩
    · have e : j = k := by omega
      subst e
      rw [hn] at hx
      cases hx
      exact ⟨set_true (set_at (by omega)), set_at (by simp; omega)⟩
  · have hor : bs[i]? = some true ∨ i = nd.less.toNat ∨ i = nd.more.toNat := by
      rcases set_inv hi with u | u
      · rcases set_inv u with v | v
        · exact Or.inl v
        · exact Or.inr (Or.inl v)
      · exact Or.inr (Or.inr u)
    rcases hor with u | u | u
    · rcases h.par i u with g | ⟨j, x, q1, q2, q3, q4⟩
      · exact Or.inl g
      · exact Or.inr ⟨j, x, q1, by omega, set_true (set_true q3), q4⟩
    · exact Or.inr ⟨k, nd, by omega, Nat.le_refl _, set_true (set_true ha), hn, hl, Or.inl u.symm⟩
    · exact Or.inr ⟨k, nd, by omega, Nat.le_refl _, set_true (set_true ha), hn, hl, Or.inr u.symm⟩
theorem AskK.start {nodes : List Tre.Nod} (h : 0 < nodes.length) : AskK nodes ((List.replicate nodes.length false).set (nodes.length - 1) true) nodes.length :=
  ⟨by simp, set_at (by simp; omega), fun j nd hj ha _ _ => by
    have := (List.getElem?_eq_some_iff.1 ha).1
    simp at this
    exact absurd hj (by omega), fun i hi => by
    rcases set_inv hi with u | u
    · have := List.mem_of_getElem? u
      simp at this
    · exact Or.inl u⟩
/-- A node whose trees have been laid elsewhere. -/
def ren (zs : List Int) (nd : Tre.Nod) : Tre.Nod := if nd.leaf = true then nd else ⟨false, nd.ans, nd.bound, (zs[nd.less.toNat]?).getD 0, (zs[nd.more.toNat]?).getD 0⟩
structure Shr (nodes : List Tre.Nod) (bs : List Bool) (many : Int) (k : Nat) (zs : List Int) (ns : List Tre.Nod) : Prop where
  ng : NG ns many
  at_ : ∀ i, i < k → bs[i]? = some true → ∃ (p : Nat) (nd : Tre.Nod), nodes[i]? = some nd ∧ zs[i]? = some (p : Int) ∧ ns[p]? = some (ren zs nd)
  all : ∀ p, p < ns.length → ∃ i, i < k ∧ bs[i]? = some true ∧ zs[i]? = some (p : Int)
  len : ns.length ≤ k
  zl : zs.length = nodes.length
theorem Shr.start {nodes : List Tre.Nod} {bs : List Bool} {many : Int} : Shr nodes bs many 0 (List.replicate nodes.length 0) [] :=
  ⟨⟨fun i nd h => by simp at h⟩, fun i h => by omega, fun p h => by simp at h, by simp, by simp⟩
theorem Shr.skip {nodes : List Tre.Nod} {bs : List Bool} {many : Int} {k : Nat} {zs : List Int} {ns : List Tre.Nod} (h : Shr nodes bs many k zs ns) (ha : bs[k]? ≠ some true) : Shr nodes bs many (k + 1) zs ns :=
  ⟨h.ng, fun i hi hia => by
    rcases Nat.lt_or_ge i k with g | g
    · exact h.at_ i g hia
    · have e : i = k := by omega
      subst e
      exact absurd hia ha, fun p hp => by
    obtain ⟨i, h1, h2⟩ := h.all p hp
    exact ⟨i, by omega, h2⟩, by have := h.len; omega, h.zl⟩
theorem ren_set {nodes : List Tre.Nod} (hD : Down nodes) {zs : List Int} {i k : Nat} {nd : Tre.Nod} (hi : nodes[i]? = some nd) (hik : i ≤ k) (v : Int) : ren (zs.set k v) nd = ren zs nd := by
  unfold ren
  by_cases hl : nd.leaf = true
  · rw [if_pos hl, if_pos hl]
  · have hl' : nd.leaf = false := by simpa using hl
    obtain ⟨⟨k1, _⟩, k2, _⟩ := hD.kid hi hl'
    rw [if_neg hl, if_neg hl, List.getElem?_set_ne (by omega), List.getElem?_set_ne (by omega)]
/-- A node that is to be laid may be. -/
theorem Shr.fits {nodes : List Tre.Nod} {bs : List Bool} {many : Int} {k : Nat} {zs : List Int} {ns : List Tre.Nod} (h : Shr nodes bs many k zs ns) (hA : AskK nodes bs 0) (hN : NG nodes many) {nd : Tre.Nod} (hk : nodes[k]? = some nd) (ha : bs[k]? = some true) :
    Tre.nodF (ren zs nd) ns.length many = 0 ∧ (nd.leaf = false → ∃ p q : Nat, zs[nd.less.toNat]? = some (p : Int) ∧ zs[nd.more.toNat]? = some (q : Int) ∧ p < ns.length ∧ q < ns.length ∧ ren zs nd = ⟨false, nd.ans, nd.bound, p, q⟩) := by
  by_cases hl : nd.leaf = true
  · refine ⟨?_, fun h => by rw [hl] at h; cases h⟩
    have := hN.node k nd hk
    unfold ren
    rw [if_pos hl]
    obtain ⟨leaf, a, b, l, m⟩ := nd
    simp only at hl
    subst hl
    exact this
  · have hl' : nd.leaf = false := by simpa using hl
    obtain ⟨⟨k1, _⟩, k2, _⟩ := hN.down.kid hk hl'
    obtain ⟨a1, a2⟩ := hA.kids k nd (Nat.zero_le _) ha hk hl'
    obtain ⟨p, x, _, p2, p3⟩ := h.at_ _ k1 a1
    obtain ⟨q, y, _, q2, q3⟩ := h.at_ _ k2 a2
    have lp := (List.getElem?_eq_some_iff.1 p3).1
    have lq := (List.getElem?_eq_some_iff.1 q3).1
    have e : ren zs nd = ⟨false, nd.ans, nd.bound, p, q⟩ := by unfold ren; rw [if_neg hl, p2, q2]; rfl
    refine ⟨?_, fun _ => ⟨p, q, p2, q2, lp, lq, e⟩⟩
    rw [e]
    obtain ⟨leaf, a, b, l, m⟩ := nd
    simp only at hl'
    subst hl'
    have h0 := (hN.inner hk).1
    subst h0
    exact Tre.nodF_n0 (Tre.inB_t (by omega) (by omega)) (Tre.inB_t (by omega) (by omega))
theorem Shr.step {nodes : List Tre.Nod} {bs : List Bool} {many : Int} {k : Nat} {zs : List Int} {ns ns' : List Tre.Nod} (h : Shr nodes bs many k zs ns) (hA : AskK nodes bs 0) (hN : NG nodes many) {nd : Tre.Nod} (hk : nodes[k]? = some nd) (ha : bs[k]? = some true) {p : Nat} (hp : ns'[p]? = some (ren zs nd)) (hn : ns' = ns ∨ ns' = ns ++ [ren zs nd]) (hd : ns'.Nodup) : Shr nodes bs many (k + 1) (zs.set k p) ns' := by
  obtain ⟨g1, g2, g3⟩ := placed h.ng (h.fits hA hN hk ha).1 hn
  have hkl := (List.getElem?_eq_some_iff.1 hk).1
  have hzl := h.zl
  refine ⟨g1, fun i hi hia => ?_, fun q hq => ?_, by have := h.len; omega, by simp [h.zl]⟩
  · rcases Nat.lt_or_ge i k with g | g
    · obtain ⟨r, x, e1, e2, e3⟩ := h.at_ i g hia
      exact ⟨r, x, e1, by rw [List.getElem?_set_ne (by omega)]; exact e2, by rw [ren_set hN.down e1 (by omega)]; exact g2 _ _ e3⟩
    · have e : i = k := by omega
      subst e
      exact ⟨p, nd, hk, by rw [List.getElem?_set_self (by omega)], by rw [ren_set hN.down hk (Nat.le_refl _)]; exact hp⟩
  · rcases Nat.lt_or_ge q ns.length with g | g
    · obtain ⟨i, h1, h2, h3⟩ := h.all q g
      exact ⟨i, by omega, h2, by rw [List.getElem?_set_ne (by omega)]; exact h3⟩
    · rcases hn with rfl | rfl
      · omega
      · have hq' : q = ns.length := by simp at hq; omega
        have hpq : p = q := by
          have e1 : (ns ++ [ren zs nd])[q]? = some (ren zs nd) := by rw [hq']; simp
          exact (List.getElem?_inj (List.getElem?_eq_some_iff.1 hp).1 hd).1 (hp.trans e1.symm)
        exact ⟨k, by omega, ha, by rw [List.getElem?_set_self (by omega), hpq]⟩
theorem valN_more2 {nodes : List Tre.Nod} (hD : Down nodes) (t : Int) : ∀ (n m i : Nat), i < n → i < m → i < nodes.length → valN nodes t n i = valN nodes t m i := by
  intro n
  induction n with
  | zero => intro m i hi; omega
  | succ n ih =>
    intro m i hi hm hl
    obtain ⟨m, rfl⟩ : ∃ q, m = q + 1 := ⟨m - 1, by omega⟩
    obtain ⟨⟨leaf, a, b, l, r⟩, hx⟩ : ∃ x, nodes[i]? = some x := ⟨_, List.getElem?_eq_getElem hl⟩
    cases leaf with
    | true => rw [valN_leaf hx, valN_leaf hx]
    | false =>
      have := hD.less i _ hx rfl
      simp only at this
      by_cases ht : t < b
      · rw [valN_less hx ht, valN_less hx ht]; exact ih m _ (by omega) (by omega) (by omega)
      · rw [valN_more hx ht, valN_more hx ht]; exact ih m _ (by omega) (by omega) (by omega)
theorem Shr.val {nodes : List Tre.Nod} {bs : List Bool} {many : Int} {zs : List Int} {ns : List Tre.Nod} (h : Shr nodes bs many nodes.length zs ns) (hA : AskK nodes bs 0) (hN : NG nodes many) (t : Int) : ∀ (n i p : Nat), i < n → bs[i]? = some true → zs[i]? = some (p : Int) → valN ns t (p + 1) p = valN nodes t (i + 1) i
  | 0, i, p, hn, _, _ => by omega
  | n + 1, i, p, hn, ha, hz => by
    have hil : i < nodes.length := by have := (List.getElem?_eq_some_iff.1 ha).1; have := hA.len; omega
    obtain ⟨q, nd, e1, e2, e3⟩ := h.at_ i hil ha
    rw [hz] at e2
    have hpq : p = q := by have := Option.some.inj e2; omega
    subst hpq
    have hpl := (List.getElem?_eq_some_iff.1 e3).1
    by_cases hl : nd.leaf = true
    · have er : ren zs nd = nd := by unfold ren; rw [if_pos hl]
      rw [er] at e3
      obtain ⟨leaf, a, b, l, m⟩ := nd
      simp only at hl
      subst hl
      rw [valN_leaf e3, valN_leaf e1]
    · have hl' : nd.leaf = false := by simpa using hl
      obtain ⟨⟨k1, _⟩, k2, _⟩ := hN.down.kid e1 hl'
      obtain ⟨a1, a2⟩ := hA.kids i nd (Nat.zero_le _) ha e1 hl'
      obtain ⟨u, x, u1, u2, u3⟩ := h.at_ _ (by omega) a1
      obtain ⟨v, y, v1, v2, v3⟩ := h.at_ _ (by omega) a2
      have er : ren zs nd = ⟨false, nd.ans, nd.bound, u, v⟩ := by unfold ren; rw [if_neg hl, u2, v2]; rfl
      rw [er] at e3
      have hin := h.ng.inner e3
      have r1 := Shr.val h hA hN t n _ u (by omega) a1 u2
      have r2 := Shr.val h hA hN t n _ v (by omega) a2 v2
      obtain ⟨leaf, a, b, l, m⟩ := nd
      simp only at hl' k1 k2 r1 r2 e3
      subst hl'
      have lu := (List.getElem?_eq_some_iff.1 u3).1
      have lv := (List.getElem?_eq_some_iff.1 v3).1
      by_cases ht : t < b
      · rw [valN_less e3 ht, valN_less e1 ht]
        simp only [Int.toNat_natCast]
        rw [h.ng.fuel t p (u + 1) u (by omega) (by omega) lu, r1]
        exact valN_more2 hN.down t _ _ _ (by omega) k1 (by omega)
      · rw [valN_more e3 ht, valN_more e1 ht]
        simp only [Int.toNat_natCast]
        rw [h.ng.fuel t p (v + 1) v (by omega) (by omega) lv, r2]
        exact valN_more2 hN.down t _ _ _ (by omega) k2 (by omega)
/-- No tree is laid behind the root's. -/
theorem Shr.below {nodes : List Tre.Nod} {bs : List Bool} {many : Int} {zs : List Int} {ns : List Tre.Nod} (h : Shr nodes bs many nodes.length zs ns) (hA : AskK nodes bs 0) (hN : NG nodes many) {r : Nat} (hr : zs[nodes.length - 1]? = some (r : Int)) : ∀ (n i p : Nat), nodes.length - i ≤ n → bs[i]? = some true → zs[i]? = some (p : Int) → p ≤ r
  | 0, i, p, hn, ha, _ => by
    have := (List.getElem?_eq_some_iff.1 ha).1
    have := hA.len
    omega
  | n + 1, i, p, hn, ha, hz => by
    rcases hA.par i ha with g | ⟨j, nd, g1, _, g2, g3, g4, g5⟩
    · subst g
      rw [hz] at hr
      have := Option.some.inj hr; omega
    · have hjl := (List.getElem?_eq_some_iff.1 g3).1
      obtain ⟨q, x, e1, e2, e3⟩ := h.at_ j hjl g2
      have := Shr.below h hA hN hr n j q (by omega) g2 e2
      rw [g3] at e1
      cases e1
      have er : ren zs nd = ⟨false, nd.ans, nd.bound, (zs[nd.less.toNat]?).getD 0, (zs[nd.more.toNat]?).getD 0⟩ := by unfold ren; rw [if_neg (by simp [g4])]
      rw [er] at e3
      have hin := h.ng.inner e3
      rcases g5 with g | g
      · rw [g, hz] at hin; simp at hin; omega
      · rw [g, hz] at hin; simp at hin; omega
theorem Shr.last {nodes : List Tre.Nod} {bs : List Bool} {many : Int} {zs : List Int} {ns : List Tre.Nod} (h : Shr nodes bs many nodes.length zs ns) (hA : AskK nodes bs 0) (hN : NG nodes many) (h0 : 0 < nodes.length) : zs[nodes.length - 1]? = some ((ns.length - 1 : Nat) : Int) ∧ 0 < ns.length := by
  obtain ⟨r, nd, e1, e2, e3⟩ := h.at_ (nodes.length - 1) (by omega) hA.root
  have hrl := (List.getElem?_eq_some_iff.1 e3).1
  obtain ⟨i, h1, h2, h3⟩ := h.all (ns.length - 1) (by omega)
  have := h.below hA hN e2 (nodes.length - i) i _ (Nat.le_refl _) h2 h3
  have er : r = ns.length - 1 := by omega
  rw [er] at e2
  exact ⟨e2, by omega⟩
theorem Good.ng {f : Fst} (h : Good f) : NG f.nodes f.answers.length := ⟨h.node⟩
/-- What sharing leaves. -/
theorem Shr.same {f : Fst} (hG : Good f) {bs : List Bool} {zs : List Int} {ns : List Tre.Nod} (h : Shr f.nodes bs f.answers.length f.nodes.length zs ns) (hA : AskK f.nodes bs 0) {ys : List Ans} (hy : ys.map Ans.val = f.answers.map Ans.val) {na aa : Option Addr} {ncap acap : Nat} :
    forF ⟨na, ncap, ns, aa, acap, ys⟩ = 0 ∧ Same f ⟨na, ncap, ns, aa, acap, ys⟩ := by
  have hlen : ys.length = f.answers.length := by have := congrArg List.length hy; simpa using this
  have h1 := hG.ne
  have h2 := hG.n8
  have h3 := hG.a2
  have h4 := h.len
  obtain ⟨l1, l2⟩ := h.last hA hG.ng h1
  have hval : ∀ i : Nat, (ys[i]?).map Ans.val = (f.answers[i]?).map Ans.val := fun i => by
    rw [← List.getElem?_map, ← List.getElem?_map, hy]
  constructor
  · refine forF_0 (by show ns.length ≠ 0; omega) (by show ¬ (8000 < ns.length ∨ 2000 < ys.length); omega) (fun i hi => ?_) (fun i hi => ?_)
    · obtain ⟨y, hyi⟩ : ∃ y, ys[i]? = some y := ⟨_, List.getElem?_eq_getElem hi⟩
      rw [ansE_at hyi]
      have hv := hval i
      rw [hyi] at hv
      cases hx : f.answers[i]? with
      | none => rw [hx] at hv; simp at hv
      | some x =>
        rw [hx] at hv
        simp only [Option.map_some, Option.some.injEq] at hv
        have hg := hG.ans x (List.mem_of_getElem? hx)
        simp only [Ans.val, Prod.mk.injEq] at hv
        obtain ⟨e1, e2, e3, e4, e5⟩ := hv
        unfold Ans.fault at hg ⊢
        rw [e1, e3, e4, e5]
        exact hg
    · obtain ⟨nd, hnd⟩ : ∃ y, ns[i]? = some y := ⟨_, List.getElem?_eq_getElem hi⟩
      rw [nodE_at hnd]
      have := h.ng.node i nd hnd
      show Tre.nodF nd i (ys.length : Int) = 0
      rw [hlen]; exact this
  · refine ⟨fun t t1 t2 => ?_⟩
    have hv := h.val hA hG.ng t f.nodes.length (f.nodes.length - 1) (ns.length - 1) (by omega) hA.root l1
    rw [show ns.length - 1 + 1 = ns.length by omega, show f.nodes.length - 1 + 1 = f.nodes.length by omega] at hv
    have he : evalI ⟨na, ncap, ns, aa, acap, ys⟩ t = evalI f t := by unfold evalI; simp only; rw [hv]
    obtain ⟨x, hx⟩ : ∃ x, f.answers[evalI f t]? = some x := ⟨_, List.getElem?_eq_getElem (hG.evalI_lt t).1⟩
    have hv := hval (evalI f t)
    rw [hx] at hv
    cases hyi : ys[evalI f t]? with
    | none => rw [hyi] at hv; simp at hv
    | some y =>
      rw [hyi] at hv
      simp only [Option.map_some, Option.some.injEq] at hv
      exact ⟨y, x, by rw [he]; exact hyi, hx, hv⟩
end Go.Proofs.Ythlahmabcbbhjaa
