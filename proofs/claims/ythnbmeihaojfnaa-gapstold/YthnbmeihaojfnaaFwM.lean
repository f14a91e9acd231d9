/- The clock of spans at an instant, and parts that tell it: plain mathematics. -/
import Derived.Test.YthnbmeihaojfnaaHalM
import Derived.Test.YthnbmeihaojfnaaSpnM
import Derived.Test.YthnbmeihaojfnaaAnsV
namespace Go.Proofs.Ythnbmeihaojfnaa
set_option linter.unusedVariables false
/-- What the last one not behind a number says, else the one at hand. -/
def lastV {α : Type} (d : α) (l : List (Int × α)) (t : Int) : α := l.foldl (fun d q => if q.1 ≤ t then q.2 else d) d
theorem lastV_map {α β : Type} (f : α → β) (t : Int) : ∀ (l : List (Int × α)) (d : α), f (lastV d l t) = lastV (f d) (l.map fun q => (q.1, f q.2)) t
  | [], d => rfl
  | q :: l, d => by
    show f (lastV (if q.1 ≤ t then q.2 else d) l t) = lastV (if q.1 ≤ t then f q.2 else f d) (l.map fun q => (q.1, f q.2)) t
    rw [lastV_map f t l]
    congr 1
    split <;> rfl
theorem lastV_snoc {α : Type} (d : α) (l : List (Int × α)) (q : Int × α) (t : Int) : lastV d (l ++ [q]) t = if q.1 ≤ t then q.2 else lastV d l t := by simp [lastV, List.foldl_append]
theorem lastG_V (d : Int) (l : List (Int × Int)) (t : Int) : lastG d l t = lastV d l t := rfl
/-- The clock that a span tells. -/
def Spn.clk (x : Spn) : Int × Bool × ByteArray := (x.off, x.sv, x.nm)
def clk0 : Int × Bool × ByteArray := (0, false, ⟨#[]⟩)
/-- The clock of spans at an instant. -/
def spanV : List Spn → Int → Int × Bool × ByteArray
  | [], _ => clk0
  | x :: r, t => lastV x.clk (r.map fun y => (y.frm, y.clk)) t
theorem spans_rise {l : List Spn} (h : spnsF l = 0) {i : Nat} {x y : Spn} (hx : l[i]? = some x) (hy : l[i + 1]? = some y) : x.frm < y.frm := by
  have h0 : l.length ≠ 0 := fun e => by rw [spnsF_6 e] at h; omega
  have h1 : ¬ 1000 < l.length := fun e => by rw [spnsF_1 h0 e] at h; omega
  rw [spnsF, if_neg h0, if_neg h1] at h
  have := Tre.fstE_none h (i + 1) (List.getElem?_eq_some_iff.1 hy).1
  rw [spnE_at hy] at this
  have hp : prevF l (i + 1) = x.frm := by simp [prevF, hx]
  rw [hp] at this
  obtain ⟨f, o, s, n⟩ := y
  by_cases a : 24 < n.size
  · rw [spnF_1 a] at this; omega
  by_cases b : Tre.inB f (-2208988800) 4102444799 = true ∧ Tre.okOff o = true
  · by_cases c : (i + 1 = 0 ∧ f ≠ -2208988800) ∨ (0 < i + 1 ∧ f ≤ x.frm)
    · rw [spnF_8 a b c] at this; omega
    · simp only; omega
  · rw [spnF_2 a b] at this; omega
structure SpnGood (x : Spn) : Prop where
  nm : x.nm.size ≤ 24
  lo : -2208988800 ≤ x.frm
  hi : x.frm ≤ 4102444799
  olo : -172800 ≤ x.off
  ohi : x.off ≤ 172800
theorem spans_good {l : List Spn} (h : spnsF l = 0) : 0 < l.length ∧ l.length ≤ 1000 ∧ (∀ x ∈ l, SpnGood x) ∧ ∀ x, l[0]? = some x → x.frm = -2208988800 := by
  have h0 : l.length ≠ 0 := fun e => by rw [spnsF_6 e] at h; omega
  have h1 : ¬ 1000 < l.length := fun e => by rw [spnsF_1 h0 e] at h; omega
  rw [spnsF, if_neg h0, if_neg h1] at h
  have key : ∀ i x, l[i]? = some x → SpnGood x ∧ (i = 0 → x.frm = -2208988800) := fun i x hx => by
    have := Tre.fstE_none h i (List.getElem?_eq_some_iff.1 hx).1
    rw [spnE_at hx] at this
    obtain ⟨f, o, s, n⟩ := x
    by_cases a : 24 < n.size
    · rw [spnF_1 a] at this; omega
    by_cases b : Tre.inB f (-2208988800) 4102444799 = true ∧ Tre.okOff o = true
    · by_cases c : (i = 0 ∧ f ≠ -2208988800) ∨ (0 < i ∧ f ≤ prevF l i)
      · rw [spnF_8 a b c] at this; omega
      · have b1 := inB_iff.1 b.1
        have b2 := inB_iff.1 b.2
        exact ⟨⟨by simp only; omega, b1.1, b1.2, b2.1, b2.2⟩, fun e => by simp only; omega⟩
    · rw [spnF_2 a b] at this; omega
  refine ⟨by omega, by omega, fun x hx => ?_, fun x hx => (key 0 x hx).2 rfl⟩
  obtain ⟨i, hi⟩ := List.getElem?_of_mem hx
  exact (key i x hi).1
theorem spans_sorted {l : List Spn} (h : spnsF l = 0) : ∀ (n i : Nat) (x y : Spn), l[i]? = some x → l[i + n + 1]? = some y → x.frm < y.frm
  | 0, i, x, y, hx, hy => spans_rise h hx hy
  | n + 1, i, x, y, hx, hy => by
    have hlt := (List.getElem?_eq_some_iff.1 hy).1
    obtain ⟨z, hz⟩ : ∃ z, l[i + n + 1]? = some z := ⟨_, List.getElem?_eq_getElem (by omega)⟩
    have h1 := spans_sorted h n i x z hx hz
    have h2 := spans_rise h hz (show l[i + n + 1 + 1]? = some y from hy)
    omega
/-- Parts that say for each span where its answer lies. -/
structure PartsSay (l : List Spn) (ns : List Ans) (qs : List (Int × Int)) : Prop where
  say : ∀ (i : Nat) q, qs[i]? = some q → ∃ (x : Spn) (k : Nat) (y : Ans), l[i]? = some x ∧ q.1 = x.frm ∧ q.2 = k ∧ ns[k]? = some y ∧ y.val = (x.off, x.sv, x.nm, [], 0)
  all : ∀ y ∈ ns, ∃ x ∈ l, y.val = (x.off, x.sv, x.nm, [], 0)
theorem PartsSay.more {l : List Spn} {ns ns' : List Ans} {qs : List (Int × Int)} (h : PartsSay l ns qs) (hn : ns' = ns ∨ ∃ a, ns' = ns ++ [a] ∧ ∃ x ∈ l, a.val = (x.off, x.sv, x.nm, [], 0)) : PartsSay l ns' qs := by
  refine ⟨fun i q hq => ?_, fun y hy => ?_⟩
  rotate_left
  · rcases hn with rfl | ⟨a, rfl, ha⟩
    · exact h.all y hy
    · rcases List.mem_append.1 hy with g | g
      · exact h.all y g
      · rw [List.mem_singleton.1 g]; exact ha
  ·
    obtain ⟨x, k, y, h1, h2, h3, h4, h5⟩ := h.say i q hq
    refine ⟨x, k, y, h1, h2, h3, ?_, h5⟩
    rcases hn with rfl | ⟨a, rfl, _⟩
    · exact h4
    · rw [List.getElem?_append_left (List.getElem?_eq_some_iff.1 h4).1]; exact h4
theorem PartsSay.snoc {l : List Spn} {ns : List Ans} {qs : List (Int × Int)} (h : PartsSay l ns qs) {x : Spn} {k : Nat} {y : Ans} (hx : l[qs.length]? = some x) (hk : ns[k]? = some y) (hv : y.val = (x.off, x.sv, x.nm, [], 0)) : PartsSay l ns (qs ++ [(x.frm, (k : Int))]) :=
  ⟨fun i q hq => by
    rcases Nat.lt_or_ge i qs.length with g | g
    · rw [List.getElem?_append_left g] at hq; exact h.say i q hq
    · rw [List.getElem?_append_right g] at hq
      have h0 : i - qs.length = 0 := by
        have := (List.getElem?_eq_some_iff.1 hq).1
        simp at this; omega
      have hi : i = qs.length := by omega
      subst hi
      simp at hq
      subst hq
      exact ⟨x, k, y, hx, rfl, rfl, hk, hv⟩, h.all⟩
theorem PartsSay.rise {l : List Spn} {ns : List Ans} {qs : List (Int × Int)} (h : PartsSay l ns qs) (hl : spnsF l = 0) : Rise qs := by
  refine ⟨?_⟩
  rw [List.pairwise_iff_getElem]
  intro i j hi hj hij
  simp only [List.length_tail] at hi hj
  have e1 : qs[i + 1]? = some qs.tail[i] := by rw [List.getElem_tail]; exact List.getElem?_eq_getElem (by omega)
  have e2 : qs[j + 1]? = some qs.tail[j] := by rw [List.getElem_tail]; exact List.getElem?_eq_getElem (by omega)
  obtain ⟨x, _, _, hx, hx1, _⟩ := h.say _ _ e1
  obtain ⟨y, _, _, hy, hy1, _⟩ := h.say _ _ e2
  rw [hx1, hy1]
  exact spans_sorted hl (j - i - 1) (i + 1) x y hx (by rw [show i + 1 + (j - i - 1) + 1 = j + 1 by omega]; exact hy)
/-- What the parts tell is what the spans tell. -/
theorem PartsSay.tell {l : List Spn} {ns : List Ans} {qs : List (Int × Int)} (h : PartsSay l ns qs) (hq : qs.length = l.length) (h0 : 0 < l.length) (t : Int) :
    ∃ (k : Nat) (y : Ans), lastA qs t = k ∧ ns[k]? = some y ∧ y.val = ((spanV l t).1, (spanV l t).2.1, (spanV l t).2.2, [], 0) := by
  have key : ∀ (r : List (Int × Int)) (s : List Spn), r.length = s.length → (∀ (i : Nat) q, r[i]? = some q → ∃ (x : Spn) (k : Nat) (y : Ans), s[i]? = some x ∧ q.1 = x.frm ∧ q.2 = k ∧ ns[k]? = some y ∧ y.val = (x.off, x.sv, x.nm, [], 0)) →
      ∀ (d : Int) (c : Int × Bool × ByteArray), (∃ (k : Nat) (y : Ans), d = k ∧ ns[k]? = some y ∧ y.val = (c.1, c.2.1, c.2.2, [], 0)) → ∃ (k : Nat) (y : Ans), lastG d r t = k ∧ ns[k]? = some y ∧ y.val = ((lastV c (s.map fun y => (y.frm, y.clk)) t).1, (lastV c (s.map fun y => (y.frm, y.clk)) t).2.1, (lastV c (s.map fun y => (y.frm, y.clk)) t).2.2, [], 0) := by
    intro r
    induction r with
    | nil =>
      intro s hs _ d c hd
      cases s with
      | nil => exact hd
      | cons _ _ => simp at hs
    | cons q r ih =>
      intro s hs hsay d c hd
      cases s with
      | nil => simp at hs
      | cons x s =>
        obtain ⟨x', k, y, e1, e2, e3, e4, e5⟩ := hsay 0 q rfl
        simp at e1
        subst e1
        have := ih s (by simpa using hs) (fun i q hi => hsay (i + 1) q hi) (if q.1 ≤ t then q.2 else d) (if x.frm ≤ t then x.clk else c) (by
          rw [e2]
          by_cases g : x.frm ≤ t
          · rw [if_pos g, if_pos g]; exact ⟨k, y, e3, e4, e5⟩
          · rw [if_neg g, if_neg g]; exact hd)
        exact this
  cases qs with
  | nil => simp at hq; omega
  | cons q r =>
    cases l with
    | nil => simp at h0
    | cons x s =>
      obtain ⟨x', k, y, e1, e2, e3, e4, e5⟩ := h.say 0 q rfl
      simp at e1
      subst e1
      exact key r s (by simpa using hq) (fun i q hi => h.say (i + 1) q hi) q.2 x.clk ⟨k, y, e3, e4, e5⟩
theorem ansF_clk {off : Int} {nm : Nat} (h1 : -172800 ≤ off) (h2 : off ≤ 172800) (h3 : nm ≤ 24) : Tre.ansF off 0 [] nm = 0 := by
  unfold Tre.ansF
  rw [if_pos ⟨Tre.inB_t h1 h2, by omega, by omega⟩, if_pos (by rfl), if_neg (by simp; omega)]
theorem fwd_good {l : List Spn} {ns ys : List Ans} {nodes : List Tre.Nod} {qs : List (Int × Int)} {na aa : Option Addr} {ncap acap : Nat} (h0 : spnsF l = 0) (hS : PartsSay l ns qs) (hq : qs.length = l.length) (hn : ns.length ≤ l.length)
    (hG : Grew ns.length [] nodes (nodes.length - 1) (compact qs).length (compact qs)) (hl : 0 < nodes.length) (hy : ys.map Ans.val = ns.map Ans.val) :
    forF ⟨na, ncap, nodes, aa, acap, ys⟩ = 0 ∧ ∀ t, ∃ y, ys[evalI ⟨na, ncap, nodes, aa, acap, ys⟩ t]? = some y ∧ y.val = ((spanV l t).1, (spanV l t).2.1, (spanV l t).2.2, [], 0) := by
  obtain ⟨s0, s1, s2, s3⟩ := spans_good h0
  have hlen : ys.length = ns.length := by have := congrArg List.length hy; simpa using this
  have hcl := compact_len qs
  have hnl := hG.len
  simp at hnl
  have hqn : qs ≠ [] := fun e => by rw [e] at hq; simp at hq; omega
  constructor
  · refine forF_0 (by show nodes.length ≠ 0; omega) (by show ¬ (8000 < nodes.length ∨ 2000 < ys.length); omega) (fun i hi => ?_) (fun i hi => ?_)
    · obtain ⟨y, hyi⟩ : ∃ y, ys[i]? = some y := ⟨_, List.getElem?_eq_getElem hi⟩
      rw [ansE_at hyi]
      have hm : y.val ∈ ns.map Ans.val := by rw [← hy]; exact List.mem_map_of_mem (List.mem_of_getElem? hyi)
      obtain ⟨z, hz, hzv⟩ := List.mem_map.1 hm
      obtain ⟨x, hx, hxv⟩ := hS.all z hz
      have hg := s2 x hx
      rw [hxv] at hzv
      simp only [Ans.val, Prod.mk.injEq] at hzv
      obtain ⟨e1, e2, e3, e4, e5⟩ := hzv
      unfold Ans.fault
      rw [← e1, ← e3, ← e4, ← e5]
      exact ansF_clk hg.olo hg.ohi hg.nm
    · obtain ⟨nd, hnd⟩ : ∃ y, nodes[i]? = some y := ⟨_, List.getElem?_eq_getElem hi⟩
      rw [nodE_at hnd]
      have := hG.ng.node i nd hnd
      show Tre.nodF nd i (ys.length : Int) = 0
      rw [hlen]; exact this
  · intro t
    obtain ⟨k, y, hk, hky, hyv⟩ := hS.tell hq s0 t
    have h1 := hG.tells t
    rw [half_compact hqn (hS.rise h0) t (Nat.le_refl _), hk, show nodes.length - 1 + 1 = nodes.length by omega] at h1
    have he : evalI ⟨na, ncap, nodes, aa, acap, ys⟩ t = k := by unfold evalI; simp only; rw [h1]; rfl
    rw [he]
    have hkl : k < ys.length := by rw [hlen]; exact (List.getElem?_eq_some_iff.1 hky).1
    refine ⟨ys[k], List.getElem?_eq_getElem hkl, ?_⟩
    have h2 : (ys.map Ans.val)[k]? = some (ys[k].val) := by simp [List.getElem?_eq_getElem hkl]
    rw [hy] at h2
    simp [hky] at h2
    rw [← h2]; exact hyv
end Go.Proofs.Ythnbmeihaojfnaa
