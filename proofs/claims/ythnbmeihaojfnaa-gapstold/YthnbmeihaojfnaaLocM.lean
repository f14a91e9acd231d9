/- What spans tell for what a clock shows (P4.3): plain mathematics. -/
import Derived.Test.YthnbmeihaojfnaaFwM
import Derived.Test.YthnbmeihaojfnaaPaA
namespace Go.Proofs.Ythnbmeihaojfnaa
set_option linter.unusedVariables false
/-- Where the next span begins, or the window ends. -/
def nextF : List Spn → Int
  | [] => 4102444800
  | y :: _ => y.frm
def shB (x : Spn) (e n : Int) : Bool := decide (x.frm + x.off ≤ n ∧ n < e + x.off)
/-- The offsets of the spans whose clocks show it. -/
def offsR (n : Int) : List Spn → List Int
  | [] => []
  | x :: r => (if shB x (nextF r) n = true then [x.off] else []) ++ offsR n r
/-- Where the first span begins that shows more. -/
def jumpR (n : Int) : List Spn → Int
  | [] => 4102444800
  | x :: r => if n < x.frm + x.off then x.frm else jumpR n r
def localJ (l : List Spn) (n : Int) : Int := if offsR n l = [] then jumpR n l else 0
def localV (l : List Spn) (n : Int) : Int × Bool × ByteArray × List Int × Int := (0, false, ⟨#[]⟩, offsR n l, localJ l n)
/-- The numbers from which on something else may be told. -/
def edgR : List Spn → List Int
  | [] => []
  | x :: r => (x.frm + x.off) :: (nextF r + x.off) :: edgR r
theorem edgR_len : ∀ l : List Spn, (edgR l).length = 2 * l.length
  | [] => rfl
  | x :: r => by simp [edgR, edgR_len r]; omega
theorem offs_const {m t : Int} : ∀ {l : List Spn}, (∀ e ∈ edgR l, e ≤ m ↔ e ≤ t) → offsR m l = offsR t l ∧ jumpR m l = jumpR t l
  | [], _ => ⟨rfl, rfl⟩
  | x :: r, h => by
    have h1 := h (x.frm + x.off) (by simp [edgR])
    have h2 := h (nextF r + x.off) (by simp [edgR])
    obtain ⟨i1, i2⟩ := offs_const (l := r) (fun e he => h e (by simp [edgR, he]))
    have e1 : shB x (nextF r) m = shB x (nextF r) t := by
      unfold shB
      rw [decide_eq_decide]
      omega
    unfold offsR jumpR
    rw [e1, i1, i2]
    refine ⟨rfl, ?_⟩
    by_cases g : m < x.frm + x.off
    · rw [if_pos g, if_pos (by omega)]
    · rw [if_neg g, if_neg (by omega)]
theorem local_const {l : List Spn} {m t : Int} (h : ∀ e ∈ edgR l, e ≤ m ↔ e ≤ t) : localV l m = localV l t := by
  obtain ⟨h1, h2⟩ := offs_const h
  unfold localV localJ
  rw [h1, h2]
theorem next_bd {l : List Spn} (hg : ∀ x ∈ l, SpnGood x) : -2208988800 ≤ nextF l ∧ nextF l ≤ 4102444800 := by
  cases l with
  | nil => exact ⟨by show (-2208988800 : Int) ≤ 4102444800; omega, Int.le_refl _⟩
  | cons y r => have := (hg y (by simp)).lo; have := (hg y (by simp)).hi; exact ⟨this |> fun _ => by simp only [nextF]; omega, by simp only [nextF]; omega⟩
theorem edg_lo : ∀ {l : List Spn}, (∀ x ∈ l, SpnGood x) → ∀ e ∈ edgR l, -2209161600 ≤ e ∧ e ≤ 4102617600
  | [], _, e, he => by simp [edgR] at he
  | x :: r, hg, e, he => by
    have g := hg x (by simp)
    have g1 := g.lo
    have g2 := g.hi
    have g3 := g.olo
    have g4 := g.ohi
    have gn := next_bd (l := r) (fun y hy => hg y (by simp [hy]))
    simp only [edgR, List.mem_cons] at he
    rcases he with rfl | rfl | he
    · omega
    · omega
    · exact edg_lo (l := r) (fun y hy => hg y (by simp [hy])) e he
theorem offs_mem {n : Int} : ∀ {l : List Spn} {z : Int}, z ∈ offsR n l → ∃ x ∈ l, x.off = z
  | [], z, h => by simp [offsR] at h
  | x :: r, z, h => by
    unfold offsR at h
    rcases List.mem_append.1 h with h | h
    · split at h
      · exact ⟨x, by simp, (List.mem_singleton.1 h).symm⟩
      · simp at h
    · obtain ⟨y, hy, e⟩ := offs_mem h
      exact ⟨y, by simp [hy], e⟩
theorem jump_bd {n : Int} : ∀ {l : List Spn}, (∀ x ∈ l, SpnGood x) → -2208988800 ≤ jumpR n l ∧ jumpR n l ≤ 4102444800
  | [], _ => ⟨by show (-2208988800 : Int) ≤ 4102444800; omega, Int.le_refl _⟩
  | x :: r, hg => by
    unfold jumpR
    split
    · have := (hg x (by simp)).lo; have := (hg x (by simp)).hi; omega
    · exact jump_bd (fun y hy => hg y (by simp [hy]))
theorem local_fault {l : List Spn} (hg : ∀ x ∈ l, SpnGood x) {n : Int} (h6 : (offsR n l).length ≤ 6) : Tre.ansF 0 (localJ l n) (offsR n l) 0 = 0 := by
  have hj : -1099511627776 ≤ localJ l n ∧ localJ l n ≤ 1099511627776 := by
    unfold localJ
    split
    · have := jump_bd (n := n) hg; omega
    · omega
  have ho : (offsR n l).all Tre.okOff = true := by
    rw [List.all_eq_true]
    intro z hz
    obtain ⟨x, hx, rfl⟩ := offs_mem hz
    have g := hg x hx
    exact Tre.inB_t g.olo g.ohi
  unfold Tre.ansF
  rw [if_pos ⟨by decide, hj.1, hj.2⟩, if_pos ho, if_neg (by omega)]
/-- What a list of rising numbers has that is not behind t (or its first). -/
theorem lastE_law (t : Int) : ∀ (es : List Int) (d : Int), es.Pairwise (· < ·) → (∀ e ∈ es, d < e) → ∃ m, lastG d (es.map fun e => (e, e)) t = m ∧ (m = d ∨ m ∈ es ∧ m ≤ t) ∧ ∀ e ∈ es, e ≤ t → e ≤ m
  | [], d, _, _ => ⟨d, rfl, Or.inl rfl, fun e h => by simp at h⟩
  | x :: r, d, h, hd => by
    obtain ⟨h1, h2⟩ := List.pairwise_cons.1 h
    rw [List.map_cons, lastG_cons]
    by_cases g : x ≤ t
    · rw [if_pos g]
      obtain ⟨m, e1, e2, e3⟩ := lastE_law t r x h2 h1
      refine ⟨m, e1, Or.inr ?_, fun e he ht => ?_⟩
      · rcases e2 with rfl | ⟨e2, e4⟩
        · exact ⟨by simp, g⟩
        · exact ⟨by simp [e2], e4⟩
      · rcases List.mem_cons.1 he with rfl | he
        · rcases e2 with rfl | ⟨e2, _⟩
          · exact Int.le_refl _
          · have := h1 m e2; omega
        · exact e3 e he ht
    · rw [if_neg g]
      have hb : ∀ q ∈ r.map (fun e => (e, e)), t < q.1 := fun q hq => by
        obtain ⟨e, he, rfl⟩ := List.mem_map.1 hq
        have := h1 e he
        show t < e
        omega
      refine ⟨d, lastG_behind d hb, Or.inl rfl, fun e he ht => ?_⟩
      rcases List.mem_cons.1 he with rfl | he
      · omega
      · have := h1 e he; omega
/-- Edges: rising; all that spans have, and one ahead of these. -/
structure Edg (l : List Spn) (es : List Int) : Prop where
  rise : es.Pairwise (· < ·)
  head : ∃ r, es = -2209161601 :: r
  mem : ∀ e, e ∈ es ↔ e = -2209161601 ∨ e ∈ edgR l
theorem Edg.tell {l : List Spn} {es : List Int} (h : Edg l es) (hg : ∀ x ∈ l, SpnGood x) (t : Int) : ∃ m ∈ es, lastA (es.map fun e => (e, e)) t = m ∧ localV l m = localV l t := by
  obtain ⟨r, e⟩ := h.head
  have hr := h.rise
  rw [e] at hr
  obtain ⟨h1, h2⟩ := List.pairwise_cons.1 hr
  obtain ⟨m, e1, e2, e3⟩ := lastE_law t r (-2209161601) h2 h1
  have hmm : m ∈ es := by
    rw [e]
    rcases e2 with rfl | ⟨h, _⟩
    · simp
    · simp [h]
  refine ⟨m, hmm, by rw [e]; exact e1, local_const fun x hx => ?_⟩
  have hlo := (edg_lo hg x hx).1
  have hxr : x ∈ r := by
    have := (h.mem x).2 (Or.inr hx)
    rw [e] at this
    rcases List.mem_cons.1 this with g | g
    · omega
    · exact g
  constructor
  · intro g
    rcases e2 with rfl | ⟨_, e4⟩
    · omega
    · omega
  · intro g; exact e3 x hxr g
/-- What is told for parts, a part an edge. -/
structure InvSay (l : List Spn) (es : List Int) (ns : List Ans) (qs : List (Int × Int)) : Prop where
  says : Says (fun e i => ∃ y, ns[i]? = some y ∧ y.val = localV l e) (es.map fun e => (e, e)) qs
  all : ∀ y ∈ ns, ∃ e ∈ es, y.val = localV l e ∧ (offsR e l).length ≤ 6
theorem InvSay.start (l : List Spn) : InvSay l [] [] [] := ⟨⟨rfl, fun j p h => by simp at h⟩, fun y h => by simp at h⟩
theorem InvSay.snoc {l : List Spn} {es : List Int} {ns ns' : List Ans} {qs : List (Int × Int)} {e : Int} {k : Nat} {a y : Ans} (h : InvSay l es ns qs) (hn : ns' = ns ∨ ns' = ns ++ [a]) (ha : a.val = localV l e) (h6 : (offsR e l).length ≤ 6) (hk : ns'[k]? = some y) (hy : y.val = a.val) : InvSay l (es ++ [e]) ns' (qs ++ [(e, (k : Int))]) := by
  have hpre : ∀ i z, ns[i]? = some z → ns'[i]? = some z := fun i z hi => by
    rcases hn with rfl | rfl
    · exact hi
    · rw [List.getElem?_append_left (List.getElem?_eq_some_iff.1 hi).1]; exact hi
  refine ⟨?_, fun z hz => ?_⟩
  · rw [List.map_append]
    exact (h.says.mono fun n i ⟨z, h1, h2⟩ => ⟨z, hpre i z h1, h2⟩).app (Says.one ⟨y, hk, hy.trans ha⟩)
  · have hor : z ∈ ns ∨ z = a := by
      rcases hn with rfl | rfl
      · exact Or.inl hz
      · rcases List.mem_append.1 hz with g | g
        · exact Or.inl g
        · exact Or.inr (List.mem_singleton.1 g)
    rcases hor with g | rfl
    · obtain ⟨x, hx, h1, h2⟩ := h.all z g
      exact ⟨x, List.mem_append_left _ hx, h1, h2⟩
    · exact ⟨e, by simp, ha, h6⟩
theorem InvSay.rise {l : List Spn} {es : List Int} {ns : List Ans} {qs : List (Int × Int)} (h : InvSay l es ns qs) (he : es.Pairwise (· < ·)) : qs.Pairwise (fun a b => a.1 < b.1) := by
  refine h.says.rise ?_
  rw [List.pairwise_map]
  exact he.imp fun h => h
theorem InvSay.tell {l : List Spn} {es : List Int} {ns : List Ans} {qs : List (Int × Int)} (h : InvSay l es ns qs) (hE : Edg l es) (hg : ∀ x ∈ l, SpnGood x) (t : Int) : ∃ (i : Nat) (y : Ans), lastA qs t = i ∧ ns[i]? = some y ∧ y.val = localV l t := by
  obtain ⟨m, _, e1, e2⟩ := hE.tell hg t
  obtain ⟨r, e⟩ := hE.head
  obtain ⟨i, h1, y, h2, h3⟩ := h.says.tell (by rw [e]; simp) t
  rw [e1] at h3
  exact ⟨i, y, h1, h2, h3.trans e2⟩
/-- The tree may be, and tells. -/
theorem inv_good {l : List Spn} {es : List Int} {ns ys : List Ans} {nodes : List Tre.Nod} {qs : List (Int × Int)} {na aa : Option Addr} {ncap acap : Nat} (hE : Edg l es) (hg : ∀ x ∈ l, SpnGood x) (hl : es.length ≤ 2001) (hS : InvSay l es ns qs) (hn : ns.length ≤ 2000)
    (hG : Grew ns.length [] nodes (nodes.length - 1) (compact qs).length (compact qs)) (h0 : 0 < nodes.length) (hy : ys.map Ans.val = ns.map Ans.val) :
    forF ⟨na, ncap, nodes, aa, acap, ys⟩ = 0 ∧ ∀ t, ∃ y, ys[evalI ⟨na, ncap, nodes, aa, acap, ys⟩ t]? = some y ∧ y.val = localV l t := by
  have hlen : ys.length = ns.length := by have := congrArg List.length hy; simpa using this
  have hcl := compact_len qs
  have hnl := hG.len
  simp at hnl
  have hql : qs.length = es.length := by have := hS.says.len; simpa using this
  obtain ⟨er, ee⟩ := hE.head
  have hqn : qs ≠ [] := fun e => by rw [e, ee] at hql; simp at hql
  have hRise : Rise qs := by
    have := hS.rise hE.rise
    cases qs with
    | nil => exact absurd rfl hqn
    | cons q r => exact ⟨(List.pairwise_cons.1 this).2⟩
  constructor
  · refine forF_0 (by show nodes.length ≠ 0; omega) (by show ¬ (8000 < nodes.length ∨ 2000 < ys.length); omega) (fun i hi => ?_) (fun i hi => ?_)
    · obtain ⟨y, hyi⟩ : ∃ y, ys[i]? = some y := ⟨_, List.getElem?_eq_getElem hi⟩
      rw [ansE_at hyi]
      have hm : y.val ∈ ns.map Ans.val := by rw [← hy]; exact List.mem_map_of_mem (List.mem_of_getElem? hyi)
      obtain ⟨z, hz, hzv⟩ := List.mem_map.1 hm
      obtain ⟨e, he, hv, h6⟩ := hS.all z hz
      rw [hv] at hzv
      simp only [Ans.val, localV, Prod.mk.injEq] at hzv
      obtain ⟨e1, e2, e3, e4, e5⟩ := hzv
      unfold Ans.fault
      rw [← e1, ← e3, ← e4, ← e5]
      exact local_fault hg h6
    · obtain ⟨nd, hnd⟩ : ∃ y, nodes[i]? = some y := ⟨_, List.getElem?_eq_getElem hi⟩
      rw [nodE_at hnd]
      have := hG.ng.node i nd hnd
      show Tre.nodF nd i (ys.length : Int) = 0
      rw [hlen]; exact this
  · intro t
    obtain ⟨k, y, hk, hky, hyv⟩ := hS.tell hE hg t
    have h1 := hG.tells t
    rw [half_compact hqn hRise t (Nat.le_refl _), hk, show nodes.length - 1 + 1 = nodes.length by omega] at h1
    have he : evalI ⟨na, ncap, nodes, aa, acap, ys⟩ t = k := by unfold evalI; simp only; rw [h1]; rfl
    rw [he]
    have hkl : k < ys.length := by rw [hlen]; exact (List.getElem?_eq_some_iff.1 hky).1
    refine ⟨ys[k], List.getElem?_eq_getElem hkl, ?_⟩
    have h2 : (ys.map Ans.val)[k]? = some (ys[k].val) := by simp [List.getElem?_eq_getElem hkl]
    rw [hy] at h2
    simp [hky] at h2
    rw [← h2]; exact hyv
/-- Spans that end further ahead, or begin further behind, show nothing. -/
theorem offs_drop {n : Int} : ∀ {l : List Spn} (k : Nat), (∀ x ∈ l, SpnGood x) → (∀ i, i < k → i < l.length → nextF (l.drop (i + 1)) ≤ n - 172800) → l.Pairwise (fun a b => a.frm < b.frm) → offsR n l = offsR n (l.drop k) ∧ (k ≤ l.length → jumpR n l = jumpR n (l.drop k))
  | [], k, _, _, _ => by simp [offsR]
  | x :: r, 0, _, _, _ => ⟨rfl, fun _ => rfl⟩
  | x :: r, k + 1, hg, h, hp => by
    have g := hg x (by simp)
    have g3 := g.olo
    have g4 := g.ohi
    have h0 := h 0 (by omega) (by simp)
    simp only [List.drop_succ_cons, List.drop_zero, Nat.zero_add] at h0
    obtain ⟨p1, p2⟩ := List.pairwise_cons.1 hp
    have hxn : x.frm ≤ nextF r := by
      cases r with
      | nil => have := g.hi; show x.frm ≤ 4102444800; omega
      | cons y r => have := p1 y (by simp); show x.frm ≤ y.frm; omega
    obtain ⟨i1, i2⟩ := offs_drop (l := r) (n := n) k (fun y hy => hg y (by simp [hy])) (fun i hi hl => by
      have := h (i + 1) (by omega) (by simp; omega)
      simpa using this) p2
    have hs : shB x (nextF r) n = false := by unfold shB; rw [decide_eq_false_iff_not]; omega
    constructor
    · rw [List.drop_succ_cons, ← i1, offsR, hs]; simp
    · intro hk
      rw [List.drop_succ_cons, ← i2 (by simpa using hk), jumpR, if_neg (by omega)]
end Go.Proofs.Ythnbmeihaojfnaa
