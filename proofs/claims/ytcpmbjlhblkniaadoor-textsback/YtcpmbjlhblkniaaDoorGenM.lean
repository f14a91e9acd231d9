/- Gen (P5.4) as a function: the code of a forest, written from its end on; it may be run, and tells what the forest does. Plain mathematics. -/
import Derived.Test.YtcpmbjlhblkniaaDoorRunM
import Derived.Test.YtcpmbjlhblkniaaDoorTreV
namespace Go.Proofs.YtcpmbjlhblkniaaDoor
set_option linter.unusedVariables false
namespace Gn
open Ver
/-- What is written so far: the code (the last instruction first written stands at the end), how long it was when a node had been written, the numbers. -/
structure GS where
  code : List Ins
  len : Nat → Nat
  pool : List Int
def add (s : GS) (op n : Int) : GS := ⟨⟨op, n⟩ :: s.code, s.len, s.pool⟩
def away (s : GS) (i : Nat) : Int := (s.code.length : Int) - s.len i
def updL (len : Nat → Nat) (i v : Nat) : Nat → Nat := fun j => if j = i then v else len j
def place (pool : List Int) (b : Int) : Nat := pool.idxOf b
def laid (pool : List Int) (b : Int) : List Int := if b ∈ pool then pool else pool ++ [b]
def lead (nodes : List Tre.Nod) (s : GS) (i : Nat) : GS := match nodes[i]? with
  | some nd => if nd.leaf = true then add s 6 nd.ans else add s 5 (away s i)
  | none => s
def led (nodes : List Tre.Nod) (s : GS) (i : Nat) : GS := if 0 < away s i then lead nodes s i else s
def ask (nodes : List Tre.Nod) (s : GS) (nd : Tre.Nod) : GS :=
  ⟨⟨1, 0⟩ :: ⟨2, (place s.pool nd.bound : Nat)⟩ :: ⟨3, 0⟩ :: ⟨4, away (led nodes s nd.less.toNat) nd.more.toNat⟩ :: (led nodes s nd.less.toNat).code, s.len, laid s.pool nd.bound⟩
def done (s : GS) (i : Nat) : GS := ⟨s.code, updL s.len i s.code.length, s.pool⟩
def write (nodes : List Tre.Nod) : Nat → Nat → GS → GS
  | 0, _, s => s
  | f + 1, i, s => if 0 < s.len i then s else match nodes[i]? with
    | none => s
    | some nd => done (if nd.leaf = true then add s 6 nd.ans else ask nodes (write nodes f nd.less.toNat (write nodes f nd.more.toNat s)) nd) i
theorem lead_len (nodes : List Tre.Nod) (s : GS) (i : Nat) : (lead nodes s i).len = s.len ∧ (lead nodes s i).pool = s.pool := by
  unfold lead
  split
  · split <;> exact ⟨rfl, rfl⟩
  · exact ⟨rfl, rfl⟩
theorem led_len (nodes : List Tre.Nod) (s : GS) (i : Nat) : (led nodes s i).len = s.len ∧ (led nodes s i).pool = s.pool := by
  unfold led
  split
  · exact lead_len nodes s i
  · exact ⟨rfl, rfl⟩
/-- From the front of this code on, with these on the stack, it tells this. -/
def Tells (P : List Int) (t : Int) (S : List Ins) (l : List Int) (a : Int) : Prop :=
  ∀ (code : List Ins) (i : Nat) (k : Int), code.drop i = S → (exec code P t (code.length - i + 1) i l k).1 = a
theorem drop_cons {code r : List Ins} {i : Nat} {x : Ins} (h : code.drop i = x :: r) : code[i]? = some x ∧ code.drop (i + 1) = r ∧ i < code.length := by
  have hl : i < code.length := by
    rcases Nat.lt_or_ge i code.length with g | g
    · exact g
    · rw [List.drop_eq_nil_of_le g] at h; cases h
  rw [List.drop_eq_getElem_cons hl] at h
  injection h with h1 h2
  exact ⟨by rw [List.getElem?_eq_getElem hl, h1], h2, hl⟩
theorem tells_6 {P : List Int} {t n : Int} {r : List Ins} {l : List Int} : Tells P t (⟨6, n⟩ :: r) l n := fun code i k h => by
  obtain ⟨h1, h2, h3⟩ := drop_cons h
  rw [exec_6 h1]
theorem tells_1 {P : List Int} {t n a : Int} {r : List Ins} {l : List Int} (hr : Tells P t r (l ++ [t]) a) : Tells P t (⟨1, n⟩ :: r) l a := fun code i k h => by
  obtain ⟨h1, h2, h3⟩ := drop_cons h
  rw [exec_1 h1, exec_fuel (code.length - i) (code.length - (i + 1) + 1) _ _ _ (by omega) (by omega)]
  exact hr code (i + 1) _ h2
theorem tells_2 {P : List Int} {t n z a : Int} {r : List Ins} {l : List Int} (hz : P[n.toNat]? = some z) (hr : Tells P t r (l ++ [z]) a) : Tells P t (⟨2, n⟩ :: r) l a := fun code i k h => by
  obtain ⟨h1, h2, h3⟩ := drop_cons h
  rw [exec_2 h1 hz, exec_fuel (code.length - i) (code.length - (i + 1) + 1) _ _ _ (by omega) (by omega)]
  exact hr code (i + 1) _ h2
theorem tells_3 {P : List Int} {t n x y a : Int} {r : List Ins} (hr : Tells P t r [if x < y then 1 else 0] a) : Tells P t (⟨3, n⟩ :: r) [x, y] a := fun code i k h => by
  obtain ⟨h1, h2, h3⟩ := drop_cons h
  rw [exec_3 (m := 0) h1 rfl rfl rfl, exec_fuel (code.length - i) (code.length - (i + 1) + 1) _ _ _ (by omega) (by omega)]
  exact hr code (i + 1) _ h2
theorem drop_more {code r : List Ins} {i n : Nat} (h : code.drop i = r) : code.drop (i + n) = r.drop n := by rw [← h, List.drop_drop]
theorem tells_4 {P : List Int} {t n x a : Int} {r : List Ins} (h0 : x = 0 → Tells P t (r.drop n.toNat) [] a) (h1 : x ≠ 0 → Tells P t r [] a) : Tells P t (⟨4, n⟩ :: r) [x] a := fun code i k h => by
  obtain ⟨g1, g2, g3⟩ := drop_cons h
  rw [exec_4 (m := 0) g1 rfl rfl]
  by_cases hx : x = 0
  · rw [if_pos hx, exec_fuel (code.length - i) (code.length - (i + 1 + n.toNat) + 1) _ _ _ (by omega) (by omega)]
    exact h0 hx code _ _ (drop_more g2)
  · rw [if_neg hx, exec_fuel (code.length - i) (code.length - (i + 1) + 1) _ _ _ (by omega) (by omega)]
    exact h1 hx code _ _ g2
theorem tells_5 {P : List Int} {t n a : Int} {r : List Ins} {l : List Int} (h0 : Tells P t (r.drop n.toNat) l a) : Tells P t (⟨5, n⟩ :: r) l a := fun code i k h => by
  obtain ⟨g1, g2, g3⟩ := drop_cons h
  rw [exec_5 g1, exec_fuel (code.length - i) (code.length - (i + 1 + n.toNat) + 1) _ _ _ (by omega) (by omega)]
  exact h0 code _ _ (drop_more g2)
theorem tells_ask {P : List Int} {t b a j N : Int} {r : List Ins} (hz : P[j.toNat]? = some b) (h1 : t < b → Tells P t r [] a) (h0 : ¬ t < b → Tells P t (r.drop N.toNat) [] a) :
    Tells P t (⟨1, 0⟩ :: ⟨2, j⟩ :: ⟨3, 0⟩ :: ⟨4, N⟩ :: r) [] a := by
  refine tells_1 (tells_2 hz (tells_3 (x := t) (y := b) (tells_4 (fun hx => h0 ?_) (fun hx => h1 ?_))))
  · intro h; rw [if_pos h] at hx; cases hx
  · by_cases h : t < b
    · exact h
    · rw [if_neg h] at hx; exact absurd rfl hx
/-- Each instruction may be, finds enough on the stack, and leads to where as many are expected as it leaves. -/
structure Okk (pl al : Nat) (code : List Ins) (ds : List Int) : Prop where
  len : ds.length = code.length
  at_ : ∀ (i : Nat) x d, code[i]? = some x → ds[i]? = some d → (1 ≤ x.op ∧ x.op ≤ 6) ∧ (0 ≤ x.n ∧ x.n < choices x.op i code.length pl al) ∧ takes x.op ≤ d ∧ d + (lays x.op - takes x.op) ≤ 8 ∧ ∀ j ∈ nxts x.op x.n i, ds[j]? = some (d + (lays x.op - takes x.op))
theorem nxts_succ {op n : Int} {i j : Nat} (h : j ∈ nxts op n (i + 1)) : ∃ j', j = j' + 1 ∧ j' ∈ nxts op n i := by
  unfold nxts at h ⊢
  split
  · rename_i h6; rw [if_pos h6] at h; simp at h
  · rename_i h6
    rw [if_neg h6] at h
    split
    · rename_i h4
      rw [if_pos h4] at h
      simp only [List.mem_cons, List.not_mem_nil, or_false] at h ⊢
      rcases h with rfl | rfl
      · exact ⟨i + 1, rfl, Or.inl rfl⟩
      · exact ⟨i + 1 + n.toNat, by omega, Or.inr rfl⟩
    · rename_i h4
      rw [if_neg h4] at h
      split
      · rename_i h5
        rw [if_pos h5] at h
        simp only [List.mem_singleton] at h ⊢
        exact ⟨i + 1 + n.toNat, by omega, rfl⟩
      · rename_i h5
        rw [if_neg h5] at h
        simp only [List.mem_singleton] at h ⊢
        exact ⟨i + 1, by omega, rfl⟩
theorem choices_succ (op : Int) (i n pl al : Nat) : choices op ((i + 1 : Nat) : Int) ((n + 1 : Nat) : Int) pl al = choices op i n pl al := by
  unfold choices
  split
  · rfl
  · split
    · rfl
    · split
      · omega
      · rfl
theorem Okk.cons {pl al : Nat} {r : List Ins} {ds : List Int} {x : Ins} {d : Int} (h : Okk pl al r ds) (h1 : 1 ≤ x.op ∧ x.op ≤ 6) (h2 : 0 ≤ x.n ∧ x.n < choices x.op 0 (r.length + 1 : Nat) pl al) (h3 : takes x.op ≤ d) (h4 : d + (lays x.op - takes x.op) ≤ 8)
    (h5 : ∀ j ∈ nxts x.op x.n 0, (d :: ds)[j]? = some (d + (lays x.op - takes x.op))) : Okk pl al (x :: r) (d :: ds) :=
  ⟨by simp [h.len], fun i y e hy he => by
    cases i with
    | zero =>
      simp at hy he
      subst hy
      subst he
      exact ⟨h1, by simpa using h2, h3, h4, h5⟩
    | succ i =>
      simp only [List.getElem?_cons_succ] at hy he
      obtain ⟨g1, g2, g3, g4, g5⟩ := h.at_ i y e hy he
      refine ⟨g1, ?_, g3, g4, fun j hj => ?_⟩
      · rw [List.length_cons, choices_succ]; exact g2
      · obtain ⟨j', rfl, hj'⟩ := nxts_succ hj
        simpa using g5 j' hj'⟩
theorem Okk.mono {pl pl' al : Nat} {code : List Ins} {ds : List Int} (h : Okk pl al code ds) (hp : pl ≤ pl') : Okk pl' al code ds :=
  ⟨h.len, fun i x d hx hd => by
    obtain ⟨g1, g2, g3, g4, g5⟩ := h.at_ i x d hx hd
    refine ⟨g1, ⟨g2.1, Int.lt_of_lt_of_le g2.2 ?_⟩, g3, g4, g5⟩
    unfold choices
    split
    · omega
    · exact Int.le_refl _⟩
/-- A node that is written: from where its code begins on it is told what the node tells. -/
structure Wrn (nodes : List Tre.Nod) (s : GS) (ds : List Int) (i : Nat) : Prop where
  pos : 0 < s.len i
  le : s.len i ≤ s.code.length
  zero : ds[s.code.length - s.len i]? = some 0
  tells : ∀ t P, s.pool <+: P → Tells P t (s.code.drop (s.code.length - s.len i)) [] (valN nodes t (i + 1) i)
/-- More is written in front. -/
structure Mor (s s' : GS) (ds ds' : List Int) : Prop where
  ex : ∃ pre dpre, s'.code = pre ++ s.code ∧ ds' = dpre ++ ds ∧ dpre.length = pre.length
  pool : s.pool <+: s'.pool
  len : ∀ j, 0 < s.len j → s'.len j = s.len j
theorem Mor.refl (s : GS) (ds : List Int) : Mor s s ds ds := ⟨⟨[], [], rfl, rfl, rfl⟩, List.prefix_refl _, fun _ _ => rfl⟩
theorem Mor.trans {a b c : GS} {da db dc : List Int} (h : Mor a b da db) (g : Mor b c db dc) : Mor a c da dc := by
  obtain ⟨p1, d1, h1, h2, h3⟩ := h.ex
  obtain ⟨p2, d2, g1, g2, g3⟩ := g.ex
  exact ⟨⟨p2 ++ p1, d2 ++ d1, by rw [g1, h1, List.append_assoc], by rw [g2, h2, List.append_assoc], by simp [h3, g3]⟩, h.pool.trans g.pool, fun j hj => by rw [g.len j (by rw [h.len j hj]; exact hj), h.len j hj]⟩
theorem Mor.le {s s' : GS} {ds ds' : List Int} (h : Mor s s' ds ds') : s.code.length ≤ s'.code.length := by
  obtain ⟨p1, d1, h1, _, _⟩ := h.ex
  rw [h1]; simp
theorem Wrn.mor {nodes : List Tre.Nod} {s s' : GS} {ds ds' : List Int} {i : Nat} (h : Wrn nodes s ds i) (g : Mor s s' ds ds') : Wrn nodes s' ds' i := by
  obtain ⟨p1, d1, h1, h2, h3⟩ := g.ex
  have e := g.len i h.pos
  have hle := h.le
  have hk : s'.code.length - s'.len i = p1.length + (s.code.length - s.len i) := by rw [h1, e, List.length_append]; omega
  refine ⟨by rw [e]; exact h.pos, by rw [e, h1, List.length_append]; omega, ?_, fun t P hP => ?_⟩
  · rw [hk, h2, List.getElem?_append_right (by omega), h3, Nat.add_sub_cancel_left]
    exact h.zero
  · rw [hk, h1, List.drop_append, List.drop_eq_nil_of_le (by omega), Nat.add_sub_cancel_left, List.nil_append]
    exact h.tells t P (g.pool.trans hP)
theorem away_at {nodes : List Tre.Nod} {s : GS} {ds : List Int} {i : Nat} (h : Wrn nodes s ds i) : (away s i).toNat = s.code.length - s.len i ∧ 0 ≤ away s i ∧ away s i < s.code.length := by
  have h1 := h.pos
  have h2 := h.le
  unfold away
  omega
/-- The way to a node that is written. -/
theorem led_law {nodes : List Tre.Nod} {al : Nat} {s : GS} {ds : List Int} {i : Nat} {nd : Tre.Nod} (hn : nodes[i]? = some nd) (ha : nd.leaf = true → 0 ≤ nd.ans ∧ nd.ans < al) (ho : Okk s.pool.length al s.code ds) (h : Wrn nodes s ds i) :
    ∃ ds', Okk (led nodes s i).pool.length al (led nodes s i).code ds' ∧ Mor s (led nodes s i) ds ds' ∧ ds'[0]? = some 0 ∧ (∀ t P, s.pool <+: P → Tells P t (led nodes s i).code [] (valN nodes t (i + 1) i)) ∧ (led nodes s i).code.length ≤ s.code.length + 1 := by
  obtain ⟨w1, w2, w3⟩ := away_at h
  unfold led
  by_cases h0 : 0 < away s i
  · rw [if_pos h0]
    unfold lead
    simp only [hn]
    by_cases hl : nd.leaf = true
    · rw [if_pos hl]
      obtain ⟨a1, a2⟩ := ha hl
      refine ⟨0 :: ds, ho.cons (by simp) ⟨a1, by simp [choices]; omega⟩ (by simp [takes]) (by simp [takes, lays]) (by simp [nxts]), ⟨⟨[_], [0], rfl, rfl, rfl⟩, List.prefix_refl _, fun _ _ => rfl⟩, rfl, fun t P _ => ?_, by simp [add]⟩
      obtain ⟨lf, a, b, l, m⟩ := nd
      simp only at hl
      subst hl
      rw [valN_leaf hn]
      exact tells_6
    · rw [if_neg hl]
      refine ⟨0 :: ds, ho.cons (by simp) ⟨w2, by simp [choices]; omega⟩ (by simp [takes]) (by simp [takes, lays]) (fun j hj => ?_), ⟨⟨[_], [0], rfl, rfl, rfl⟩, List.prefix_refl _, fun _ _ => rfl⟩, rfl, fun t P hP => ?_, by simp [add]⟩
      · simp [nxts] at hj
        rw [hj, Nat.add_comm, List.getElem?_cons_succ, w1]
        simpa [takes, lays] using h.zero
      · refine tells_5 ?_
        rw [w1]
        exact h.tells t P hP
  · rw [if_neg h0]
    have hz : s.code.length - s.len i = 0 := by omega
    refine ⟨ds, ho, Mor.refl s ds, ?_, fun t P hP => ?_, by omega⟩
    · have := h.zero
      rw [hz] at this
      exact this
    · have := h.tells t P hP
      rw [hz, List.drop_zero] at this
      exact this
theorem laid_at (pool : List Int) (b : Int) : (laid pool b)[place pool b]? = some b ∧ pool <+: laid pool b ∧ (laid pool b).length ≤ pool.length + 1 ∧ place pool b < (laid pool b).length ∧ (pool.Nodup → (laid pool b).Nodup) := by
  unfold laid place
  by_cases h : b ∈ pool
  · rw [if_pos h]
    have hl := List.idxOf_lt_length_of_mem h
    exact ⟨by rw [List.getElem?_eq_getElem hl, List.getElem_idxOf], List.prefix_refl _, by omega, hl, fun g => g⟩
  · rw [if_neg h]
    have he : pool.idxOf b = pool.length := List.idxOf_eq_length h
    refine ⟨by rw [he]; simp, ⟨[b], rfl⟩, by simp, by rw [he]; simp, fun g => ?_⟩
    rw [List.nodup_append]
    exact ⟨g, by simp, fun x hx y hy => by simp at hy; subst hy; exact fun e => h (e ▸ hx)⟩
/-- A node's question: what it asks, and that it leads to what it leads to. -/
theorem ask_law {nodes : List Tre.Nod} {al : Nat} {s : GS} {ds : List Int} {i : Nat} {a b l m : Int} {nl : Tre.Nod} (hi : nodes[i]? = some ⟨false, a, b, l, m⟩) (hn : nodes[l.toNat]? = some nl) (ha : nl.leaf = true → 0 ≤ nl.ans ∧ nl.ans < al)
    (ho : Okk s.pool.length al s.code ds) (hl : Wrn nodes s ds l.toNat) (hm : Wrn nodes s ds m.toNat)
    (vl : ∀ t, valN nodes t (l.toNat + 1) l.toNat = valN nodes t i l.toNat) (vm : ∀ t, valN nodes t (m.toNat + 1) m.toNat = valN nodes t i m.toNat) :
    ∃ ds', Okk (ask nodes s ⟨false, a, b, l, m⟩).pool.length al (ask nodes s ⟨false, a, b, l, m⟩).code ds' ∧ Mor s (ask nodes s ⟨false, a, b, l, m⟩) ds ds' ∧ ds'[0]? = some 0 ∧ (∀ t P, (ask nodes s ⟨false, a, b, l, m⟩).pool <+: P → Tells P t (ask nodes s ⟨false, a, b, l, m⟩).code [] (valN nodes t (i + 1) i)) ∧ (ask nodes s ⟨false, a, b, l, m⟩).code.length ≤ s.code.length + 5 ∧ 0 < (ask nodes s ⟨false, a, b, l, m⟩).code.length := by
  obtain ⟨d1, o1, m1, z1, t1, c1⟩ := led_law hn ha ho hl
  have hm1 := hm.mor m1
  obtain ⟨w1, w2, w3⟩ := away_at hm1
  obtain ⟨e1, e2⟩ := led_len nodes s l.toNat
  obtain ⟨p1, p2, p3, p4, p5⟩ := laid_at s.pool b
  have o2 : Okk (laid s.pool b).length al (led nodes s l.toNat).code d1 := o1.mono (by rw [e2]; exact p2.length_le)
  unfold ask
  simp only
  have q4 : Okk (laid s.pool b).length al (⟨4, away (led nodes s l.toNat) m.toNat⟩ :: (led nodes s l.toNat).code) (1 :: d1) := o2.cons (by simp) ⟨w2, by simp [choices]; omega⟩ (by simp [takes]) (by simp [takes, lays]) (fun j hj => by
    simp [nxts] at hj
    rcases hj with rfl | rfl
    · simpa [takes, lays] using z1
    · rw [Nat.add_comm, List.getElem?_cons_succ, w1]
      simpa [takes, lays] using hm1.zero)
  have q3 := q4.cons (x := ⟨3, 0⟩) (d := 2) (by simp) ⟨by simp, by simp [choices]⟩ (by simp [takes]) (by simp [takes, lays]) (fun j hj => by
    simp [nxts] at hj
    subst hj
    simp [takes, lays])
  have q2 := q3.cons (x := ⟨2, (place s.pool b : Nat)⟩) (d := 1) (by simp) ⟨by simp, by simp [choices]; omega⟩ (by simp [takes]) (by simp [takes, lays]) (fun j hj => by
    simp [nxts] at hj
    subst hj
    simp [takes, lays])
  have q1 := q2.cons (x := ⟨1, 0⟩) (d := 0) (by simp) ⟨by simp, by simp [choices]⟩ (by simp [takes]) (by simp [takes, lays]) (fun j hj => by
    simp [nxts] at hj
    subst hj
    simp [takes, lays])
  refine ⟨_, q1, ?_, rfl, fun t P hP => ?_, by simp; omega, by simp⟩
  · obtain ⟨x1, x2, y1, y2, y3⟩ := m1.ex
    exact ⟨⟨⟨1, 0⟩ :: ⟨2, (place s.pool b : Nat)⟩ :: ⟨3, 0⟩ :: ⟨4, away (led nodes s l.toNat) m.toNat⟩ :: x1, 0 :: 1 :: 2 :: 1 :: x2, by simp [y1], by simp [y2], by simp [y3]⟩, p2, fun _ _ => rfl⟩
  · have hz : P[((place s.pool b : Nat) : Int).toNat]? = some b := by
      obtain ⟨Q, hQ⟩ := hP
      rw [← hQ, Int.toNat_natCast, List.getElem?_append_left p4]
      exact p1
    have hP2 : s.pool <+: P := p2.trans hP
    refine tells_ask hz (fun ht => ?_) (fun ht => ?_)
    · rw [valN_less hi ht, ← vl t]
      exact t1 t P hP2
    · rw [valN_more hi ht, ← vm t, w1]
      exact hm1.tells t P (by rw [e2]; exact hP2)
/-- How many nodes are written. -/
def cnt (len : Nat → Nat) : Nat → Nat
  | 0 => 0
  | n + 1 => cnt len n + (if 0 < len n then 1 else 0)
theorem cnt_le (len : Nat → Nat) : ∀ n, cnt len n ≤ n
  | 0 => Nat.le_refl _
  | n + 1 => by
    have := cnt_le len n
    unfold cnt
    split <;> omega
theorem cnt_same {len len' : Nat → Nat} : ∀ {n : Nat}, (∀ j, j < n → len' j = len j) → cnt len' n = cnt len n
  | 0, _ => rfl
  | n + 1, h => by
    rw [cnt, cnt, cnt_same fun j hj => h j (by omega), h n (by omega)]
theorem cnt_upd {len : Nat → Nat} {i v : Nat} (h0 : len i = 0) (hv : 0 < v) : ∀ {n : Nat}, i < n → cnt (updL len i v) n = cnt len n + 1
  | 0, h => by omega
  | n + 1, h => by
    rcases Nat.lt_succ_iff_lt_or_eq.1 h with g | rfl
    · have e : updL len i v n = len n := by unfold updL; rw [if_neg (by omega)]
      rw [cnt, cnt, cnt_upd h0 hv g, e]
      omega
    · rw [cnt, cnt, cnt_same (len := len) (fun j hj => by unfold updL; rw [if_neg (by omega)]), h0]
      simp [updL, hv]
/-- What holds of all that is written. -/
structure GInv (nodes : List Tre.Nod) (al : Nat) (s : GS) (ds : List Int) : Prop where
  ok : Okk s.pool.length al s.code ds
  node : ∀ i, 0 < s.len i → Wrn nodes s ds i
  code : s.code.length ≤ 5 * cnt s.len nodes.length
  pool : s.pool.length ≤ cnt s.len nodes.length
  nodup : s.pool.Nodup
  wf : ∀ z ∈ s.pool, ∃ nd ∈ nodes, nd.bound = z
theorem GInv.start (nodes : List Tre.Nod) (al : Nat) : GInv nodes al ⟨[], fun _ => 0, []⟩ [] :=
  ⟨⟨rfl, fun i x d h => by simp at h⟩, fun i h => absurd h (Nat.lt_irrefl _), Nat.zero_le _, Nat.zero_le _, List.nodup_nil, fun z hz => by simp at hz⟩
/-- A node is laid down as written. -/
theorem done_inv {nodes : List Tre.Nod} {al : Nat} {s s' : GS} {ds ds' : List Int} {i : Nat} (hi : i < nodes.length) (h : GInv nodes al s ds) (h0 : s.len i = 0) (hl : s'.len = s.len) (ho : Okk s'.pool.length al s'.code ds') (hm : Mor s s' ds ds') (hz : ds'[0]? = some 0)
    (ht : ∀ t P, s'.pool <+: P → Tells P t s'.code [] (valN nodes t (i + 1) i)) (hc : s'.code.length ≤ s.code.length + 5) (hp : s'.pool.length ≤ s.pool.length + 1) (hpos : 0 < s'.code.length) (hd : s'.pool.Nodup) (hw : ∀ z ∈ s'.pool, ∃ nd ∈ nodes, nd.bound = z) :
    GInv nodes al (done s' i) ds' ∧ Wrn nodes (done s' i) ds' i ∧ Mor s (done s' i) ds ds' ∧ ∀ j, i < j → (done s' i).len j = s.len j := by
  have hsame : ∀ j, j ≠ i → (done s' i).len j = s.len j := fun j hj => by show updL s'.len i _ j = _; unfold updL; rw [if_neg hj, hl]
  have hat : (done s' i).len i = s'.code.length := by show updL s'.len i _ i = _; unfold updL; rw [if_pos rfl]
  have hmd : Mor s (done s' i) ds ds' := ⟨hm.ex, hm.pool, fun j hj => hsame j (fun e => by subst e; omega)⟩
  have hwi : Wrn nodes (done s' i) ds' i := ⟨by rw [hat]; exact hpos, by rw [hat]; exact Nat.le_refl _, by rw [hat, show (done s' i).code.length = s'.code.length from rfl, Nat.sub_self]; exact hz, fun t P hP => by
    rw [hat, show (done s' i).code.length = s'.code.length from rfl, Nat.sub_self, List.drop_zero]
    exact ht t P hP⟩
  have hcn : cnt (done s' i).len nodes.length = cnt s.len nodes.length + 1 := by
    show cnt (updL s'.len i s'.code.length) nodes.length = _
    rw [hl]
    exact cnt_upd h0 hpos hi
  refine ⟨⟨ho, fun j hj => ?_, ?_, ?_, hd, hw⟩, hwi, hmd, fun j hj => hsame j (by omega)⟩
  · by_cases e : j = i
    · subst e; exact hwi
    · rw [hsame j e] at hj
      exact (h.node j hj).mor hmd
  · rw [hcn]; have := h.code; show s'.code.length ≤ _; omega
  · rw [hcn]; have := h.pool; show s'.pool.length ≤ _; omega
theorem write_inv {f : Fst} (hG : Good f) : ∀ (n i : Nat) (s : GS) (ds : List Int), i < n → i < f.nodes.length → GInv f.nodes f.answers.length s ds →
    ∃ ds', GInv f.nodes f.answers.length (write f.nodes n i s) ds' ∧ Wrn f.nodes (write f.nodes n i s) ds' i ∧ Mor s (write f.nodes n i s) ds ds' ∧ ∀ j, i < j → (write f.nodes n i s).len j = s.len j
  | 0, i, s, ds, h, _, _ => by omega
  | n + 1, i, s, ds, h, hi, hs => by
    unfold write
    by_cases h0 : 0 < s.len i
    · rw [if_pos h0]
      exact ⟨ds, hs, hs.node i h0, Mor.refl s ds, fun _ _ => rfl⟩
    rw [if_neg h0]
    obtain ⟨nd, hnd⟩ : ∃ nd, f.nodes[i]? = some nd := ⟨_, List.getElem?_eq_getElem hi⟩
    simp only [hnd]
    obtain ⟨lf, a, b, l, m⟩ := nd
    cases lf with
    | true =>
      obtain ⟨a1, a2⟩ := hG.leaf hnd
      rw [if_pos rfl]
      obtain ⟨g1, g2, g3, g4⟩ := done_inv (s' := add s 6 a) (ds' := 0 :: ds) hi hs (by omega) rfl (hs.ok.cons (by simp) ⟨a1, by simp [choices]; omega⟩ (by simp [takes]) (by simp [takes, lays]) (by simp [nxts])) ⟨⟨[_], [0], rfl, rfl, rfl⟩, List.prefix_refl _, fun _ _ => rfl⟩ rfl (fun t P _ => by rw [valN_leaf hnd]; exact tells_6) (by simp [add]) (by simp [add]) (by simp [add]) hs.nodup hs.wf
      exact ⟨_, g1, g2, g3, g4⟩
    | false =>
      obtain ⟨l0, l1, m0, m1⟩ := hG.inner hnd
      rw [if_neg (by simp)]
      obtain ⟨d1, i1, w1, x1, y1⟩ := write_inv hG n m.toNat s ds (by omega) (by omega) hs
      obtain ⟨d2, i2, w2, x2, y2⟩ := write_inv hG n l.toNat _ d1 (by omega) (by omega) i1
      have wm := w1.mor x2
      obtain ⟨nl, hnl⟩ : ∃ nl, f.nodes[l.toNat]? = some nl := ⟨_, List.getElem?_eq_getElem (by omega)⟩
      have hz : (write f.nodes n l.toNat (write f.nodes n m.toNat s)).len i = 0 := by rw [y2 i (by omega), y1 i (by omega)]; omega
      obtain ⟨d3, o3, x3, z3, t3, c3, p3⟩ := ask_law (al := f.answers.length) hnd hnl (fun e => by
        obtain ⟨lf2, a2, b2, l2, m2⟩ := nl
        simp only at e
        subst e
        exact hG.leaf hnl) i2.ok w2 wm (fun t => hG.fuel t _ _ _ (by omega) (by omega) (by omega)) (fun t => hG.fuel t _ _ _ (by omega) (by omega) (by omega))
      obtain ⟨q1, q2, q3, q4, q5⟩ := laid_at (write f.nodes n l.toNat (write f.nodes n m.toNat s)).pool b
      obtain ⟨g1, g2, g3, g4⟩ := done_inv (s' := ask f.nodes (write f.nodes n l.toNat (write f.nodes n m.toNat s)) ⟨false, a, b, l, m⟩) hi i2 hz rfl o3 x3 z3 t3 c3 q3 p3 (q5 i2.nodup) (fun z hz => by
        show ∃ nd ∈ f.nodes, nd.bound = z
        have hz2 : z ∈ laid (write f.nodes n l.toNat (write f.nodes n m.toNat s)).pool b := hz
        unfold laid at hz2
        split at hz2
        · exact i2.wf z hz2
        · rcases List.mem_append.1 hz2 with hz3 | hz3
          · exact i2.wf z hz3
          · rw [List.mem_singleton.1 hz3]
            exact ⟨_, List.mem_of_getElem? hnd, rfl⟩)
      exact ⟨d3, g1, g2, (x1.trans x2).trans g3, fun j hj => by rw [g4 j hj, y2 j (by omega), y1 j (by omega)]⟩
end Gn
end Go.Proofs.YtcpmbjlhblkniaaDoor
