/- A region that draws its order, whatever the order: if each operation, in whatever world that has grown from the first one, leaves in its slot what is said of that slot, then so it is behind the region. Over any program. It proves nothing of this program by itself. -/
import Derived.Orders
namespace Go.Proofs.YtcpmbjlhblkniaaDoor
open Go
namespace Slots
variable {P : Program} {ops : Array Oper} {Q : Exit → Act → World → Prop} {md : Region.Mode}
/-- Operation i waits for operation j, straight or by others. -/
def reach (md : Region.Mode) (ops : Array Oper) : Nat → Nat → Nat → Bool
  | 0, _, _ => false
  | f + 1, i, j => ((ops[i]?).map fun o => o.after.any fun e => Region.binds md e && (e.on == j || reach md ops f e.on j)).getD false
/-- Slot t was written ahead of operation i, by one that i waits for straight. -/
def bef (md : Region.Mode) (ops : Array Oper) (i : Nat) (t : Tmp) : Bool :=
  ((ops[i]?).map fun o => o.after.any fun e => Region.binds md e && ((ops[e.on]?).map fun p => p.dst == some t).getD false).getD false
/-- Slot t is written by none, or by operations that wait for operation i. -/
def ini (md : Region.Mode) (ops : Array Oper) (i : Nat) (t : Tmp) : Bool :=
  (List.range ops.size).all fun j => ((ops[j]?).map fun p => !(p.dst == some t) || (j == i || reach md ops ops.size j i)).getD true
/-- No guards; each waits for such alone that stand ahead of it; no two write one slot. -/
def chk (ops : Array Oper) : Bool :=
  (List.range ops.size).all fun i => ((ops[i]?).map fun o => o.guard.isNone && o.after.all (fun e => decide (e.on < i)) &&
    (List.range i).all fun j => ((ops[j]?).map fun p => o.dst.isNone || !(p.dst == o.dst)).getD true).getD true
theorem chk_at (h : chk ops = true) {i : Nat} {o : Oper} (hi : ops[i]? = some o) : o.guard = none ∧ (∀ e ∈ o.after, e.on < i) ∧ ∀ j p d, j < i → ops[j]? = some p → o.dst = some d → p.dst ≠ some d := by
  have hlt : i < ops.size := (Array.getElem?_eq_some_iff.1 hi).1
  have := List.all_eq_true.1 h i (List.mem_range.2 hlt)
  simp only [hi, Option.map_some, Option.getD_some, Bool.and_eq_true] at this
  obtain ⟨⟨h1, h2⟩, h3⟩ := this
  refine ⟨by simpa using h1, fun e he => by simpa using Array.all_eq_true_iff_forall_mem.1 h2 e he, fun j p d hj hp hd => ?_⟩
  have := List.all_eq_true.1 h3 j (List.mem_range.2 hj)
  simp only [hp, hd, Option.map_some, Option.getD_some] at this
  simpa using this
theorem chk_one (h : chk ops = true) {i j : Nat} {o p : Oper} {d : Tmp} (hi : ops[i]? = some o) (hj : ops[j]? = some p) (ho : o.dst = some d) (hp : p.dst = some d) : i = j := by
  rcases Nat.lt_trichotomy i j with k | k | k
  · exact absurd ho ((chk_at h hj).2.2 i o d k hi hp)
  · exact k
  · exact absurd hp ((chk_at h hi).2.2 j p d k hj ho)
/-- What an operation may lean on. -/
structure Seen (md : Region.Mode) (ops : Array Oper) (a0 : Act) (Φ : Tmp → Value → World → Prop) (i : Nat) (a : Act) (w : World) : Prop where
  bef : ∀ t, bef md ops i t = true → Φ t (a.tmps.getD t undef) w
  ini : ∀ t, ini md ops i t = true → a.tmps.getD t undef = a0.tmps.getD t undef
/-- What holds while operations come up. -/
structure Inv (md : Region.Mode) (ops : Array Oper) (R : World → World → Prop) (a0 : Act) (w0 : World) (Φ : Tmp → Value → World → Prop) (listed : Array Bool) (a : Act) (w : World) : Prop where
  size : listed.size = ops.size
  closed : ∀ j o, ops[j]? = some o → listed.getD j false = true → ∀ e ∈ o.after, Region.binds md e = true → listed.getD e.on false = true
  grown : R w0 w
  room : a.tmps.size = a0.tmps.size
  defers : a.defers = a0.defers
  old : ∀ t, (∀ j o, ops[j]? = some o → o.dst = some t → listed.getD j false = false) → a.tmps.getD t undef = a0.tmps.getD t undef
  new : ∀ j o d, ops[j]? = some o → o.dst = some d → listed.getD j false = true → Φ d (a.tmps.getD d undef) w
theorem reach_listed {listed : Array Bool} (hc : ∀ j o, ops[j]? = some o → listed.getD j false = true → ∀ e ∈ o.after, Region.binds md e = true → listed.getD e.on false = true) :
    ∀ (f i j : Nat), reach md ops f i j = true → listed.getD i false = true → listed.getD j false = true
  | 0, i, j, h, _ => by cases h
  | f + 1, i, j, h, hl => by
    unfold reach at h
    cases ho : ops[i]? with
    | none => rw [ho] at h; cases h
    | some o =>
      rw [ho] at h
      simp only [Option.map_some, Option.getD_some, Array.any_eq_true'] at h
      obtain ⟨e, he, hb⟩ := h
      simp only [Bool.and_eq_true, Bool.or_eq_true, beq_iff_eq] at hb
      have := hc i o ho hl e he hb.1
      rcases hb.2 with k | k
      · rw [k] at this; exact this
      · exact reach_listed hc f e.on j k this
theorem seen {R : World → World → Prop} {a0 : Act} {w0 : World} {Φ : Tmp → Value → World → Prop} {listed : Array Bool} {a : Act} {w : World} (h : Inv md ops R a0 w0 Φ listed a w) {i : Nat} (hr : i ∈ Region.ready md ops listed) : Seen md ops a0 Φ i a w := by
  obtain ⟨hun, o, ho, hall⟩ := mem_ready.1 hr
  have hun' : listed.getD i false = false := by
    rcases Nat.lt_or_ge i listed.size with k | k
    · simpa [k] using hun
    · simp [Array.getElem?_eq_none k]
  refine ⟨fun t ht => ?_, fun t ht => ?_⟩
  · unfold bef at ht
    rw [ho] at ht
    simp only [Option.map_some, Option.getD_some, Array.any_eq_true'] at ht
    obtain ⟨e, he, hb⟩ := ht
    simp only [Bool.and_eq_true] at hb
    cases hp : ops[e.on]? with
    | none => rw [hp] at hb; exact absurd hb.2 (by simp)
    | some p =>
      rw [hp] at hb
      exact h.new e.on p t hp (by simpa using hb.2) (hall e he hb.1)
  · refine h.old t fun j p hp hd => ?_
    have := List.all_eq_true.1 ht j (List.mem_range.2 (Array.getElem?_eq_some_iff.1 hp).1)
    simp only [hp, hd, Option.map_some, Option.getD_some, beq_self_eq_true, Bool.not_true, Bool.false_or, Bool.or_eq_true, beq_iff_eq] at this
    rcases this with k | k
    · rw [k]; exact hun'
    · cases hl : listed.getD j false with
      | false => rfl
      | true => rw [reach_listed h.closed _ j i k hl] at hun'; cases hun'
theorem put_getD (a : Act) (d t : Tmp) (v : Value) : (a.put (some d) v).tmps.getD t undef = if t = d ∧ d < a.tmps.size then v else a.tmps.getD t undef := by
  simp only [Act.put, Array.getD_eq_getD_getElem?, Array.getElem?_setIfInBounds]
  by_cases h : d = t
  · subst h
    by_cases k : d < a.tmps.size
    · simp [k]
    · simp [k]
  · have h' : ¬ t = d := fun e => h e.symm
    simp [h, h']
theorem put_room (a : Act) (d : Option Tmp) (v : Value) : (a.put d v).tmps.size = a.tmps.size ∧ (a.put d v).defers = a.defers := by
  cases d <;> simp [Act.put]
theorem getD_listed {listed : Array Bool} {i j : Nat} (h : (listed.setIfInBounds i true).getD j false = true) : j = i ∨ listed.getD j false = true := by
  by_cases e : i = j
  · exact Or.inl e.symm
  · rw [getD_set_ne false e] at h; exact Or.inr h
theorem inv_step {R : World → World → Prop} (htr : ∀ a b c, R a b → R b c → R a c) {a0 : Act} {w0 : World} {Φ : Tmp → Value → World → Prop} (hmono : ∀ d v w w', R w w' → Φ d v w → Φ d v w') (hchk : chk ops = true)
    (hroom : ∀ (j : Nat) (o : Oper) (d : Tmp), ops[j]? = some o → o.dst = some d → d < a0.tmps.size)
    {listed : Array Bool} {a : Act} {w : World} (h : Inv md ops R a0 w0 Φ listed a w) {i : Nat} (hr : i ∈ Region.ready md ops listed) {o : Oper} (ho : ops[i]? = some o) {v : Value} {w' : World} (hw : R w w') (hv : ∀ d, o.dst = some d → Φ d v w') :
    Inv md ops R a0 w0 Φ (listed.setIfInBounds i true) (a.put o.dst v) w' := by
  obtain ⟨hun, o', ho', hall⟩ := mem_ready.1 hr
  have hil : i < listed.size := by rw [h.size]; exact (Array.getElem?_eq_some_iff.1 ho).1
  have hun' : listed.getD i false = false := by simpa [hil] using hun
  obtain rfl : o' = o := Option.some.inj (ho'.symm.trans ho)
  refine ⟨by simp [h.size], ?_, htr _ _ _ h.grown hw, by rw [(put_room a o'.dst v).1]; exact h.room, by rw [(put_room a o'.dst v).2]; exact h.defers, ?_, ?_⟩
  · intro j p hp hl e he hb
    rcases getD_listed hl with k | k
    · subst k
      obtain rfl : p = o' := Option.some.inj (hp.symm.trans ho)
      exact getD_set_true (hall e he hb)
    · exact getD_set_true (h.closed j p hp k e he hb)
  · intro t ht
    have hold : a.tmps.getD t undef = a0.tmps.getD t undef := h.old t fun j p hp hd => by
      have := ht j p hp hd
      by_cases e : i = j
      · subst e; exact hun'
      · rw [getD_set_ne false e] at this; exact this
    cases hd : o'.dst with
    | none => exact hold
    | some d =>
      rw [put_getD]
      by_cases e : t = d
      · subst e
        have := ht i o' ho hd
        simp [hil] at this
      · rw [if_neg (fun k => e k.1)]; exact hold
  · intro j p d hp hd hl
    by_cases e : j = i
    · subst e
      obtain rfl : p = o' := Option.some.inj (hp.symm.trans ho)
      rw [hd, put_getD, if_pos ⟨rfl, by rw [h.room]; exact hroom j p d hp hd⟩]
      exact hv d hd
    · have hl' : listed.getD j false = true := by
        rcases getD_listed hl with k | k
        · exact absurd k e
        · exact k
      have hb := hmono d _ w w' hw (h.new j p d hp hd hl')
      cases hd' : o'.dst with
      | none => exact hb
      | some d' =>
        rw [put_getD]
        by_cases e' : d = d'
        · subst e'
          exact absurd (chk_one hchk hp ho hd hd') e
        · rw [if_neg (fun k => e' k.1)]; exact hb
theorem all_listed (hchk : chk ops = true) {listed : Array Bool} (hr : Region.ready md ops listed = []) : ∀ i o, ops[i]? = some o → listed.getD i true = true := by
  intro i
  induction i using Nat.strongRecOn with
  | _ i ih =>
    intro o ho
    cases hl : listed.getD i true with
    | true => rfl
    | false =>
      have hmem : i ∈ Region.ready md ops listed := by
        refine mem_ready.2 ⟨hl, o, ho, fun e he hb => ?_⟩
        have hlt := (chk_at hchk ho).2.1 e he
        have hp : ∃ p, ops[e.on]? = some p := ⟨ops[e.on]'(by have := (Array.getElem?_eq_some_iff.1 ho).1; omega), by simp⟩
        obtain ⟨p, hp⟩ := hp
        have h1 := ih e.on hlt p hp
        have hil : i < listed.size := by
          rcases Nat.lt_or_ge i listed.size with k | k
          · exact k
          · simp [Array.getElem?_eq_none k] at hl
        have : e.on < listed.size := by omega
        simpa [this] using h1
      rw [hr] at hmem
      cases hmem
/-- How many have not come up. -/
def left (listed : Array Bool) : Nat := listed.toList.count false
theorem left_set {listed : Array Bool} {i : Nat} (h : i < listed.size) (hf : listed.getD i true = false) : left (listed.setIfInBounds i true) + 1 = left listed := by
  unfold left
  have hl : listed.toList[i]'(by simpa using h) = false := by simpa [h] using hf
  have e : (listed.setIfInBounds i true).toList = listed.toList.set i true := by simp
  rw [e]
  have hpos : 0 < listed.toList.count false := List.count_pos_iff.2 (hl ▸ List.getElem_mem _)
  have := List.count_set (a := true) (b := false) (l := listed.toList) (i := i) (by simpa using h)
  rw [this, if_pos (by rw [hl]; rfl), if_neg (by decide)]
  omega
theorem wpAny_slots {R : World → World → Prop} (htr : ∀ a b c, R a b → R b c → R a c) {a0 : Act} {w0 : World} {Φ : Tmp → Value → World → Prop} (hmono : ∀ d v w w', R w w' → Φ d v w → Φ d v w') (hchk : chk ops = true)
    (hroom : ∀ (j : Nat) (o : Oper) (d : Tmp), ops[j]? = some o → o.dst = some d → d < a0.tmps.size)
    (hstep : ∀ (i : Nat) (o : Oper), ops[i]? = some o → ∀ a w, R w0 w → Seen md ops a0 Φ i a w → o.wp P a w (fun a' w' => R w w' ∧ ∃ v, a' = a.put o.dst v ∧ ∀ d, o.dst = some d → Φ d v w') Q)
    (hend : ∀ listed a w, Inv md ops R a0 w0 Φ listed a w → (∀ (i : Nat) (o : Oper), ops[i]? = some o → listed.getD i false = true) → Q .normal a w) :
    ∀ (fuel : Nat) (listed : Array Bool) (a : Act) (w : World), left listed ≤ fuel → Inv md ops R a0 w0 Φ listed a w → wpAny P md ops Q fuel listed a w := by
  have hfin : ∀ listed a w, Inv md ops R a0 w0 Φ listed a w → Region.ready md ops listed = [] → Q .normal a w := fun listed a w h hr =>
    hend listed a w h fun i o ho => by
      have := all_listed hchk hr i o ho
      have hil : i < listed.size := by rw [h.size]; exact (Array.getElem?_eq_some_iff.1 ho).1
      simpa [hil] using this
  intro fuel
  induction fuel with
  | zero =>
    intro listed a w hl h
    have hr : Region.ready md ops listed = [] := by
      cases e : Region.ready md ops listed with
      | nil => rfl
      | cons i t =>
        have hi : i ∈ Region.ready md ops listed := by rw [e]; simp
        obtain ⟨hun, o, ho, _⟩ := mem_ready.1 hi
        have hil : i < listed.size := by rw [h.size]; exact (Array.getElem?_eq_some_iff.1 ho).1
        have := left_set hil hun
        omega
    exact ⟨hr, hfin listed a w h hr⟩
  | succ fuel ih =>
    intro listed a w hl h
    refine ⟨hfin listed a w h, fun i hi => ?_⟩
    obtain ⟨hun, o, ho, _⟩ := mem_ready.1 hi
    have hil : i < listed.size := by rw [h.size]; exact (Array.getElem?_eq_some_iff.1 ho).1
    have hls := left_set hil hun
    have hg := (chk_at hchk ho).1
    unfold wpOp
    rw [ho]
    have hwant : Region.wanted o (yielded ops a.tmps) = true := by unfold Region.wanted; rw [hg]
    simp only [hwant, if_true]
    refine Or.inl (Oper.wp_mono (fun a' w' hk => ?_) (hstep i o ho a w h.grown (seen h hi)))
    obtain ⟨hw, v, rfl, hv⟩ := hk
    exact ih _ _ _ (by omega) (inv_step htr hmono hchk hroom h hi ho hw hv)
/-- Each of a list of operations, counted from k on. -/
def Each (T : Nat → Oper → Prop) : Nat → List Oper → Prop
  | _, [] => True
  | k, o :: l => T k o ∧ Each T (k + 1) l
theorem each_get {T : Nat → Oper → Prop} : ∀ (l : List Oper) (k : Nat), Each T k l → ∀ (i : Nat) (o : Oper), l[i]? = some o → T (k + i) o
  | [], _, _, i, o, h => by simp at h
  | x :: l, k, h, 0, o, hi => by
    have : x = o := by simpa using hi
    subst this
    exact h.1
  | x :: l, k, h, i + 1, o, hi => by
    have := each_get l (k + 1) h.2 i o (by simpa using hi)
    rwa [show k + 1 + i = k + (i + 1) by omega] at this
/-- All slots that operations write lie in the frame. -/
def fits (ops : Array Oper) (n : Nat) : Bool := ops.toList.all fun o => match o.dst with | some d => decide (d < n) | none => true
/-- Slots, one by one, with what they hold. -/
def fill (a : Act) (vs : Tmp → Value) : List Tmp → Act
  | [] => a
  | d :: l => fill (a.put (some d) (vs d)) vs l
theorem fill_room (vs : Tmp → Value) : ∀ (l : List Tmp) (a : Act), (fill a vs l).tmps.size = a.tmps.size ∧ (fill a vs l).defers = a.defers
  | [], _ => ⟨rfl, rfl⟩
  | d :: l, a => by
    have h := fill_room vs l (a.put (some d) (vs d))
    have k := put_room a (some d) (vs d)
    exact ⟨h.1.trans k.1, h.2.trans k.2⟩
theorem fill_other (vs : Tmp → Value) : ∀ (l : List Tmp) (a : Act) (t : Tmp), t ∉ l → (fill a vs l).tmps.getD t undef = a.tmps.getD t undef
  | [], _, _, _ => rfl
  | d :: l, a, t, h => by
    have h1 : t ≠ d := fun e => h (by simp [e])
    have h2 : t ∉ l := fun e => h (List.mem_cons_of_mem _ e)
    show (fill (a.put (some d) (vs d)) vs l).tmps.getD t undef = _
    rw [fill_other vs l _ t h2, put_getD, if_neg (fun k => h1 k.1)]
theorem fill_same (vs : Tmp → Value) : ∀ (l : List Tmp) (a : Act) (t : Tmp), t ∈ l → t < a.tmps.size → (fill a vs l).tmps.getD t undef = vs t
  | d :: l, a, t, h, hs => by
    show (fill (a.put (some d) (vs d)) vs l).tmps.getD t undef = _
    by_cases h2 : t ∈ l
    · exact fill_same vs l _ t h2 (by rw [(put_room a (some d) (vs d)).1]; exact hs)
    · have e : t = d := by
        rcases List.mem_cons.1 h with k | k
        · exact k
        · exact absurd k h2
      subst e
      rw [fill_other vs l _ t h2, put_getD, if_pos ⟨rfl, hs⟩]
theorem act_ext {a b : Act} (h1 : a.tmps.size = b.tmps.size) (h2 : a.defers = b.defers) (h3 : ∀ t, a.tmps.getD t undef = b.tmps.getD t undef) : a = b := by
  obtain ⟨at_, ad⟩ := a
  obtain ⟨bt, bd⟩ := b
  simp only at h1 h2 h3
  subst h2
  congr 1
  refine Array.ext h1 fun i k1 k2 => ?_
  have := h3 i
  simpa [k1, k2] using this
def dsts (ops : Array Oper) : List Tmp := ops.toList.filterMap (·.dst)
/-- THE LAW: a region that draws its order. 'Φ': what is said of each slot that it writes; 'R': how worlds grow. -/
theorem wp_region_slots {id : Nat} {a0 : Act} {w0 : World} {R : World → World → Prop} (htr : ∀ a b c, R a b → R b c → R a c) (hrf : ∀ w, R w w) (Φ : Tmp → Value → World → Prop) (hmono : ∀ d v w w', R w w' → Φ d v w → Φ d v w')
    (hm : P.follows .mixedOrders = true) (hchk : chk ops = true) (hfit : fits ops a0.tmps.size = true)
    (hstep : Each (fun i o => ∀ a w, R { w0 with drawn := w0.drawn + 1 } w → Seen .any ops a0 Φ i a w → o.wp P a w (fun a' w' => R w w' ∧ ∃ v, a' = a.put o.dst v ∧ ∀ d, o.dst = some d → Φ d v w') Q) 0 ops.toList)
    (hend : ∀ (vs : Tmp → Value) w, R { w0 with drawn := w0.drawn + 1 } w → (∀ d ∈ dsts ops, Φ d (vs d) w) → Q .normal (fill a0 vs (dsts ops)) w) : (Code.region id ops true).wp P Q a0 w0 := by
  have hroom : ∀ (j : Nat) (o : Oper) (d : Tmp), ops[j]? = some o → o.dst = some d → d < a0.tmps.size := fun j o d hj hd => by
    have hmem : o ∈ ops.toList := by
      have := Array.mem_of_getElem? hj
      simpa using this
    have := List.all_eq_true.1 hfit o hmem
    rw [hd] at this
    simpa using this
  refine wp_region_any hm (wpAny_slots (R := R) htr (Φ := Φ) (a0 := a0) (w0 := { w0 with drawn := w0.drawn + 1 }) hmono hchk hroom (fun i o hi => ?_) (fun listed a w h hall => ?_) ops.size _ a0 _ ?_ ?_)
  · have := each_get _ 0 hstep i o (by simpa using hi)
    rwa [Nat.zero_add] at this
  · have hmem : ∀ t, t ∈ dsts ops ↔ ∃ (j : Nat) (o : Oper), ops[j]? = some o ∧ o.dst = some t := fun t => by
      unfold dsts
      rw [List.mem_filterMap]
      constructor
      · rintro ⟨o, ho, hd⟩
        obtain ⟨j, hj, e⟩ := List.getElem_of_mem ho
        exact ⟨j, o, by rw [Array.getElem?_eq_some_iff]; exact ⟨by simpa using hj, by simpa using e⟩, hd⟩
      · rintro ⟨j, o, hj, hd⟩
        have := Array.mem_of_getElem? hj
        exact ⟨o, by simpa using this, hd⟩
    have e : a = fill a0 (fun t => a.tmps.getD t undef) (dsts ops) := by
      have hf := fill_room (fun t => a.tmps.getD t undef) (dsts ops) a0
      refine act_ext (h.room.trans hf.1.symm) (h.defers.trans hf.2.symm) fun t => ?_
      by_cases ht : t ∈ dsts ops
      · obtain ⟨j, o, hj, hd⟩ := (hmem t).1 ht
        rw [fill_same _ _ _ t ht (hroom j o t hj hd)]
      · rw [fill_other _ _ _ t ht]
        exact h.old t fun j o hj hd => absurd ((hmem t).2 ⟨j, o, hj, hd⟩) ht
    rw [e]
    refine hend _ w h.grown fun d hd => ?_
    obtain ⟨j, o, hj, hdd⟩ := (hmem d).1 hd
    exact h.new j o d hj hdd (hall j o hj)
  · unfold left
    simp
  · have h0 : ∀ j : Nat, (Array.replicate ops.size false).getD j false = false := fun j => by
      rw [Array.getD_eq_getD_getElem?, Array.getElem?_replicate]
      split <;> rfl
    refine ⟨by simp, fun j o hj hl => ?_, hrf _, rfl, rfl, fun _ _ => rfl, fun j o d hj _ hl => ?_⟩
    · rw [h0 j] at hl; cases hl
    · rw [h0 j] at hl; cases hl
/-- Operation k waits, straight or by others, for each that stands ahead of it. -/
def waitsB (md : Region.Mode) (ops : Array Oper) (k : Nat) : Bool := (List.range k).all fun j => reach md ops ops.size k j
/-- From place m on each waits for all ahead of it. -/
def tailB (md : Region.Mode) (ops : Array Oper) (m : Nat) : Bool := (List.range ops.size).all fun k => decide (k < m) || waitsB md ops k
def Closed (md : Region.Mode) (ops : Array Oper) (listed : Array Bool) : Prop := ∀ j o, ops[j]? = some o → listed.getD j false = true → ∀ e ∈ o.after, Region.binds md e = true → listed.getD e.on false = true
theorem waits_listed {listed : Array Bool} (hc : Closed md ops listed) {k : Nat} (hk : waitsB md ops k = true) (hr : k ∈ Region.ready md ops listed) : ∀ j, j < k → listed.getD j false = true := by
  intro j hj
  obtain ⟨_, o, ho, hall⟩ := mem_ready.1 hr
  have := List.all_eq_true.1 hk j (List.mem_range.2 hj)
  have hs : 0 < ops.size := by have := (Array.getElem?_eq_some_iff.1 ho).1; omega
  obtain ⟨f, hf⟩ : ∃ f, ops.size = f + 1 := ⟨ops.size - 1, by omega⟩
  rw [hf] at this
  unfold reach at this
  rw [ho] at this
  simp only [Option.map_some, Option.getD_some, Array.any_eq_true'] at this
  obtain ⟨e, he, hb⟩ := this
  simp only [Bool.and_eq_true, Bool.or_eq_true, beq_iff_eq] at hb
  have h1 := hall e he hb.1
  rcases hb.2 with k | k
  · rw [k] at h1; exact h1
  · exact reach_listed hc f e.on j k h1
theorem ready_nil {listed : Array Bool} (h : ∀ (j : Nat) (o : Oper), ops[j]? = some o → listed.getD j true = true) : Region.ready md ops listed = [] := by
  cases e : Region.ready md ops listed with
  | nil => rfl
  | cons i t =>
    have hi : i ∈ Region.ready md ops listed := by rw [e]; simp
    obtain ⟨hun, o, ho, _⟩ := mem_ready.1 hi
    rw [h i o ho] at hun
    cases hun
theorem wpAny_end {listed : Array Bool} {a : Act} {w : World} (hr : Region.ready md ops listed = []) (h : Q .normal a w) : ∀ fuel, wpAny P md ops Q fuel listed a w
  | 0 => ⟨hr, h⟩
  | _ + 1 => ⟨fun _ => h, by rw [hr]; simp⟩
/-- Operations one behind the other. -/
def seqWp (P : Program) (Q : Exit → Act → World → Prop) : List Oper → Act → World → Prop
  | [], a, w => Q .normal a w
  | o :: l, a, w => o.wp P a w (fun a' w' => seqWp P Q l a' w') Q
theorem unl {listed : Array Bool} {i : Nat} (h : i < listed.size) (hf : listed.getD i true = false) : listed.getD i false = false := by simpa [h] using hf
theorem wpAny_tail (hchk : chk ops = true) : ∀ (tail : List Oper) (k : Nat) (listed : Array Bool) (a : Act) (w : World) (fuel : Nat), listed.size = ops.size → k + tail.length = ops.size → (∀ i (o : Oper), tail[i]? = some o → ops[k + i]? = some o) → tailB md ops k = true → Closed md ops listed →
    (∀ j, j < k → listed.getD j false = true) → (∀ j, k ≤ j → j < ops.size → listed.getD j true = false) → left listed ≤ fuel → seqWp P Q tail a w → wpAny P md ops Q fuel listed a w := by
  intro tail
  induction tail with
  | nil =>
    intro k listed a w fuel hs hk _ _ _ hb _ _ h
    refine wpAny_end (ready_nil fun j o hj => ?_) h fuel
    have hjl := (Array.getElem?_eq_some_iff.1 hj).1
    have := hb j (by simp at hk; omega)
    have hjl' : j < listed.size := by omega
    simpa [hjl'] using this
  | cons o tail ih =>
    intro k listed a w fuel hs hk hget ht hc hb hu hl h
    have hok : ops[k]? = some o := by simpa using hget 0 o rfl
    have hkl : k < listed.size := by rw [hs]; exact (Array.getElem?_eq_some_iff.1 hok).1
    have hls := left_set hkl (hu k (Nat.le_refl _) (by omega))
    obtain ⟨fuel, rfl⟩ : ∃ f, fuel = f + 1 := ⟨fuel - 1, by omega⟩
    have honly : ∀ i ∈ Region.ready md ops listed, i = k := fun i hi => by
      obtain ⟨hun, oi, hoi, _⟩ := mem_ready.1 hi
      have hil := (Array.getElem?_eq_some_iff.1 hoi).1
      rcases Nat.lt_trichotomy i k with g | g | g
      · have h1 := hb i g
        rw [unl (by omega) hun] at h1; cases h1
      · exact g
      · have hwi : waitsB md ops i = true := by
          have := List.all_eq_true.1 ht i (List.mem_range.2 hil)
          simp only [Bool.or_eq_true, decide_eq_true_eq] at this
          rcases this with q | q
          · omega
          · exact q
        have h1 := waits_listed hc hwi hi k g
        rw [unl hkl (hu k (Nat.le_refl _) (by omega))] at h1; cases h1
    have hne : Region.ready md ops listed ≠ [] := fun hr => by
      have := all_listed hchk hr k o hok
      rw [hu k (Nat.le_refl _) (by omega)] at this; cases this
    refine ⟨fun hr => absurd hr hne, fun i hi => ?_⟩
    obtain rfl := honly i hi
    have hg := (chk_at hchk hok).1
    unfold wpOp
    rw [hok]
    have hwant : Region.wanted o (yielded ops a.tmps) = true := by unfold Region.wanted; rw [hg]
    simp only [hwant, if_true]
    refine Or.inl (Oper.wp_mono (fun a' w' hk' => ?_) h)
    obtain ⟨_, oi, hoi, hall⟩ := mem_ready.1 hi
    obtain rfl : oi = o := Option.some.inj (hoi.symm.trans hok)
    refine ih (i + 1) _ a' w' fuel (by simp [hs]) (by simp at hk; omega) (fun j p hj => ?_) ?_ ?_ (fun j hj => ?_) (fun j hj hjs => ?_) (by omega) hk'
    · have := hget (j + 1) p (by simpa using hj)
      rwa [show i + (j + 1) = i + 1 + j by omega] at this
    · refine List.all_eq_true.2 fun q hq => ?_
      have := List.all_eq_true.1 ht q hq
      simp only [Bool.or_eq_true, decide_eq_true_eq] at this ⊢
      rcases this with r | r
      · exact Or.inl (by omega)
      · exact Or.inr r
    · intro j p hp hlj e he hbd
      rcases getD_listed hlj with g | g
      · subst g
        obtain rfl : p = oi := Option.some.inj (hp.symm.trans hok)
        exact getD_set_true (hall e he hbd)
      · exact getD_set_true (hc j p hp g e he hbd)
    · by_cases e : i = j
      · subst e; simp [hkl]
      · rw [getD_set_ne false e]; exact hb j (by omega)
    · rw [getD_set_ne true (by omega)]; exact hu j (by omega) hjs
theorem wpAny_last {R : World → World → Prop} (htr : ∀ a b c, R a b → R b c → R a c) {a0 : Act} {w0 : World} {Φ : Tmp → Value → World → Prop} (hmono : ∀ d v w w', R w w' → Φ d v w → Φ d v w') (hchk : chk ops = true)
    (hroom : ∀ (j : Nat) (o : Oper) (d : Tmp), ops[j]? = some o → o.dst = some d → d < a0.tmps.size) {m : Nat} {tail : List Oper} (hm : m + tail.length = ops.size) (hm0 : m < ops.size) (hget : ∀ i (o : Oper), tail[i]? = some o → ops[m + i]? = some o) (ht : tailB md ops m = true)
    (hstep : ∀ (i : Nat) (o : Oper), ops[i]? = some o → i < m → ∀ a w, R w0 w → Seen md ops a0 Φ i a w → o.wp P a w (fun a' w' => R w w' ∧ ∃ v, a' = a.put o.dst v ∧ ∀ d, o.dst = some d → Φ d v w') Q)
    (hlast : ∀ listed a w, Inv md ops R a0 w0 Φ listed a w → (∀ j, j < m → listed.getD j false = true) → (∀ j, m ≤ j → j < ops.size → listed.getD j true = false) → seqWp P Q tail a w) :
    ∀ (fuel : Nat) (listed : Array Bool) (a : Act) (w : World), left listed ≤ fuel → (∀ j, m ≤ j → j < ops.size → listed.getD j true = false) → Inv md ops R a0 w0 Φ listed a w → wpAny P md ops Q fuel listed a w := by
  intro fuel
  induction fuel with
  | zero =>
    intro listed a w hl hu h
    have hml : m < listed.size := by rw [h.size]; exact hm0
    have := left_set hml (hu m (Nat.le_refl _) hm0)
    omega
  | succ fuel ih =>
    intro listed a w hl hu h
    by_cases hdone : ∀ j, j < m → listed.getD j false = true
    · exact wpAny_tail hchk tail m listed a w _ h.size hm hget ht h.closed hdone hu hl (hlast listed a w h hdone hu)
    · have hne : Region.ready md ops listed ≠ [] := fun hr => by
        obtain ⟨om, hom⟩ : ∃ o, ops[m]? = some o := ⟨ops[m], by simp [hm0]⟩
        have := all_listed hchk hr m om hom
        rw [hu m (Nat.le_refl _) hm0] at this; cases this
      refine ⟨fun hr => absurd hr hne, fun i hi => ?_⟩
      obtain ⟨hun, o, ho, _⟩ := mem_ready.1 hi
      have hio := (Array.getElem?_eq_some_iff.1 ho).1
      have hil : i < listed.size := by rw [h.size]; exact hio
      have hls := left_set hil hun
      have him : i < m := by
        rcases Nat.lt_or_ge i m with g | g
        · exact g
        · refine absurd (fun j hj => ?_) hdone
          have hwi : waitsB md ops i = true := by
            have := List.all_eq_true.1 ht i (List.mem_range.2 hio)
            simp only [Bool.or_eq_true, decide_eq_true_eq] at this
            rcases this with q | q
            · omega
            · exact q
          exact waits_listed h.closed hwi hi j (by omega)
      have hg := (chk_at hchk ho).1
      unfold wpOp
      rw [ho]
      have hwant : Region.wanted o (yielded ops a.tmps) = true := by unfold Region.wanted; rw [hg]
      simp only [hwant, if_true]
      refine Or.inl (Oper.wp_mono (fun a' w' hk => ?_) (hstep i o ho him a w h.grown (seen h hi)))
      obtain ⟨hw', v, rfl, hv⟩ := hk
      refine ih _ _ _ (by omega) (fun j hj hjs => ?_) (inv_step htr hmono hchk hroom h hi ho hw' hv)
      rw [getD_set_ne true (by omega)]; exact hu j hj hjs
def dstL (l : List Oper) : List Tmp := l.filterMap (·.dst)
/-- THE LAW, where the last operations come one behind the other, each behind all others ('x.f = append(x.f, ..)'). -/
theorem wp_region_tail {id : Nat} {a0 : Act} {w0 : World} {R : World → World → Prop} (htr : ∀ a b c, R a b → R b c → R a c) (hrf : ∀ w, R w w) (Φ : Tmp → Value → World → Prop) (hmono : ∀ d v w w', R w w' → Φ d v w → Φ d v w')
    (hm : P.follows .mixedOrders = true) (hchk : chk ops = true) (hfit : fits ops a0.tmps.size = true) {l tail : List Oper} (hops : ops.toList = l ++ tail) (ht0 : tail ≠ []) (ht : tailB .any ops l.length = true)
    (hstep : Each (fun i o => ∀ a w, R { w0 with drawn := w0.drawn + 1 } w → Seen .any ops a0 Φ i a w → o.wp P a w (fun a' w' => R w w' ∧ ∃ v, a' = a.put o.dst v ∧ ∀ d, o.dst = some d → Φ d v w') Q) 0 l)
    (hlast : ∀ (vs : Tmp → Value) w, R { w0 with drawn := w0.drawn + 1 } w → (∀ d ∈ dstL l, Φ d (vs d) w) → seqWp P Q tail (fill a0 vs (dstL l)) w) : (Code.region id ops true).wp P Q a0 w0 := by
  have hget : ∀ i : Nat, ops[i]? = (l ++ tail)[i]? := fun i => by rw [← hops]; simp
  have hsz : l.length + tail.length = ops.size := by
    have := congrArg List.length hops
    simp at this
    omega
  have htl : 0 < tail.length := List.length_pos_iff.2 ht0
  have hroom : ∀ (j : Nat) (o : Oper) (d : Tmp), ops[j]? = some o → o.dst = some d → d < a0.tmps.size := fun j o d hj hd => by
    have hmem : o ∈ ops.toList := by
      have := Array.mem_of_getElem? hj
      simpa using this
    have := List.all_eq_true.1 hfit o hmem
    rw [hd] at this
    simpa using this
  have h0 : ∀ j : Nat, (Array.replicate ops.size false).getD j false = false := fun j => by
    rw [Array.getD_eq_getD_getElem?, Array.getElem?_replicate]
    split <;> rfl
  refine wp_region_any hm (wpAny_last (R := R) htr (Φ := Φ) (a0 := a0) (w0 := { w0 with drawn := w0.drawn + 1 }) (m := l.length) (tail := tail) hmono hchk hroom hsz (by omega) (fun i o hi => ?_) ht (fun i o hi hlt => ?_) (fun listed a w h hall hun => ?_) ops.size _ a0 _ ?_ ?_ ?_)
  · rw [hget, List.getElem?_append_right (by omega)]
    rwa [show l.length + i - l.length = i by omega]
  · rw [hget, List.getElem?_append_left hlt] at hi
    have := each_get _ 0 hstep i o hi
    rwa [Nat.zero_add] at this
  · have hmem : ∀ t, t ∈ dstL l ↔ ∃ (j : Nat) (o : Oper), j < l.length ∧ ops[j]? = some o ∧ o.dst = some t := fun t => by
      unfold dstL
      rw [List.mem_filterMap]
      constructor
      · rintro ⟨o, ho, hd⟩
        obtain ⟨j, hj, e⟩ := List.getElem_of_mem ho
        exact ⟨j, o, hj, by rw [hget, List.getElem?_append_left hj, List.getElem?_eq_getElem hj, e], hd⟩
      · rintro ⟨j, o, hlt, hj, hd⟩
        rw [hget, List.getElem?_append_left hlt] at hj
        exact ⟨o, List.mem_of_getElem? hj, hd⟩
    have e : a = fill a0 (fun t => a.tmps.getD t undef) (dstL l) := by
      have hf := fill_room (fun t => a.tmps.getD t undef) (dstL l) a0
      refine act_ext (h.room.trans hf.1.symm) (h.defers.trans hf.2.symm) fun t => ?_
      by_cases ht : t ∈ dstL l
      · obtain ⟨j, o, _, hj, hd⟩ := (hmem t).1 ht
        rw [fill_same _ _ _ t ht (hroom j o t hj hd)]
      · rw [fill_other _ _ _ t ht]
        refine h.old t fun j o hj hd => ?_
        have hjo := (Array.getElem?_eq_some_iff.1 hj).1
        rcases Nat.lt_or_ge j l.length with g | g
        · exact absurd ((hmem t).2 ⟨j, o, g, hj, hd⟩) ht
        · exact unl (by rw [h.size]; exact hjo) (hun j g hjo)
    rw [e]
    refine hlast _ w h.grown fun d hd => ?_
    obtain ⟨j, o, hlt, hj, hdd⟩ := (hmem d).1 hd
    exact h.new j o d hj hdd (hall j hlt)
  · unfold left
    simp
  · intro j hj hjs
    rw [Array.getD_eq_getD_getElem?, Array.getElem?_replicate, if_pos hjs]; rfl
  · refine ⟨by simp, fun j o hj hl => ?_, hrf _, rfl, rfl, fun _ _ => rfl, fun j o d hj _ hl => ?_⟩
    · rw [h0 j] at hl; cases hl
    · rw [h0 j] at hl; cases hl
/-- .. the place from which on they do given as a number. -/
theorem wp_region_tailN (m : Nat) {id : Nat} {a0 : Act} {w0 : World} {R : World → World → Prop} (htr : ∀ a b c, R a b → R b c → R a c) (hrf : ∀ w, R w w) (Φ : Tmp → Value → World → Prop) (hmono : ∀ d v w w', R w w' → Φ d v w → Φ d v w')
    (hm : P.follows .mixedOrders = true) (hchk : chk ops = true) (hfit : fits ops a0.tmps.size = true) (hlt : m < ops.size) (ht : tailB .any ops m = true)
    (hstep : Each (fun i o => ∀ a w, R { w0 with drawn := w0.drawn + 1 } w → Seen .any ops a0 Φ i a w → o.wp P a w (fun a' w' => R w w' ∧ ∃ v, a' = a.put o.dst v ∧ ∀ d, o.dst = some d → Φ d v w') Q) 0 (ops.toList.take m))
    (hlast : ∀ (vs : Tmp → Value) w, R { w0 with drawn := w0.drawn + 1 } w → (∀ d ∈ dstL (ops.toList.take m), Φ d (vs d) w) → seqWp P Q (ops.toList.drop m) (fill a0 vs (dstL (ops.toList.take m))) w) : (Code.region id ops true).wp P Q a0 w0 := by
  have hl : (ops.toList.take m).length = m := by simp; omega
  refine wp_region_tail htr hrf Φ hmono hm hchk hfit (l := ops.toList.take m) (tail := ops.toList.drop m) (List.take_append_drop m ops.toList).symm ?_ (by rw [hl]; exact ht) hstep hlast
  intro h
  have := congrArg List.length h
  simp at this
  omega
theorem eval_fill {vs : Tmp → Value} {l : List Tmp} {a : Act} {t : Tmp} (h : t ∈ l) (hs : t < a.tmps.size) : (fill a vs l).eval (.tmp t) = vs t := fill_same vs l a t h hs
theorem eval_other {vs : Tmp → Value} {l : List Tmp} {a : Act} {t : Tmp} (h : t ∉ l) : (fill a vs l).eval (.tmp t) = a.eval (.tmp t) := fill_other vs l a t h
theorem eval_put {a : Act} {d t : Tmp} {v : Value} (h : t ≠ d) : (a.put (some d) v).eval (.tmp t) = a.eval (.tmp t) := by
  show (a.put (some d) v).tmps.getD t undef = a.tmps.getD t undef
  rw [put_getD, if_neg (fun k => h k.1)]
theorem eval_put_same {a : Act} {d : Tmp} {v : Value} (h : d < a.tmps.size) : (a.put (some d) v).eval (.tmp d) = v := by
  show (a.put (some d) v).tmps.getD d undef = v
  rw [put_getD, if_pos ⟨rfl, h⟩]
theorem lt_put {a : Act} {d : Option Tmp} {v : Value} {n : Nat} (h : n < a.tmps.size) : n < (a.put d v).tmps.size := by rw [(put_room a d v).1]; exact h
theorem lt_fill {a : Act} {vs : Tmp → Value} {l : List Tmp} {n : Nat} (h : n < a.tmps.size) : n < (fill a vs l).tmps.size := by rw [(fill_room vs l a).1]; exact h
theorem name_frame {C : Code} {A : Act} {w : World} (h : ∀ a0, a0 = A → C.wp P Q a0 w) : C.wp P Q A w := h A rfl
theorem seq_cons {o : Oper} {l : List Oper} {a : Act} {w : World} (h : o.wp P a w (fun a' w' => seqWp P Q l a' w') Q) : seqWp P Q (o :: l) a w := h
theorem seq_nil {a : Act} {w : World} (h : Q .normal a w) : seqWp P Q [] a w := h
theorem name_seq {l : List Oper} {A : Act} {w : World} (h : ∀ a0, a0 = A → seqWp P Q l a0 w) : seqWp P Q l A w := h A rfl
end Slots
end Go.Proofs.YtcpmbjlhblkniaaDoor
