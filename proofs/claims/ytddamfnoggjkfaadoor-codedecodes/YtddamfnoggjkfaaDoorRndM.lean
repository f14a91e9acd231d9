/- What is read from bytes is what writes them (P5.5, P5.6): plain mathematics. -/
import Derived.Test.YtddamfnoggjkfaaDoorDecM
import Derived.Test.YtddamfnoggjkfaaDoorEncS
namespace Go.Proofs.YtddamfnoggjkfaaDoor
namespace Dec
theorem zig_unzig {u : Nat} : Enc.zig (unzig u) = u := by
  unfold unzig Enc.zig
  split
  · rw [if_neg (by omega)]; omega
  · rw [if_pos (by omega)]; omega
theorem num_back : ∀ (f i u : Nat) (l : List Int) (n : Int) (l' : List Int), f + i = 10 → i ≤ 9 → (∀ z ∈ l, 0 ≤ z ∧ z ≤ 255) → num f i u l = (n, l', 0) → ∃ v : Nat, l = Enc.sevN v ++ l' ∧ n = unzig (u + v * 128 ^ i) ∧ (0 < i → 0 < v)
  | 0, i, u, l, n, l', hi, h9, _, _ => by omega
  | f + 1, i, u, [], n, l', _, _, _, h => by rw [num_nil] at h; simp at h
  | f + 1, i, u, b :: r, n, l', hi, h9, hb, h => by
    have hb1 := hb b List.mem_cons_self
    by_cases hbad : (0 < i ∧ b = 0) ∨ (i = 9 ∧ 1 < b)
    · rw [num_bad hbad] at h; simp at h
    · by_cases h128 : b < 128
      · rw [num_last hbad h128] at h
        simp only [Prod.mk.injEq, and_true] at h
        refine ⟨b.toNat, ?_, ?_, fun h0 => ?_⟩
        · rw [Enc.sevN_lo (by omega), ← h.2]
          simp; omega
        · rw [← h.1, show (b % 128).toNat = b.toNat by omega]
        · have : b ≠ 0 := fun e => hbad (Or.inl ⟨h0, e⟩)
          omega
      · rw [num_more hbad h128] at h
        obtain ⟨v, e1, e2, e3⟩ := num_back f (i + 1) _ r n l' (by omega) (by have : i ≠ 9 := fun e => hbad (Or.inr ⟨e, by omega⟩); omega) (fun z hz => hb z (List.mem_cons_of_mem _ hz)) h
        have hv := e3 (by omega)
        refine ⟨(b % 128).toNat + 128 * v, ?_, ?_, fun _ => by omega⟩
        · rw [Enc.sevN_hi (by omega), show ((b % 128).toNat + 128 * v) / 128 = v by omega, List.cons_append, ← e1]
          congr 1
          omega
        · rw [e2]
          congr 1
          rw [Nat.pow_succ, Nat.add_mul]
          have : v * (128 ^ i * 128) = 128 * v * 128 ^ i := by rw [Nat.mul_comm (128 ^ i) 128, ← Nat.mul_assoc, Nat.mul_comm v 128]
          omega
theorem number_back {l l' : List Int} {n : Int} (hb : ∀ z ∈ l, 0 ≤ z ∧ z ≤ 255) (h : number l 0 = (n, l', 0)) : l = Enc.sev n ++ l' := by
  obtain ⟨v, e1, e2, _⟩ := num_back 10 0 0 l n l' rfl (by omega) hb h
  rw [Nat.zero_add, Nat.pow_zero, Nat.mul_one] at e2
  rw [Enc.sev, e2, zig_unzig]
  exact e1
theorem fail_ne {e x : Int} (hx : x ≠ 0) : fail e x ≠ 0 := by unfold fail; split <;> assumption
/-- A reader whose errors stay. -/
structure Sticky {α : Type} (f : List Int → Int → α × List Int × Int) : Prop where
  st : ∀ l e, e ≠ 0 → (f l e).2.2 ≠ 0
theorem number_st : Sticky number := ⟨fun l e h => by rw [number_e h]; exact h⟩
theorem count_st (most : Int) : Sticky (count most) := ⟨fun l e h => by
  unfold count
  split
  · exact fail_ne (by decide)
  · rw [number_e h]; exact h⟩
theorem yes_st : Sticky yes := ⟨fun l e h => by
  unfold yes
  simp only
  split
  · exact fail_ne (by decide)
  · rw [number_e h]; exact h⟩
theorem bytes_st (n : Nat) : Sticky (bytes n) := ⟨fun l e h => by rw [bytes_e h]; exact h⟩
theorem byte_st : Sticky byte := ⟨fun l e h => by rw [byte_e h]; exact h⟩
theorem instruction_st : Sticky instruction := ⟨fun l e h => by
  unfold instruction
  have h1 := byte_st.st l e h
  split
  · split
    · exact number_st.st _ _ h1
    · exact h1
  · exact fail_ne (by decide)⟩
theorem times_st {α : Type} {f : List Int → Int → α × List Int × Int} (hf : Sticky f) (n : Nat) : Sticky (times f n) := ⟨by
  induction n with
  | zero => intro l e h; exact h
  | succ n ih => intro l e h; exact ih _ _ (hf.st l e h)⟩
theorem numbers_st (most : Int) : Sticky (numbers most) := ⟨fun l e h => (times_st number_st _).st _ _ ((count_st most).st l e h)⟩
theorem answer_st : Sticky answer := ⟨fun l e h => number_st.st _ _ ((numbers_st 6).st _ _ ((bytes_st _).st _ _ ((count_st 24).st _ _ (yes_st.st _ _ (number_st.st l e h)))))⟩
/-- A reader that reads back what is written. -/
structure Back {α : Type} (f : List Int → Int → α × List Int × Int) (g : α → List Int) : Prop where
  bk : ∀ l, (∀ z ∈ l, 0 ≤ z ∧ z ≤ 255) → (f l 0).2.2 = 0 → l = g (f l 0).1 ++ (f l 0).2.1
theorem number_bk : Back number Enc.sev := ⟨fun _ hb h => number_back hb (Prod.ext rfl (Prod.ext rfl h))⟩
theorem left_ok {α : Type} {f : List Int → Int → α × List Int × Int} {g : α → List Int} (hf : Back f g) {l : List Int} (hb : ∀ z ∈ l, 0 ≤ z ∧ z ≤ 255) (h : (f l 0).2.2 = 0) : ∀ z ∈ (f l 0).2.1, 0 ≤ z ∧ z ≤ 255 := fun z hz => hb z (by rw [hf.bk l hb h]; exact List.mem_append_right _ hz)
theorem count_bk (most : Int) : Back (count most) Enc.sev := ⟨fun l hb h => by
  unfold count at h ⊢
  split at h
  · exact absurd h (fail_ne (by decide))
  · rename_i hn
    rw [if_neg hn]
    exact number_bk.bk l hb h⟩
theorem yes_bk : Back yes (fun b => Enc.sev (if b = true then 1 else 0)) := ⟨fun l hb h => by
  unfold yes at h ⊢
  simp only at h ⊢
  split at h
  · exact absurd h (fail_ne (by decide))
  · rename_i hn
    have := number_bk.bk l hb h
    have hn' : (number l 0).1 = 0 ∨ (number l 0).1 = 1 := by omega
    rcases hn' with e | e
    · rw [e] at this ⊢; exact this
    · rw [e] at this ⊢; exact this⟩
theorem times_bk {α : Type} {f : List Int → Int → α × List Int × Int} {g : α → List Int} (hf : Back f g) (hs : Sticky f) : ∀ n, Back (times f n) (fun xs => xs.flatMap g)
  | 0 => ⟨fun l _ _ => rfl⟩
  | n + 1 => ⟨fun l hb h => by
    have h1 : (f l 0).2.2 = 0 := by
      by_cases hh : (f l 0).2.2 = 0
      · exact hh
      · exact absurd h ((times_st hs n).st _ _ hh)
    have e1 := hf.bk l hb h1
    have e2 := (times_bk hf hs n).bk (f l 0).2.1 (left_ok hf hb h1) (by rw [times, h1] at h; exact h)
    rw [times, List.flatMap_cons]
    simp only
    rw [h1, List.append_assoc, ← e2]
    exact e1⟩
theorem numbers_bk (most : Int) (l : List Int) (hb : ∀ z ∈ l, 0 ≤ z ∧ z ≤ 255) (h : (numbers most l 0).2.2 = 0) : l = Enc.many (numbers most l 0).1 ++ (numbers most l 0).2.1 := by
  unfold numbers at h ⊢
  have h1 : (count most l 0).2.2 = 0 := by
    by_cases hh : (count most l 0).2.2 = 0
    · exact hh
    · exact absurd h ((times_st number_st _).st _ _ hh)
  have e1 := (count_bk most).bk l hb h1
  rw [h1] at h ⊢
  have e2 := (times_bk number_bk number_st _).bk _ (left_ok (count_bk most) hb h1) h
  unfold Enc.many
  rw [times_len, List.append_assoc, ← e2]
  have hn : 0 ≤ (count most l 0).1 := by
    unfold count
    split
    · simp
    · omega
  rw [show (((count most l 0).1.toNat : Nat) : Int) = (count most l 0).1 by omega]
  exact e1
theorem byte_bk : Back byte (fun b => [b]) := ⟨fun l hb h => by
  cases l with
  | nil => rw [byte_nil] at h; simp at h
  | cons b r => rfl⟩
theorem instruction_bk : Back instruction Enc.ins := ⟨fun l hb h => by
  unfold instruction at h ⊢
  split at h
  · rename_i ho
    rw [if_pos ho]
    split at h
    · rename_i hn
      rw [if_pos hn]
      have h1 : (byte l 0).2.2 = 0 := by
        by_cases hh : (byte l 0).2.2 = 0
        · exact hh
        · exact absurd h (number_st.st _ _ hh)
      have e1 := byte_bk.bk l hb h1
      rw [h1] at h ⊢
      have e2 := number_bk.bk _ (left_ok byte_bk hb h1) h
      simp only [Enc.ins, hn, if_true, List.cons_append]
      rw [← e2]
      exact e1
    · rename_i hn
      rw [if_neg hn]
      have e1 := byte_bk.bk l hb h
      simp only [Enc.ins, hn, List.cons_append]
      exact e1
  · exact absurd h (fail_ne (by decide))⟩
theorem text_bst {c : List Int} (h : ∀ z ∈ c, 0 ≤ z ∧ z ≤ 255) : Enc.text (bst c) = c := by
  unfold Enc.text bst
  rw [List.toList_toArray, List.map_map]
  have : ∀ z ∈ c, ((fun b : UInt8 => (b.toNat : Int)) ∘ byt) z = z := fun z hz => byt_toNat (h z hz)
  rw [List.map_congr_left this]
  simp
theorem bst_len (c : List Int) : (bst c).size = c.length := by
  show (c.map byt).toArray.size = c.length
  simp
theorem bytes_bk (n : Nat) (l : List Int) (h : (bytes n l 0).2.2 = 0) : l = (bytes n l 0).1 ++ (bytes n l 0).2.1 ∧ (bytes n l 0).1.length = n := by
  by_cases hs : l.length < n
  · rw [bytes_short hs] at h; simp at h
  · rw [bytes_ok hs]
    exact ⟨(List.take_append_drop n l).symm, by simp; omega⟩
/-- Of an answer's value. -/
def ansV (v : AV) : List Int := Enc.sev v.1 ++ Enc.sev (if v.2.1 = true then 1 else 0) ++ Enc.sev v.2.2.1.size ++ Enc.text v.2.2.1 ++ Enc.many v.2.2.2.1 ++ Enc.sev v.2.2.2.2
theorem answer_bk : Back answer ansV := ⟨fun l hb h => by
  unfold answer at h ⊢
  simp only at h ⊢
  obtain ⟨a, ha⟩ : ∃ a, number l 0 = a := ⟨_, rfl⟩
  rw [ha] at h ⊢
  obtain ⟨b, hb'⟩ : ∃ b, yes a.2.1 a.2.2 = b := ⟨_, rfl⟩
  rw [hb'] at h ⊢
  obtain ⟨c, hc⟩ : ∃ c, count 24 b.2.1 b.2.2 = c := ⟨_, rfl⟩
  rw [hc] at h ⊢
  obtain ⟨d, hd⟩ : ∃ d, bytes c.1.toNat c.2.1 c.2.2 = d := ⟨_, rfl⟩
  rw [hd] at h ⊢
  obtain ⟨f, hf⟩ : ∃ f, numbers 6 d.2.1 d.2.2 = f := ⟨_, rfl⟩
  rw [hf] at h ⊢
  obtain ⟨g, hg⟩ : ∃ g, number f.2.1 f.2.2 = g := ⟨_, rfl⟩
  rw [hg] at h ⊢
  have f0 : f.2.2 = 0 := by
    by_cases hh : f.2.2 = 0
    · exact hh
    · exact absurd h (by rw [← hg]; exact number_st.st _ _ hh)
  have d0 : d.2.2 = 0 := by
    by_cases hh : d.2.2 = 0
    · exact hh
    · exact absurd f0 (by rw [← hf]; exact (numbers_st 6).st _ _ hh)
  have c0 : c.2.2 = 0 := by
    by_cases hh : c.2.2 = 0
    · exact hh
    · exact absurd d0 (by rw [← hd]; exact (bytes_st _).st _ _ hh)
  have b0 : b.2.2 = 0 := by
    by_cases hh : b.2.2 = 0
    · exact hh
    · exact absurd c0 (by rw [← hc]; exact (count_st 24).st _ _ hh)
  have a0 : a.2.2 = 0 := by
    by_cases hh : a.2.2 = 0
    · exact hh
    · exact absurd b0 (by rw [← hb']; exact yes_st.st _ _ hh)
  rw [a0] at hb'
  rw [b0] at hc
  rw [c0] at hd
  rw [d0] at hf
  rw [f0] at hg
  have e1 := number_bk.bk l hb (by rw [ha]; exact a0)
  rw [ha] at e1
  have r1 : ∀ z ∈ a.2.1, 0 ≤ z ∧ z ≤ 255 := fun z hz => hb z (by rw [e1]; exact List.mem_append_right _ hz)
  have e2 := yes_bk.bk a.2.1 r1 (by rw [hb']; exact b0)
  rw [hb'] at e2
  have r2 : ∀ z ∈ b.2.1, 0 ≤ z ∧ z ≤ 255 := fun z hz => r1 z (by rw [e2]; exact List.mem_append_right _ hz)
  have e3 := (count_bk 24).bk b.2.1 r2 (by rw [hc]; exact c0)
  have c1 : 0 ≤ c.1 := by rw [← hc]; unfold count; split; simp; omega
  rw [hc] at e3
  have r3 : ∀ z ∈ c.2.1, 0 ≤ z ∧ z ≤ 255 := fun z hz => r2 z (by rw [e3]; exact List.mem_append_right _ hz)
  obtain ⟨e4, e4'⟩ := bytes_bk c.1.toNat c.2.1 (by rw [hd]; exact d0)
  rw [hd] at e4 e4'
  have r4 : ∀ z ∈ d.2.1, 0 ≤ z ∧ z ≤ 255 := fun z hz => r3 z (by rw [e4]; exact List.mem_append_right _ hz)
  have r4' : ∀ z ∈ d.1, 0 ≤ z ∧ z ≤ 255 := fun z hz => r3 z (by rw [e4]; exact List.mem_append_left _ hz)
  have e5 := numbers_bk 6 d.2.1 r4 (by rw [hf]; exact f0)
  rw [hf] at e5
  have r5 : ∀ z ∈ f.2.1, 0 ≤ z ∧ z ≤ 255 := fun z hz => r4 z (by rw [e5]; exact List.mem_append_right _ hz)
  have e6 := number_bk.bk f.2.1 r5 (by rw [hg]; exact h)
  rw [hg] at e6
  unfold ansV
  simp only
  rw [text_bst r4', bst_len, e4', show ((c.1.toNat : Nat) : Int) = c.1 by omega]
  simp only [List.append_assoc]
  rw [← e6, ← e5, ← e4, ← e3, ← e2]
  exact e1⟩
/-- A program's value in bytes. -/
def progV (v : PV) : List Int := [115, 100, 49] ++ Enc.code v.1 ++ Enc.many v.2.1 ++ Enc.sev v.2.2.length ++ v.2.2.flatMap ansV
theorem prog_bk {l : List Int} (hb : ∀ z ∈ l, 0 ≤ z ∧ z ≤ 255) (h : (prog l).2.2 = 0) : l = progV (prog l).1 := by
  unfold prog at h ⊢
  simp only at h ⊢
  obtain ⟨a, ha⟩ : ∃ a, bytes 3 l 0 = a := ⟨_, rfl⟩
  rw [ha] at h ⊢
  obtain ⟨e2, he2⟩ : ∃ e, (if a.1 = [115, 100, 49] then a.2.2 else fail a.2.2 4) = e := ⟨_, rfl⟩
  rw [he2] at h ⊢
  obtain ⟨c, hc⟩ : ∃ c, count 8000 a.2.1 e2 = c := ⟨_, rfl⟩
  rw [hc] at h ⊢
  obtain ⟨d, hd⟩ : ∃ d, times instruction c.1.toNat c.2.1 c.2.2 = d := ⟨_, rfl⟩
  rw [hd] at h ⊢
  obtain ⟨f, hf⟩ : ∃ f, numbers 2000 d.2.1 d.2.2 = f := ⟨_, rfl⟩
  rw [hf] at h ⊢
  obtain ⟨g, hg⟩ : ∃ g, count 2000 f.2.1 f.2.2 = g := ⟨_, rfl⟩
  rw [hg] at h ⊢
  obtain ⟨k, hk⟩ : ∃ k, times answer g.1.toNat g.2.1 g.2.2 = k := ⟨_, rfl⟩
  rw [hk] at h ⊢
  have kl : k.2.1 = [] ∧ k.2.2 = 0 := by
    split at h
    · exact absurd h (fail_ne (by decide))
    · rename_i hh
      exact ⟨List.length_eq_zero_iff.1 (by omega), h⟩
  have g0 : g.2.2 = 0 := by
    by_cases hh : g.2.2 = 0
    · exact hh
    · exact absurd kl.2 (by rw [← hk]; exact (times_st answer_st _).st _ _ hh)
  have f0 : f.2.2 = 0 := by
    by_cases hh : f.2.2 = 0
    · exact hh
    · exact absurd g0 (by rw [← hg]; exact (count_st 2000).st _ _ hh)
  have d0 : d.2.2 = 0 := by
    by_cases hh : d.2.2 = 0
    · exact hh
    · exact absurd f0 (by rw [← hf]; exact (numbers_st 2000).st _ _ hh)
  have c0 : c.2.2 = 0 := by
    by_cases hh : c.2.2 = 0
    · exact hh
    · exact absurd d0 (by rw [← hd]; exact (times_st instruction_st _).st _ _ hh)
  have z2 : e2 = 0 := by
    by_cases hh : e2 = 0
    · exact hh
    · exact absurd c0 (by rw [← hc]; exact (count_st 8000).st _ _ hh)
  have ha2 : a.1 = [115, 100, 49] ∧ a.2.2 = 0 := by
    by_cases hh : a.1 = [115, 100, 49]
    · rw [if_pos hh] at he2; exact ⟨hh, by omega⟩
    · rw [if_neg hh] at he2; exact absurd (he2.trans z2) (fail_ne (by decide))
  rw [z2] at hc
  rw [c0] at hd
  rw [d0] at hf
  rw [f0] at hg
  rw [g0] at hk
  obtain ⟨e1, _⟩ := bytes_bk 3 l (by rw [ha]; exact ha2.2)
  rw [ha, ha2.1] at e1
  have r1 : ∀ z ∈ a.2.1, 0 ≤ z ∧ z ≤ 255 := fun z hz => hb z (by rw [e1]; exact List.mem_append_right _ hz)
  have e3 := (count_bk 8000).bk a.2.1 r1 (by rw [hc]; exact c0)
  have c1 : 0 ≤ c.1 := by rw [← hc]; unfold count; split; simp; omega
  rw [hc] at e3
  have r3 : ∀ z ∈ c.2.1, 0 ≤ z ∧ z ≤ 255 := fun z hz => r1 z (by rw [e3]; exact List.mem_append_right _ hz)
  have e4 := (times_bk instruction_bk instruction_st c.1.toNat).bk c.2.1 r3 (by rw [hd]; exact d0)
  have n4 : d.1.length = c.1.toNat := by rw [← hd]; exact times_len _ _ _ _
  rw [hd] at e4
  have r4 : ∀ z ∈ d.2.1, 0 ≤ z ∧ z ≤ 255 := fun z hz => r3 z (by rw [e4]; exact List.mem_append_right _ hz)
  have e5 := numbers_bk 2000 d.2.1 r4 (by rw [hf]; exact f0)
  rw [hf] at e5
  have r5 : ∀ z ∈ f.2.1, 0 ≤ z ∧ z ≤ 255 := fun z hz => r4 z (by rw [e5]; exact List.mem_append_right _ hz)
  have e6 := (count_bk 2000).bk f.2.1 r5 (by rw [hg]; exact g0)
  have g1 : 0 ≤ g.1 := by rw [← hg]; unfold count; split; simp; omega
  rw [hg] at e6
  have r6 : ∀ z ∈ g.2.1, 0 ≤ z ∧ z ≤ 255 := fun z hz => r5 z (by rw [e6]; exact List.mem_append_right _ hz)
  have e7 := (times_bk answer_bk answer_st g.1.toNat).bk g.2.1 r6 (by rw [hk]; exact kl.2)
  have n7 : k.1.length = g.1.toNat := by rw [← hk]; exact times_len _ _ _ _
  rw [hk, kl.1, List.append_nil] at e7
  unfold progV Enc.code
  simp only
  rw [n4, n7, show ((c.1.toNat : Nat) : Int) = c.1 by omega, show ((g.1.toNat : Nat) : Int) = g.1 by omega]
  simp only [List.append_assoc]
  rw [← e7, ← e6, ← e5, ← e4, ← e3]
  exact e1
end Dec
end Go.Proofs.YtddamfnoggjkfaaDoor
