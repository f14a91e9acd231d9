/- Code out of text (P5.8): lines, words and numbers: plain mathematics. -/
import Derived.Test.YtoolimfdadpmpaaDoorTxtE
import Derived.Lib.IndexMore
import Derived.Lib.AtoiAll
namespace Go.Proofs.YtoolimfdadpmpaaDoor
open Go.ChangeShapes Go.WideShapes Go.ChangeAt Go.RowKit
set_option linter.unusedVariables false
namespace Prs
open Go.Lib
def pre (h : List UInt8) : List (List UInt8) → List (List UInt8)
  | [] => [h]
  | x :: t => (h ++ x) :: t
/-- A text, cut at each byte c. -/
def parts (c : UInt8) : List UInt8 → List (List UInt8)
  | [] => [[]]
  | x :: r => if x = c then [] :: parts c r else pre [x] (parts c r)
theorem parts_ne (c : UInt8) (s : List UInt8) : parts c s ≠ [] := by
  cases s with
  | nil => simp [parts]
  | cons x r =>
    unfold parts
    split
    · simp
    · cases parts c r <;> simp [pre]
theorem pre_nil {l : List (List UInt8)} (h : l ≠ []) : pre [] l = l := by
  cases l with
  | nil => exact absurd rfl h
  | cons a t => rfl
theorem pre_pre (a b : List UInt8) (l : List (List UInt8)) : pre a (pre b l) = pre (a ++ b) l := by
  cases l <;> simp [pre]
theorem parts_at {c : UInt8} (r : List UInt8) : parts c (c :: r) = [] :: parts c r := by simp [parts]
theorem parts_off {c x : UInt8} (h : x ≠ c) (r : List UInt8) : parts c (x :: r) = pre [x] (parts c r) := by simp [parts, h]
theorem parts_app {c : UInt8} : ∀ {a : List UInt8}, c ∉ a → ∀ s, parts c (a ++ s) = pre a (parts c s)
  | [], _, s => (pre_nil (parts_ne c s)).symm
  | x :: a, h, s => by
    have h1 : x ≠ c := fun e => h (by simp [e])
    have h2 : c ∉ a := fun e => h (by simp [e])
    rw [List.cons_append, parts_off h1, parts_app h2 s, pre_pre]
    rfl
theorem parts_none {c : UInt8} {s : List UInt8} (h : c ∉ s) : parts c s = [s] := by
  have := parts_app h []
  rw [List.append_nil] at this
  rw [this]
  simp [parts, pre]
theorem parts_cut {c : UInt8} {a : List UInt8} (h : c ∉ a) (r : List UInt8) : parts c (a ++ c :: r) = a :: parts c r := by
  rw [parts_app h, parts_at]
  simp [pre]
theorem parts_len (c : UInt8) : ∀ s : List UInt8, (parts c s).length ≤ s.length + 1
  | [] => by simp [parts]
  | x :: r => by
    have := parts_len c r
    by_cases h : x = c
    · rw [h, parts_at]; simp; omega
    · rw [parts_off h]
      cases hp : parts c r with
      | nil => simp [pre]
      | cons a t => rw [hp] at this; simp [pre] at this ⊢; omega
theorem parts_mem (c : UInt8) : ∀ (s : List UInt8) (t : List UInt8), t ∈ parts c s → t.length ≤ s.length
  | [], t, h => by simp [parts] at h; simp [h]
  | x :: r, t, h => by
    have ih := parts_mem c r
    by_cases hx : x = c
    · rw [hx, parts_at] at h
      rcases List.mem_cons.1 h with h | h
      · simp [h]
      · have := ih t h; simp; omega
    · rw [parts_off hx] at h
      cases hp : parts c r with
      | nil => exact absurd hp (parts_ne c r)
      | cons a u =>
        rw [hp] at h ih
        simp [pre] at h
        rcases h with h | h
        · have := ih a (by simp); rw [h]; simp; omega
        · have := ih t (by simp [h]); simp; omega
theorem occ_head (c : UInt8) (r : List UInt8) : occAt (c :: r) [c] 0 = true := by simp [occAt, List.isPrefixOf]
theorem cut_case (c : UInt8) : ∀ s : List UInt8, (c ∉ s ∧ cut s [c] = (s, [], false)) ∨ (∃ a r, s = a ++ c :: r ∧ c ∉ a ∧ cut s [c] = (a, r, true)) := by
  have key : ∀ s : List UInt8, (c ∉ s ∧ index s [c] = -1) ∨ (∃ a r, s = a ++ c :: r ∧ c ∉ a ∧ index s [c] = (a.length : Int)) := by
    intro s
    induction s with
    | nil => exact Or.inl ⟨by simp, by simp [index]⟩
    | cons x s ih =>
      by_cases hx : x = c
      · subst hx
        refine Or.inr ⟨[], s, rfl, by simp, ?_⟩
        simp [index, List.isPrefixOf]
      · have hp : ([c] : List UInt8).isPrefixOf (x :: s) = false := by
          simp [List.isPrefixOf]; exact fun e => hx e.symm
        rcases ih with ⟨h1, h2⟩ | ⟨a, r, h1, h2, h3⟩
        · refine Or.inl ⟨by simp [h1]; exact fun e => hx e.symm, ?_⟩
          unfold index
          rw [hp, h2]
          rfl
        · refine Or.inr ⟨x :: a, r, by rw [h1]; rfl, by simp [h2]; exact fun e => hx e.symm, ?_⟩
          unfold index
          rw [hp, h3]
          have : ((a.length : Int) == -1) = false := by rw [beq_eq_false_iff_ne]; omega
          rw [this]
          simp
  intro s
  rcases key s with ⟨h1, h2⟩ | ⟨a, r, h1, h2, h3⟩
  · refine Or.inl ⟨h1, ?_⟩
    unfold cut
    rw [h2]
    rfl
  · refine Or.inr ⟨a, r, h1, h2, ?_⟩
    unfold cut
    rw [h3, if_pos (by omega), Int.toNat_natCast, h1]
    simp
/-- Digits. -/
def val : Nat → List UInt8 → Nat
  | acc, [] => acc
  | acc, x :: r => val (acc * 10 + (x.toNat - 48)) r
theorem val_app : ∀ (a b : List UInt8) (acc : Nat), val acc (a ++ b) = val (val acc a) b
  | [], b, acc => rfl
  | x :: a, b, acc => by
    show val (acc * 10 + (x.toNat - 48)) (a ++ b) = val (val (acc * 10 + (x.toNat - 48)) a) b
    exact val_app a b _
theorem val_one (acc : Nat) (x : UInt8) : val acc [x] = acc * 10 + (x.toNat - 48) := rfl
theorem head_app {a b : List UInt8} (h : a ≠ []) : (a ++ b).head? = a.head? := by
  cases a with
  | nil => exact absurd rfl h
  | cons x t => rfl
def dig (x : UInt8) : Prop := 48 ≤ x.toNat ∧ x.toNat ≤ 57
theorem dig_of {k : Nat} (h : k < 10) : dig (UInt8.ofNat (48 + k)) ∧ (UInt8.ofNat (48 + k)).toNat = 48 + k := by
  have : (UInt8.ofNat (48 + k)).toNat = 48 + k := by simp; omega
  exact ⟨⟨by omega, by omega⟩, this⟩
theorem dig_back {x : UInt8} (h : dig x) : UInt8.ofNat (48 + (x.toNat - 48)) = x := by
  have : 48 + (x.toNat - 48) = x.toNat := by have := h.1; omega
  rw [this]
  simp
theorem digs_step {n : Nat} (h : ¬ n < 10) : decDigits n = decDigits (n / 10) ++ [UInt8.ofNat (48 + n % 10)] := by
  rw [decDigits, dif_neg h]
theorem digs_all : ∀ (f n : Nat), n ≤ f → ∀ x ∈ decDigits n, dig x
  | 0, n, hn, x, hx => by
    rw [decDigits_one (by omega)] at hx
    simp only [List.mem_singleton] at hx
    rw [hx]; exact (dig_of (by omega)).1
  | f + 1, n, hn, x, hx => by
    by_cases h : n < 10
    · rw [decDigits_one h] at hx
      simp only [List.mem_singleton] at hx
      rw [hx]; exact (dig_of h).1
    · rw [digs_step h] at hx
      rcases List.mem_append.1 hx with hx | hx
      · exact digs_all f (n / 10) (by omega) x hx
      · simp only [List.mem_singleton] at hx
        rw [hx]; exact (dig_of (by omega)).1
theorem val_digs : ∀ (f n : Nat), n ≤ f → val 0 (decDigits n) = n
  | 0, n, hn => by
    rw [decDigits_one (by omega), val_one, (dig_of (show n < 10 by omega)).2]; omega
  | f + 1, n, hn => by
    by_cases h : n < 10
    · rw [decDigits_one h, val_one, (dig_of h).2]; omega
    · rw [digs_step h, val_app, val_digs f (n / 10) (by omega), val_one, (dig_of (show n % 10 < 10 by omega)).2]; omega
theorem digs_ne (n : Nat) : decDigits n ≠ [] := by
  by_cases h : n < 10
  · rw [decDigits_one h]; simp
  · rw [digs_step h]; simp
theorem digs_len (n : Nat) (h : n < 1000000) : 1 ≤ (decDigits n).length ∧ (decDigits n).length ≤ 6 := by
  refine ⟨List.length_pos_iff.2 (digs_ne n), ?_⟩
  rw [decDigits_length]
  have h1 := nDigits_pos n
  rcases Nat.lt_or_ge 6 (nDigits n) with k | k
  · exfalso
    rcases Nat.lt_or_ge n 10 with a | a
    · rw [nDigits_small a] at k; omega
    rcases Nat.lt_or_ge n 100 with a | a
    · rw [nDigits_unique 1 n (by omega) (by omega)] at k; omega
    rcases Nat.lt_or_ge n 1000 with a | a
    · rw [nDigits_unique 2 n (by omega) (by omega)] at k; omega
    rcases Nat.lt_or_ge n 10000 with a | a
    · rw [nDigits_unique 3 n (by omega) (by omega)] at k; omega
    rcases Nat.lt_or_ge n 100000 with a | a
    · rw [nDigits_unique 4 n (by omega) (by omega)] at k; omega
    · rw [nDigits_unique 5 n (by omega) (by omega)] at k; omega
  · exact k
/-- Digits' first one is 0 only where there is no other. -/
theorem digs_head : ∀ (f n : Nat), n ≤ f → 0 < n → ∀ x, (decDigits n).head? = some x → x.toNat ≠ 48
  | 0, n, hn, h0, x, hx => by omega
  | f + 1, n, hn, h0, x, hx => by
    by_cases h : n < 10
    · rw [decDigits_one h] at hx
      simp only [List.head?_cons, Option.some.injEq] at hx
      rw [← hx, (dig_of h).2]; omega
    · rw [digs_step h] at hx
      rw [head_app (digs_ne _)] at hx
      exact digs_head f (n / 10) (by omega) (by omega) x hx
/-- What is written so is what its value writes. -/
theorem canon : ∀ (d : List UInt8), d ≠ [] → (∀ x ∈ d, dig x) → (1 < d.length → ∀ x, d.head? = some x → x.toNat ≠ 48) → decDigits (val 0 d) = d := by
  intro d
  generalize hl : d.length = m
  induction m generalizing d with
  | zero => intro h; exact absurd (List.length_eq_zero_iff.1 hl) h
  | succ m ih =>
    intro hne hd hh
    obtain ⟨a, c, rfl⟩ : ∃ a c, d = a ++ [c] := ⟨d.dropLast, d.getLast hne, (List.dropLast_concat_getLast hne).symm⟩
    have hc := hd c (by simp)
    by_cases ha : a = []
    · subst ha
      rw [List.nil_append, val_one, Nat.zero_mul, Nat.zero_add]
      have h10 : c.toNat - 48 < 10 := by have := hc.2; omega
      rw [decDigits_one h10, dig_back hc]
    · have hla : a.length = m := by simp at hl; omega
      have hpa := List.length_pos_iff.2 ha
      have hhead : ∀ x, a.head? = some x → x.toNat ≠ 48 := fun x hx => hh (by omega) x (by rw [head_app ha]; exact hx)
      have e := ih a hla ha (fun x hx => hd x (by simp [hx])) (fun _ => hhead)
      have h1 : 0 < val 0 a := by
        rcases Nat.eq_zero_or_pos (val 0 a) with z | z
        · exfalso
          rw [z, decDigits_one (by omega)] at e
          have := hhead (UInt8.ofNat (48 + 0)) (by rw [← e]; rfl)
          exact this (by decide)
        · exact z
      rw [val_app, val_one]
      have hk : c.toNat - 48 < 10 := by have := hc.2; omega
      rw [digs_step (by omega), show (val 0 a * 10 + (c.toNat - 48)) / 10 = val 0 a by omega, show (val 0 a * 10 + (c.toNat - 48)) % 10 = c.toNat - 48 by omega, e, dig_back hc]
/-- A number up to 8000, as it is written. -/
def num (d : List UInt8) : Option Nat := if val 0 d ≤ 8000 ∧ decDigits (val 0 d) = d then some (val 0 d) else none
theorem num_some {d : List UInt8} {n : Nat} (h : num d = some n) : n ≤ 8000 ∧ decDigits n = d := by
  unfold num at h
  split at h
  · rename_i h1
    simp only [Option.some.injEq] at h
    rw [← h]; exact h1
  · cases h
theorem num_of {d : List UInt8} {n : Nat} (h : n ≤ 8000) (hd : decDigits n = d) : num d = some n := by
  subst hd
  unfold num
  rw [val_digs n n (Nat.le_refl _), if_pos ⟨h, rfl⟩]
theorem num_no {d : List UInt8} (h : ∀ n, n ≤ 8000 → decDigits n ≠ d) : num d = none := by
  cases e : num d with
  | none => rfl
  | some n => exact absurd (num_some e).2 (h n (num_some e).1)
theorem parse_app : ∀ (a b : List UInt8) (acc u : Nat), parseUint10 acc a = .ok u → parseUint10 acc (a ++ b) = parseUint10 u b
  | [], b, acc, u, h => by simp only [parseUint10] at h; injection h with h; rw [h]; rfl
  | x :: a, b, acc, u, h => by
    simp only [parseUint10, List.cons_append] at h ⊢
    split at h
    · rename_i h1
      split at h
      · cases h
      · rename_i h2
        split at h
        · cases h
        · rename_i h3
          rw [if_pos h1, if_neg h2, if_neg h3]
          exact parse_app a b _ u h
    · cases h
theorem parse_digs : ∀ (f n : Nat), n ≤ f → n ≤ 8000 → parseUint10 0 (decDigits n) = .ok n
  | 0, n, hn, h8 => by
    have hz : n = 0 := by omega
    subst hz
    rw [decDigits_one (by omega)]; decide
  | f + 1, n, hn, h8 => by
    by_cases h : n < 10
    · rw [decDigits_one h]
      have e := (dig_of h).2
      simp only [parseUint10, e]
      rw [if_pos (by omega), if_neg (by omega), if_neg (by omega)]
      congr 1; omega
    · rw [digs_step h, parse_app _ _ _ _ (parse_digs f (n / 10) (by omega) (by omega))]
      have e := (dig_of (show n % 10 < 10 by omega)).2
      simp only [parseUint10, e]
      rw [if_pos (by omega), if_neg (by omega), if_neg (by omega)]
      congr 1; omega
theorem atoi_digs {n : Nat} (h : n ≤ 8000) : atoiAll (decDigits n) = .ok (n : Int) := by
  have hne := digs_ne n
  have hall := digs_all n n (Nat.le_refl _)
  have hp := parse_digs n n (Nat.le_refl _) h
  cases hd : decDigits n with
  | nil => exact absurd hd hne
  | cons c r =>
    rw [hd] at hall hp
    have hc := hall c (by simp)
    have h1 : ¬ (c.toNat = 43 ∨ c.toNat = 45) := by have := hc.1; omega
    have h2 : ¬ c.toNat = 45 := by have := hc.1; omega
    unfold atoiAll
    simp only
    rw [if_neg h1]
    unfold parseMag
    rw [if_neg (by simp), hp]
    simp only
    rw [if_neg (by omega), if_neg (by omega), if_neg h2]
/-- The number behind a word: what Atoi says of it decides. -/
theorem num_syn {d : List UInt8} (h : atoiAll d = .«syntax») : num d = none := num_no fun n hn e => by rw [← e, atoi_digs hn] at h; cases h
theorem num_rng {d : List UInt8} (h : atoiAll d = .range) : num d = none := num_no fun n hn e => by rw [← e, atoi_digs hn] at h; cases h
theorem num_out {d : List UInt8} {v : Int} (h : atoiAll d = .ok v) (hv : v < 0 ∨ 8000 < v) : num d = none := num_no fun n hn e => by
  rw [← e, atoi_digs hn] at h
  injection h with h
  omega
theorem num_in {d : List UInt8} {v : Nat} (hv : v ≤ 8000) : num d = if decDigits v = d then some v else num d := by
  split
  · rename_i e; exact num_of hv e
  · rfl
theorem num_bad {d : List UInt8} {v : Nat} (h : atoiAll d = .ok (v : Int)) (hd : decDigits v ≠ d) : num d = none := num_no fun n hn e => by
  rw [← e, atoi_digs hn] at h
  injection h with h
  have : n = v := by omega
  subst this
  exact hd e
theorem digs_blank (n : Nat) : (32 : UInt8) ∉ decDigits n := fun h => by
  have := (digs_all n n (Nat.le_refl _) 32 h).1
  exact absurd this (by decide)
/-- The Op that is called so; 0: none. -/
def opOf (w : List UInt8) : Int := if w = Txl.nm 1 then 1 else if w = Txl.nm 2 then 2 else if w = Txl.nm 3 then 3 else if w = Txl.nm 4 then 4 else if w = Txl.nm 5 then 5 else if w = Txl.nm 6 then 6 else 0
theorem opOf_in (w : List UInt8) : 0 ≤ opOf w ∧ opOf w ≤ 6 := by
  unfold opOf
  repeat (split; · omega)
  omega
theorem opOf_nm {w : List UInt8} {op : Int} (h1 : 1 ≤ op) (h2 : op ≤ 6) : w = Txl.nm op ↔ opOf w = op := by
  have e : op = 1 ∨ op = 2 ∨ op = 3 ∨ op = 4 ∨ op = 5 ∨ op = 6 := by omega
  constructor
  · intro hw
    subst hw
    rcases e with rfl | rfl | rfl | rfl | rfl | rfl <;> decide
  · intro hw
    unfold opOf at hw
    split at hw
    · rename_i k; rw [k, ← hw]
    · split at hw
      · rename_i k; rw [k, ← hw]
      · split at hw
        · rename_i k; rw [k, ← hw]
        · split at hw
          · rename_i k; rw [k, ← hw]
          · split at hw
            · rename_i k; rw [k, ← hw]
            · split at hw
              · rename_i k; rw [k, ← hw]
              · omega
/-- Words of a line, as an instruction. -/
def insW (op : Int) (r : List (List UInt8)) : Except Int Ins :=
  if op = 0 then .error 3
  else if numbered op = true then
    match r with
    | [d] => match num d with
      | some n => .ok ⟨op, n⟩
      | none => .error 4
    | _ => .error 4
  else match r with
    | [] => .ok ⟨op, 0⟩
    | _ => .error 4
def ins (t : List UInt8) : Except Int Ins := match parts 32 t with
  | [] => .error 3
  | w :: r => insW (opOf w) r
theorem ins_of {t w : List UInt8} {r : List (List UInt8)} (h : parts 32 t = w :: r) : ins t = insW (opOf w) r := by unfold ins; rw [h]
theorem insW_0 (r : List (List UInt8)) : insW 0 r = .error 3 := rfl
theorem insW_n {op : Int} (h0 : op ≠ 0) (hn : numbered op = true) {d : List UInt8} {n : Nat} (h : num d = some n) : insW op [d] = .ok ⟨op, n⟩ := by
  unfold insW; rw [if_neg h0, if_pos hn]; simp only [h]
theorem insW_m {op : Int} (h0 : op ≠ 0) (hn : numbered op = true) {d : List UInt8} (h : num d = none) : insW op [d] = .error 4 := by
  unfold insW; rw [if_neg h0, if_pos hn]; simp only [h]
theorem insW_k {op : Int} (h0 : op ≠ 0) (hn : numbered op = true) {r : List (List UInt8)} (h : r.length ≠ 1) : insW op r = .error 4 := by
  unfold insW; rw [if_neg h0, if_pos hn]
  match r, h with
  | [], _ => rfl
  | [d], h => exact absurd rfl h
  | _ :: _ :: _, _ => rfl
theorem insW_p {op : Int} (h0 : op ≠ 0) (hn : numbered op = false) : insW op [] = .ok ⟨op, 0⟩ := by
  unfold insW; rw [if_neg h0, if_neg (by rw [hn]; decide)]
theorem insW_q {op : Int} (h0 : op ≠ 0) (hn : numbered op = false) {r : List (List UInt8)} (h : r ≠ []) : insW op r = .error 4 := by
  unfold insW; rw [if_neg h0, if_neg (by rw [hn]; decide)]
  cases r with
  | nil => exact absurd rfl h
  | cons _ _ => rfl
/-- A number behind a blank, with whatever follows. -/
theorem insW_rest {op : Int} (h0 : op ≠ 0) (hn : numbered op = true) (d : List UInt8) : insW op (parts 32 d) = match num d with | some n => .ok ⟨op, n⟩ | none => .error 4 := by
  by_cases hb : (32 : UInt8) ∈ d
  · have hno : num d = none := num_no fun n _ e => digs_blank n (e ▸ hb)
    rw [hno]
    obtain ⟨a, r, e1, e2⟩ : ∃ a r, d = a ++ 32 :: r ∧ (32 : UInt8) ∉ a := by
      rcases cut_case 32 d with ⟨h, _⟩ | ⟨a, r, h1, h2, _⟩
      · exact absurd hb h
      · exact ⟨a, r, h1, h2⟩
    rw [e1, parts_cut e2]
    refine insW_k h0 hn ?_
    have := List.length_pos_iff.2 (parts_ne 32 r)
    rw [List.length_cons]; omega
  · rw [parts_none hb]
    cases h : num d with
    | none => exact insW_m h0 hn h
    | some n => exact insW_n h0 hn h
theorem insW_ok {op : Int} {r : List (List UInt8)} {x : Ins} (h6 : 0 ≤ op ∧ op ≤ 6) (h : insW op r = .ok x) : x.op = op ∧ 0 ≤ x.n ∧ x.n ≤ 8000 := by
  unfold insW at h
  split at h
  · cases h
  · split at h
    · split at h
      · split at h
        · rename_i n hn
          injection h with h
          subst h
          have := (num_some hn).1
          exact ⟨rfl, by simp, by simp; omega⟩
        · cases h
      · cases h
    · split at h
      · injection h with h
        subst h
        exact ⟨rfl, by simp, by simp⟩
      · cases h
theorem insOk_ins {t : List UInt8} {x : Ins} (h : ins t = .ok x) : InsOk x := by
  unfold ins at h
  split at h
  · cases h
  · rename_i w r _
    have h6 := opOf_in w
    obtain ⟨h1, h2, h3⟩ := insW_ok h6 h
    exact ⟨Enc.wf_small (by omega) (by omega), Enc.wf_small h2 (by omega)⟩
theorem insW_err {op : Int} {r : List (List UInt8)} {e : Int} (h : insW op r = .error e) : e = 3 ∨ e = 4 := by
  unfold insW at h
  split at h
  · injection h with h; exact Or.inl h.symm
  · split at h
    · split at h
      · split at h
        · cases h
        · injection h with h; exact Or.inr h.symm
      · injection h with h; exact Or.inr h.symm
    · split at h
      · cases h
      · injection h with h; exact Or.inr h.symm
theorem ins_err {t : List UInt8} {e : Int} (h : ins t = .error e) : e = 3 ∨ e = 4 := by
  unfold ins at h
  split at h
  · injection h with h; exact Or.inl h.symm
  · exact insW_err h
/-- Code of lines: the last one must be empty. -/
def res : List (List UInt8) → Nat → Except (Int × Int) (List Ins)
  | [], _ => .ok []
  | [t], k => if t = [] then .ok [] else .error ((k : Int) + 1, 5)
  | t :: u :: r, k => if 8000 ≤ k then .error ((k : Int) + 1, 1) else match ins t with
    | .error e => .error ((k : Int) + 1, e)
    | .ok x => match res (u :: r) (k + 1) with
      | .error q => .error q
      | .ok l => .ok (x :: l)
def more (L : List Ins) : Except (Int × Int) (List Ins) → Except (Int × Int) (List Ins)
  | .error q => .error q
  | .ok l => .ok (L ++ l)
theorem more_nil (q : Except (Int × Int) (List Ins)) : more [] q = q := by cases q <;> rfl
theorem more_more (a b : List Ins) (q : Except (Int × Int) (List Ins)) : more a (more b q) = more (a ++ b) q := by cases q <;> simp [more]
theorem res_last {t : List UInt8} (h : t ≠ []) (k : Nat) : res [t] k = .error ((k : Int) + 1, 5) := by simp [res, h]
theorem res_end (k : Nat) : res [[]] k = .ok [] := by simp [res]
theorem res_many {t : List UInt8} {r : List (List UInt8)} (hr : r ≠ []) {k : Nat} (h : 8000 ≤ k) : res (t :: r) k = .error ((k : Int) + 1, 1) := by
  cases r with
  | nil => exact absurd rfl hr
  | cons u r => simp [res, h]
theorem res_bad {t : List UInt8} {r : List (List UInt8)} (hr : r ≠ []) {k : Nat} (h : ¬ 8000 ≤ k) {e : Int} (hi : ins t = .error e) : res (t :: r) k = .error ((k : Int) + 1, e) := by
  cases r with
  | nil => exact absurd rfl hr
  | cons u r => simp [res, h, hi]
theorem res_on {t : List UInt8} {r : List (List UInt8)} (hr : r ≠ []) {k : Nat} (h : ¬ 8000 ≤ k) {x : Ins} (hi : ins t = .ok x) : res (t :: r) k = more [x] (res r (k + 1)) := by
  cases r with
  | nil => exact absurd rfl hr
  | cons u r =>
    rw [res, if_neg h, hi]
    simp only
    cases res (u :: r) (k + 1) <;> rfl
def parse (s : List UInt8) : Except (Int × Int) (List Ins) := if 200000 < s.length then .error (0, 1) else res (parts 10 s) 0
end Prs
end Go.Proofs.YtoolimfdadpmpaaDoor
