/- Programs: what they hold in memory, and what Verify (P5.2, P5.3) tells of them: plain mathematics and readings of memory. It proves nothing of the program by itself. -/
import Derived.Test.YtcpmbjlhblkniaaDoorGr
namespace Go.Proofs.YtcpmbjlhblkniaaDoor
open Go.ChangeShapes Go.WideShapes Go.ChangeAt Go.RowKit
set_option linter.unusedVariables false
/-- An instruction. -/
structure Ins where
  op : Int
  n : Int
def Ins.cells (x : Ins) : List Value := [.int .i64 x.op, .int .i64 x.n]
structure InsOk (x : Ins) : Prop where
  op : (Lit.int .i64 x.op).wf = true
  n : (Lit.int .i64 x.n).wf = true
/-- A slice of instructions, and what it holds. -/
structure InssAt (w : World) (a : Option Addr) (l : List Ins) : Prop where
  len : l.length ≤ maxLen
  cell : ∀ (i : Nat) x, l[i]? = some x → ∃ b o, a = some ⟨b, o, none⟩ ∧ b < w.heap.size ∧ w.cell? ⟨b, o + i * 2, none⟩ = some (.int .i64 x.op) ∧ w.cell? ⟨b, o + i * 2 + 1, none⟩ = some (.int .i64 x.n)
theorem InssAt.gr {w w' : World} {a : Option Addr} {l : List Ins} (h : InssAt w a l) (hg : Gr w w') : InssAt w' a l :=
  ⟨h.len, fun i x hx => by
    obtain ⟨b, o, e, hb, h1, h2⟩ := h.cell i x hx
    exact ⟨b, o, e, Nat.lt_of_lt_of_le hb hg.size, (hg.cell b _ hb).trans h1, (hg.cell b _ hb).trans h2⟩⟩
/-- A program: three slices, and what they hold. -/
structure Prg where
  ca : Option Addr
  ccap : Nat
  code : List Ins
  pa : Option Addr
  pcap : Nat
  pool : List Int
  aa : Option Addr
  acap : Nat
  answers : List Ans
def Prg.cells (p : Prg) : List Value := [.slice p.ca p.code.length p.ccap, .slice p.pa p.pool.length p.pcap, .slice p.aa p.answers.length p.acap]
structure PrgOk (w : World) (p : Prg) : Prop where
  ccap : p.code.length ≤ p.ccap
  pcap : p.pool.length ≤ p.pcap
  acap : p.answers.length ≤ p.acap
  cat : InssAt w p.ca p.code
  cok : ∀ x ∈ p.code, InsOk x
  pat : IntsAt w p.pa p.pool
  pok : ∀ z ∈ p.pool, (Lit.int .i64 z).wf = true
  aat : FivesAt w p.aa p.answers Ans.cells
  aok : ∀ x ∈ p.answers, AnsOk w x
theorem PrgOk.gr {w w' : World} {p : Prg} (h : PrgOk w p) (hg : Gr w w') : PrgOk w' p :=
  ⟨h.ccap, h.pcap, h.acap, h.cat.gr hg, h.cok, h.pat.gr hg, h.pok, h.aat.gr hg, fun x hx => (h.aok x hx).gr hg⟩
namespace Ver
/-- N of an instruction is from 0 on, and below that. -/
def choices (op i n pl al : Int) : Int := if op = 2 then pl else if op = 6 then al else if op = 4 ∨ op = 5 then n - i - 1 else 1
def isOp (op : Int) : Bool := decide (1 ≤ op ∧ op ≤ 6)
/-- P5.2: what is wrong with an instruction. -/
def insF (x : Ins) (i n pl al : Int) : Int := if isOp x.op = true then (if 0 ≤ x.n ∧ x.n < choices x.op i n pl al then 0 else 2) else 3
def insE (l : List Ins) (pl al : Int) (i : Nat) : Int := match l[i]? with | some x => insF x i l.length pl al | none => 0
theorem insE_at {l : List Ins} {pl al : Int} {i : Nat} {x : Ins} (h : l[i]? = some x) : insE l pl al i = insF x i l.length pl al := by simp [insE, h]
/-- P5.2: what is wrong with the parts of a program. -/
def prgF (p : Prg) : Int :=
  if p.code.length = 0 then 6 else if 8000 < p.code.length ∨ 2000 < p.pool.length ∨ 2000 < p.answers.length then 1
  else if Tre.fstE (ansE p.answers) p.answers.length = 0 then Tre.fstE (insE p.code p.pool.length p.answers.length) p.code.length else Tre.fstE (ansE p.answers) p.answers.length
theorem prgF_6 {p : Prg} (h : p.code.length = 0) : prgF p = 6 := by rw [prgF, if_pos h]
theorem prgF_1 {p : Prg} (h : p.code.length ≠ 0) (h' : 8000 < p.code.length ∨ 2000 < p.pool.length ∨ 2000 < p.answers.length) : prgF p = 1 := by rw [prgF, if_neg h, if_pos h']
theorem prgF_a {p : Prg} (h : p.code.length ≠ 0) (h' : ¬ (8000 < p.code.length ∨ 2000 < p.pool.length ∨ 2000 < p.answers.length)) {k : Nat} {x : Ans} (hx : p.answers[k]? = some x) (h1 : ∀ i, i < k → ansE p.answers i = 0) (h2 : x.fault ≠ 0) : prgF p = x.fault := by
  have hk : k < p.answers.length := (List.getElem?_eq_some_iff.1 hx).1
  have e := Tre.fstE_at h1 hk (by rw [ansE_at hx]; exact h2)
  rw [ansE_at hx] at e
  rw [prgF, if_neg h, if_neg h', e, if_neg h2]
theorem prgF_n {p : Prg} (h : p.code.length ≠ 0) (h' : ¬ (8000 < p.code.length ∨ 2000 < p.pool.length ∨ 2000 < p.answers.length)) (h1 : ∀ i, i < p.answers.length → ansE p.answers i = 0) : prgF p = Tre.fstE (insE p.code p.pool.length p.answers.length) p.code.length := by
  rw [prgF, if_neg h, if_neg h', if_pos (Tre.fstE_zero h1)]
theorem prgF_k {p : Prg} (h : p.code.length ≠ 0) (h' : ¬ (8000 < p.code.length ∨ 2000 < p.pool.length ∨ 2000 < p.answers.length)) (h1 : ∀ i, i < p.answers.length → ansE p.answers i = 0) {k : Nat} {x : Ins} (hx : p.code[k]? = some x)
    (h2 : ∀ i, i < k → insE p.code p.pool.length p.answers.length i = 0) {e : Int} (he : insF x k p.code.length p.pool.length p.answers.length = e) (h3 : e ≠ 0) : prgF p = e := by
  subst he
  rw [prgF_n h h' h1, Tre.fstE_at h2 (List.getElem?_eq_some_iff.1 hx).1 (by rw [insE_at hx]; exact h3), insE_at hx]
theorem prgF_0 {p : Prg} (h : p.code.length ≠ 0) (h' : ¬ (8000 < p.code.length ∨ 2000 < p.pool.length ∨ 2000 < p.answers.length)) (h1 : ∀ i, i < p.answers.length → ansE p.answers i = 0) (h2 : ∀ i, i < p.code.length → insE p.code p.pool.length p.answers.length i = 0) : prgF p = 0 := by
  rw [prgF_n h h' h1, Tre.fstE_zero h2]
theorem insF_0 {x : Ins} {i n pl al : Int} (h : insF x i n pl al = 0) : (1 ≤ x.op ∧ x.op ≤ 6) ∧ 0 ≤ x.n ∧ x.n < choices x.op i n pl al := by
  unfold insF at h
  split at h
  · rename_i h1
    split at h
    · rename_i h2; exact ⟨of_decide_eq_true h1, h2⟩
    · cases h
  · cases h
/-- A program whose parts may be. -/
structure Good (p : Prg) : Prop where
  pos : 0 < p.code.length
  clen : p.code.length ≤ 8000
  plen : p.pool.length ≤ 2000
  alen : p.answers.length ≤ 2000
  ins : ∀ (i : Nat) x, p.code[i]? = some x → (1 ≤ x.op ∧ x.op ≤ 6) ∧ 0 ≤ x.n ∧ x.n < choices x.op i p.code.length p.pool.length p.answers.length
theorem good {p : Prg} (h : prgF p = 0) : Good p := by
  unfold prgF at h
  split at h
  · cases h
  · rename_i h0
    split at h
    · cases h
    · rename_i h1
      split at h
      · refine ⟨by omega, by omega, by omega, by omega, fun i x hx => ?_⟩
        have := Tre.fstE_none h i (List.getElem?_eq_some_iff.1 hx).1
        rw [insE_at hx] at this
        exact insF_0 this
      · rename_i h2
        exact absurd h h2
/-- Arrivals: at which places, with how many on the stack, behind how many steps. -/
abbrev On := Nat → Option (Int × Int)
def on0 : On := fun i => if i = 0 then some (0, 0) else none
def upd (on : On) (j : Nat) (v : Int × Int) : On := fun x => if x = j then some v else on x
theorem upd_same (on : On) (j : Nat) (v : Int × Int) : upd on j v j = some v := by simp [upd]
theorem upd_other {on : On} {j i : Nat} (v : Int × Int) (h : i ≠ j) : upd on j v i = on i := by simp [upd, h]
def stk (o : Option (Int × Int)) : Int := match o with | some (d, _) => d | none => 0
def stp (o : Option (Int × Int)) : Int := match o with | some (_, k) => k | none => 0
/-- May it be arrived at with so many on the stack? -/
def may (o : Option (Int × Int)) (d : Int) : Bool := !(o.isSome && (stk o != d))
def joinU (on : On) (j : Nat) (d k : Int) : On := upd on j (d, max (stp (on j)) k)
def takes (op : Int) : Int := if op = 3 then 2 else if op = 4 then 1 else 0
def lays (op : Int) : Int := if op = 1 ∨ op = 2 ∨ op = 3 then 1 else 0
def nxts (op n : Int) (i : Nat) : List Nat := if op = 6 then [] else if op = 4 then [i + 1, i + 1 + n.toNat] else if op = 5 then [i + 1 + n.toNat] else [i + 1]
/-- What comes of going on at places. -/
def joins (n : Nat) (d k : Int) : List Nat → On → Int × On
  | [], on => (0, on)
  | j :: r, on => if j = n then (5, on) else if may (on j) d = true then joins n d k r (joinU on j d k) else (4, on)
def run (n : Nat) : List Ins → Nat → On → Int → Int → Int × Int × Int
  | [], _, _, steps, stack => (steps, stack, 0)
  | x :: r, i, on, steps, stack => match on i with
    | none => run n r (i + 1) on steps stack
    | some (d, k) => if d < takes x.op ∨ 8 < d + (lays x.op - takes x.op) then (0, 0, 10) else
      (if (joins n (d + (lays x.op - takes x.op)) (k + 1) (nxts x.op x.n i) on).1 = 0 then run n r (i + 1) (joins n (d + (lays x.op - takes x.op)) (k + 1) (nxts x.op x.n i) on).2 (max steps (k + 1)) (max stack (d + (lays x.op - takes x.op)))
       else (0, 0, (joins n (d + (lays x.op - takes x.op)) (k + 1) (nxts x.op x.n i) on).1))
/-- P5.3: of a program that may be run: so many steps, so many on the stack; else what is wrong. -/
def verify (p : Prg) : Int × Int × Int := if prgF p = 0 then run p.code.length p.code 0 on0 0 0 else (0, 0, prgF p)
theorem verify_no {p : Prg} (h : prgF p ≠ 0) : verify p = (0, 0, prgF p) := by rw [verify, if_neg h]
theorem verify_yes {p : Prg} (h : prgF p = 0) : verify p = run p.code.length p.code 0 on0 0 0 := by rw [verify, if_pos h]
theorem run_none {n : Nat} {l : List Ins} {i : Nat} {x : Ins} {on : On} {s t : Int} (hx : l[i]? = some x) (h : on i = none) : run n (l.drop i) i on s t = run n (l.drop (i + 1)) (i + 1) on s t := by
  have hl := (List.getElem?_eq_some_iff.1 hx).1
  rw [List.drop_eq_getElem_cons hl, run, h]
theorem run_stack {n : Nat} {l : List Ins} {i : Nat} {x : Ins} {on : On} {s t d k : Int} (hx : l[i]? = some x) (h : on i = some (d, k)) (h' : d < takes x.op ∨ 8 < d + (lays x.op - takes x.op)) : run n (l.drop i) i on s t = (0, 0, 10) := by
  obtain ⟨hl, he⟩ := List.getElem?_eq_some_iff.1 hx
  rw [List.drop_eq_getElem_cons hl, he, run, h]
  simp only [h', if_true]
theorem run_go {n : Nat} {l : List Ins} {i : Nat} {x : Ins} {on on' : On} {s t d k : Int} (hx : l[i]? = some x) (h : on i = some (d, k)) (h' : ¬ (d < takes x.op ∨ 8 < d + (lays x.op - takes x.op)))
    (hj : joins n (d + (lays x.op - takes x.op)) (k + 1) (nxts x.op x.n i) on = (0, on')) : run n (l.drop i) i on s t = run n (l.drop (i + 1)) (i + 1) on' (max s (k + 1)) (max t (d + (lays x.op - takes x.op))) := by
  obtain ⟨hl, he⟩ := List.getElem?_eq_some_iff.1 hx
  rw [List.drop_eq_getElem_cons hl, he, run, h]
  simp only [h', if_false, hj, if_true]
theorem run_err {n : Nat} {l : List Ins} {i : Nat} {x : Ins} {on on' : On} {s t d k e : Int} (hx : l[i]? = some x) (h : on i = some (d, k)) (h' : ¬ (d < takes x.op ∨ 8 < d + (lays x.op - takes x.op)))
    (hj : joins n (d + (lays x.op - takes x.op)) (k + 1) (nxts x.op x.n i) on = (e, on')) (h0 : e ≠ 0) : run n (l.drop i) i on s t = (0, 0, e) := by
  obtain ⟨hl, he⟩ := List.getElem?_eq_some_iff.1 hx
  rw [List.drop_eq_getElem_cons hl, he, run, h]
  simp only [h', if_false, hj, h0]
theorem run_end {n : Nat} {l : List Ins} {i : Nat} {on : On} {s t : Int} (h : l.length ≤ i) : run n (l.drop i) i on s t = (s, t, 0) := by
  rw [List.drop_of_length_le h, run]
theorem joins_short {n : Nat} {d k : Int} {l : List Nat} {q : Nat} {on : On} (h : l[q]? = some n) : (joins n d k (l.drop q) on) = (5, on) := by
  obtain ⟨hl, he⟩ := List.getElem?_eq_some_iff.1 h
  rw [List.drop_eq_getElem_cons hl, he, joins, if_pos rfl]
theorem joins_form {n : Nat} {d k : Int} {l : List Nat} {q j : Nat} {on : On} (h : l[q]? = some j) (hj : j ≠ n) (hm : may (on j) d = false) : (joins n d k (l.drop q) on) = (4, on) := by
  obtain ⟨hl, he⟩ := List.getElem?_eq_some_iff.1 h
  rw [List.drop_eq_getElem_cons hl, he, joins, if_neg hj, hm]
  rfl
theorem joins_on {n : Nat} {d k : Int} {l : List Nat} {q j : Nat} {on : On} (h : l[q]? = some j) (hj : j ≠ n) (hm : may (on j) d = true) : joins n d k (l.drop q) on = joins n d k (l.drop (q + 1)) (joinU on j d k) := by
  obtain ⟨hl, he⟩ := List.getElem?_eq_some_iff.1 h
  rw [List.drop_eq_getElem_cons hl, he, joins, if_neg hj, if_pos hm]
theorem joins_end {n : Nat} {d k : Int} {l : List Nat} {q : Nat} {on : On} (h : l.length ≤ q) : joins n d k (l.drop q) on = (0, on) := by
  rw [List.drop_of_length_le h, joins]
/-- What arrivals may be. -/
structure OnOk (on : On) : Prop where
  bd : ∀ i d k, on i = some (d, k) → 0 ≤ d ∧ d ≤ 8 ∧ 0 ≤ k ∧ k ≤ i
theorem OnOk.start : OnOk on0 := ⟨fun i d k h => by
  unfold on0 at h
  split at h
  · cases h; omega
  · cases h⟩
theorem OnOk.stp {on : On} (h : OnOk on) (i : Nat) : 0 ≤ stp (on i) ∧ stp (on i) ≤ i := by
  cases e : on i with
  | none => simp [Ver.stp]
  | some v => obtain ⟨d, k⟩ := v; have := h.bd i d k e; simp [Ver.stp]; omega
theorem OnOk.stk {on : On} (h : OnOk on) (i : Nat) : 0 ≤ stk (on i) ∧ stk (on i) ≤ 8 := by
  cases e : on i with
  | none => simp [Ver.stk]
  | some v => obtain ⟨d, k⟩ := v; have := h.bd i d k e; simp [Ver.stk]; omega
theorem OnOk.join {on : On} (h : OnOk on) {j : Nat} {d k : Int} (h1 : 0 ≤ d) (h2 : d ≤ 8) (h3 : 0 ≤ k) (h4 : k ≤ j) : OnOk (joinU on j d k) := ⟨fun i d' k' e => by
  unfold joinU upd at e
  split at e
  · rename_i hi
    cases e
    have := h.stp j
    subst hi
    omega
  · exact h.bd i d' k' e⟩
theorem takes_eq (op : Int) : takes op = if op = 3 then 2 else if op = 4 then 1 else 0 := rfl
theorem nxts_mem {op n : Int} {i j m : Nat} (h : j ∈ nxts op n i) (h0 : 0 ≤ n) (h1 : op = 4 ∨ op = 5 → n < (m : Int) - i - 1) (h2 : i < m) : i < j ∧ j ≤ m := by
  unfold nxts at h
  split at h
  · simp at h
  split at h
  · rename_i e; have := h1 (Or.inl e); simp at h; omega
  split at h
  · rename_i e; have := h1 (Or.inr e); simp at h; omega
  · simp at h; omega
end Ver
/-- Nothing but one block has changed. -/
structure Bg (b : Nat) (w w' : World) : Prop where
  os : w'.os = w.os
  out : w'.output = w.output
  size : w.heap.size ≤ w'.heap.size
  block : ∀ x, x < w.heap.size → x ≠ b → w'.heap[x]? = w.heap[x]?
theorem Bg.ofGr {b : Nat} {w w' : World} (h : Gr w w') : Bg b w w' := ⟨h.os, h.out, h.size, fun x hx _ => h.block x hx⟩
theorem Bg.trans {d : Nat} {a b c : World} (h : Bg d a b) (k : Bg d b c) : Bg d a c :=
  ⟨k.os.trans h.os, k.out.trans h.out, Nat.le_trans h.size k.size, fun x hx hd => (k.block x (Nat.lt_of_lt_of_le hx h.size) hd).trans (h.block x hx hd)⟩
theorem Bg.setCell {b : Nat} {w w' : World} (h : Bg b w w') (o : Nat) (u : Value) : Bg b w (w'.setCell ⟨b, o, none⟩ u) :=
  ⟨h.os, h.out, by simpa [World.setCell] using h.size, fun x hx hd => (heap_setCell_other w' ⟨b, o, none⟩ x u (by simpa using hd)).trans (h.block x hx hd)⟩
/-- A block that is new to an older world: nothing old has changed. -/
theorem Bg.gr {b : Nat} {w0 w w' : World} (h : Bg b w w') (h0 : Gr w0 w) (hb : w0.heap.size ≤ b) : Gr w0 w' :=
  ⟨h.os.trans h0.os, h.out.trans h0.out, Nat.le_trans h0.size h.size, fun x hx => (h.block x (Nat.lt_of_lt_of_le hx h0.size) (by omega)).trans (h0.block x hx)⟩
/-- Arrivals in memory: three cells each. -/
structure ArrAt (w : World) (b n : Nat) (on : Ver.On) (cs : Array Value) : Prop where
  row : w.heap[b]? = some (.cells cs 103)
  size : cs.size = n * 3
  some_ : ∀ i, i < n → cs[i * 3]? = some (.bool (on i).isSome)
  stack : ∀ i, i < n → cs[i * 3 + 1]? = some (.int .i64 (Ver.stk (on i)))
  steps : ∀ i, i < n → cs[i * 3 + 2]? = some (.int .i64 (Ver.stp (on i)))
theorem ArrAt.gr {w w' : World} {b n : Nat} {on : Ver.On} {cs : Array Value} (h : ArrAt w b n on cs) (hg : Gr w w') (hb : b < w.heap.size) : ArrAt w' b n on cs :=
  ⟨(hg.block b hb).trans h.row, h.size, h.some_, h.stack, h.steps⟩
/-- Behind a join: the three cells of a place. -/
theorem ArrAt.join {w w' : World} {b n : Nat} {on : Ver.On} {cs : Array Value} (h : ArrAt w b n on cs) {j : Nat} (hj : j < n) (d k : Int)
    (hr : w'.heap[b]? = some (.cells (((cs.setIfInBounds (j * 3) (.bool true)).setIfInBounds (j * 3 + 1) (.int .i64 d)).setIfInBounds (j * 3 + 2) (.int .i64 (max (Ver.stp (on j)) k))) 103)) :
    ArrAt w' b n (Ver.joinU on j d k) (((cs.setIfInBounds (j * 3) (.bool true)).setIfInBounds (j * 3 + 1) (.int .i64 d)).setIfInBounds (j * 3 + 2) (.int .i64 (max (Ver.stp (on j)) k))) := by
  have hs := h.size
  refine ⟨hr, by simpa using hs, fun i hi => ?_, fun i hi => ?_, fun i hi => ?_⟩
  all_goals
    by_cases e : i = j
    · subst e
      simp [Array.getElem?_setIfInBounds, Ver.joinU, Ver.upd, Ver.stk, Ver.stp, hs]
      omega
    · have h1 := h.some_ i hi
      have h2 := h.stack i hi
      have h3 := h.steps i hi
      simp only [Ver.joinU, Ver.upd_other _ e]
      rw [Array.getElem?_setIfInBounds_ne (by omega), Array.getElem?_setIfInBounds_ne (by omega), Array.getElem?_setIfInBounds_ne (by omega)]
      first | exact h1 | exact h2 | exact h3
end Go.Proofs.YtcpmbjlhblkniaaDoor
