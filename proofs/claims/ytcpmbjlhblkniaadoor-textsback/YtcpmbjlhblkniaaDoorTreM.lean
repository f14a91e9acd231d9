/- What answers and forests hold in memory, and what is wrong with them: plain mathematics and readings of memory. It proves nothing of the program by itself. -/
import Derived.Test.YtcpmbjlhblkniaaDoorMath
import Derived.WalkKit
import Derived.ProofKit
import Derived.OpenShut
namespace Go.Proofs.YtcpmbjlhblkniaaDoor
open Go.ChangeShapes Go.WideShapes Go.ChangeAt Go.RowKit
set_option linter.unusedVariables false
namespace Tre
def inB (n l h : Int) : Bool := decide (l ≤ n ∧ n ≤ h)
theorem inB_t {n l h : Int} (a : l ≤ n) (b : n ≤ h) : inB n l h = true := decide_eq_true ⟨a, b⟩
theorem inB_f {n l h : Int} (a : ¬ (l ≤ n ∧ n ≤ h)) : inB n l h = false := decide_eq_false a
/-- May it be an offset? -/
def okOff (n : Int) : Bool := inB n (-172800) 172800
theorem okOff_eq (n : Int) : inB n (-172800) 172800 = okOff n := rfl
/-- P4.4: what is wrong with an answer. -/
def ansF (off jump : Int) (zs : List Int) (nm : Nat) : Int :=
  if okOff off = true ∧ -1099511627776 ≤ jump ∧ jump ≤ 1099511627776 then (if zs.all okOff = true then (if 6 < zs.length ∨ 24 < nm then 1 else 0) else 2) else 2
theorem all_false {zs : List Int} {k : Nat} {z : Int} (h : zs[k]? = some z) (hz : okOff z = false) : zs.all okOff = false := by
  rw [List.all_eq_false]
  exact ⟨z, List.mem_of_getElem? h, by simp [hz]⟩
theorem all_true {zs : List Int} (h : ∀ (i : Nat) z, zs[i]? = some z → okOff z = true) : zs.all okOff = true := by
  rw [List.all_eq_true]
  intro z hz
  obtain ⟨i, hi⟩ := List.getElem?_of_mem hz
  exact h i z hi
/-- A node. -/
structure Nod where
  leaf : Bool
  ans : Int
  bound : Int
  less : Int
  more : Int
/-- P4.4: what is wrong with a node at a place of a forest with so many answers. -/
def nodF (n : Nod) (i many : Int) : Int :=
  if n.leaf = true then (if inB n.ans 0 (many - 1) = true then (if n.bound = 0 ∧ n.less = 0 ∧ n.more = 0 then 0 else 4) else 2)
  else (if n.ans = 0 then (if inB n.less 0 (i - 1) = true ∧ inB n.more 0 (i - 1) = true then 0 else 8) else 4)
theorem nodF_l2 {a b l m i many : Int} (h : inB a 0 (many - 1) = false) : nodF ⟨true, a, b, l, m⟩ i many = 2 := by simp [nodF, h]
theorem nodF_l4 {a b l m i many : Int} (h : inB a 0 (many - 1) = true) (h' : ¬ (b = 0 ∧ l = 0 ∧ m = 0)) : nodF ⟨true, a, b, l, m⟩ i many = 4 := by simp only [nodF, h, if_true]; rw [if_neg h']
theorem nodF_l0 {a i many : Int} (h : inB a 0 (many - 1) = true) : nodF ⟨true, a, 0, 0, 0⟩ i many = 0 := by simp [nodF, h]
theorem nodF_n4 {a b l m i many : Int} (h : a ≠ 0) : nodF ⟨false, a, b, l, m⟩ i many = 4 := by simp [nodF, h]
theorem nodF_n0 {b l m i many : Int} (h : inB l 0 (i - 1) = true) (h' : inB m 0 (i - 1) = true) : nodF ⟨false, 0, b, l, m⟩ i many = 0 := by simp [nodF, h, h']
theorem nodF_n8 {b l m i many : Int} (h : inB l 0 (i - 1) = false) : nodF ⟨false, 0, b, l, m⟩ i many = 8 := by simp [nodF, h]
theorem nodF_n8' {b l m i many : Int} (h : inB m 0 (i - 1) = false) : nodF ⟨false, 0, b, l, m⟩ i many = 8 := by simp [nodF, h]
/-- The first error of a row. -/
def fstE (f : Nat → Int) : Nat → Int
  | 0 => 0
  | n + 1 => if fstE f n = 0 then f n else fstE f n
theorem fstE_zero {f : Nat → Int} {n : Nat} (h : ∀ i, i < n → f i = 0) : fstE f n = 0 := by
  induction n with
  | zero => rfl
  | succ n ih => rw [fstE, if_pos (ih fun i hi => h i (by omega))]; exact h n (by omega)
theorem fstE_at {f : Nat → Int} {n k : Nat} (h : ∀ i, i < k → f i = 0) (hk : k < n) (he : f k ≠ 0) : fstE f n = f k := by
  induction n with
  | zero => omega
  | succ n ih =>
    rcases Nat.lt_succ_iff_lt_or_eq.1 hk with g | rfl
    · rw [fstE, ih g, if_neg he]
    · rw [fstE, if_pos (fstE_zero h)]
theorem fstE_none {f : Nat → Int} {n : Nat} (h : fstE f n = 0) : ∀ i, i < n → f i = 0 := by
  induction n with
  | zero => intro i hi; omega
  | succ n ih =>
    rw [fstE] at h
    by_cases g : fstE f n = 0
    · rw [if_pos g] at h
      intro i hi
      rcases Nat.lt_succ_iff_lt_or_eq.1 hi with k | rfl
      · exact ih g i k
      · exact h
    · rw [if_neg g] at h; exact absurd h g
end Tre
/-- A slice of ints, and what it holds. -/
structure IntsAt (w : World) (a : Option Addr) (zs : List Int) : Prop where
  len : zs.length ≤ maxLen
  cell : ∀ (i : Nat) z, zs[i]? = some z → ∃ b o, a = some ⟨b, o, none⟩ ∧ b < w.heap.size ∧ w.cell? ⟨b, o + i, none⟩ = some (.int .i64 z)
theorem IntsAt.grown {w w' : World} {a : Option Addr} {zs : List Int} (h : IntsAt w a zs) (hg : Grown w w') : IntsAt w' a zs :=
  ⟨h.len, fun i z hz => by
    obtain ⟨b, o, e, hb, hc⟩ := h.cell i z hz
    exact ⟨b, o, e, Nat.lt_of_lt_of_le hb hg.2.2, (Grown_cell hg b _ hb).trans hc⟩⟩
/-- An answer: what its five cells hold. -/
structure Ans where
  off : Int
  sv : Bool
  nm : ByteArray
  a : Option Addr
  cap : Nat
  zs : List Int
  jump : Int
def Ans.cells (x : Ans) : List Value := [.int .i64 x.off, .bool x.sv, .string x.nm, .slice x.a x.zs.length x.cap, .int .i64 x.jump]
structure AnsOk (w : World) (x : Ans) : Prop where
  off : (Lit.int .i64 x.off).wf = true
  jump : (Lit.int .i64 x.jump).wf = true
  nm : x.nm.size ≤ maxLen
  cap : x.zs.length ≤ x.cap
  zs : IntsAt w x.a x.zs
  wz : ∀ z ∈ x.zs, (Lit.int .i64 z).wf = true
theorem AnsOk.grown {w w' : World} {x : Ans} (h : AnsOk w x) (hg : Grown w w') : AnsOk w' x := ⟨h.off, h.jump, h.nm, h.cap, h.zs.grown hg, h.wz⟩
def Ans.fault (x : Ans) : Int := Tre.ansF x.off x.jump x.zs x.nm.size
def Nod.cells (n : Tre.Nod) : List Value := [.bool n.leaf, .int .i64 n.ans, .int .i64 n.bound, .int .i64 n.less, .int .i64 n.more]
structure NodOk (n : Tre.Nod) : Prop where
  ans : (Lit.int .i64 n.ans).wf = true
  bound : (Lit.int .i64 n.bound).wf = true
  less : (Lit.int .i64 n.less).wf = true
  more : (Lit.int .i64 n.more).wf = true
/-- Five cells in a row. -/
def Five (w : World) (b o : Nat) (cs : List Value) : Prop :=
  w.cell? ⟨b, o, none⟩ = cs[0]? ∧ w.cell? ⟨b, o + 1, none⟩ = cs[1]? ∧ w.cell? ⟨b, o + 2, none⟩ = cs[2]? ∧ w.cell? ⟨b, o + 3, none⟩ = cs[3]? ∧ w.cell? ⟨b, o + 4, none⟩ = cs[4]?
theorem Five.grown {w w' : World} {b o : Nat} {cs : List Value} (h : Five w b o cs) (hb : b < w.heap.size) (hg : Grown w w') : Five w' b o cs :=
  ⟨(Grown_cell hg b _ hb).trans h.1, (Grown_cell hg b _ hb).trans h.2.1, (Grown_cell hg b _ hb).trans h.2.2.1, (Grown_cell hg b _ hb).trans h.2.2.2.1, (Grown_cell hg b _ hb).trans h.2.2.2.2⟩
/-- A slice whose elements fill five cells each. -/
structure FivesAt {α : Type} (w : World) (a : Option Addr) (l : List α) (cells : α → List Value) : Prop where
  len : l.length ≤ maxLen
  cell : ∀ (i : Nat) x, l[i]? = some x → ∃ b o, a = some ⟨b, o, none⟩ ∧ b < w.heap.size ∧ Five w b (o + i * 5) (cells x)
theorem FivesAt.grown {α : Type} {w w' : World} {a : Option Addr} {l : List α} {cells : α → List Value} (h : FivesAt w a l cells) (hg : Grown w w') : FivesAt w' a l cells :=
  ⟨h.len, fun i x hx => by
    obtain ⟨b, o, e, hb, hc⟩ := h.cell i x hx
    exact ⟨b, o, e, Nat.lt_of_lt_of_le hb hg.2.2, hc.grown hb hg⟩⟩
/-- A forest: two slices, and what they hold. -/
structure Fst where
  na : Option Addr
  ncap : Nat
  nodes : List Tre.Nod
  aa : Option Addr
  acap : Nat
  answers : List Ans
def Fst.cells (f : Fst) : List Value := [.slice f.na f.nodes.length f.ncap, .slice f.aa f.answers.length f.acap]
structure FstOk (w : World) (f : Fst) : Prop where
  ncap : f.nodes.length ≤ f.ncap
  acap : f.answers.length ≤ f.acap
  nat : FivesAt w f.na f.nodes Nod.cells
  nok : ∀ n ∈ f.nodes, NodOk n
  aat : FivesAt w f.aa f.answers Ans.cells
  aok : ∀ x ∈ f.answers, AnsOk w x
theorem FstOk.grown {w w' : World} {f : Fst} (h : FstOk w f) (hg : Grown w w') : FstOk w' f :=
  ⟨h.ncap, h.acap, h.nat.grown hg, h.nok, h.aat.grown hg, fun x hx => (h.aok x hx).grown hg⟩
/-- P4.4: what is wrong with a forest. -/
def ansE (l : List Ans) (i : Nat) : Int := match l[i]? with | some x => x.fault | none => 0
def nodE (l : List Tre.Nod) (many : Int) (i : Nat) : Int := match l[i]? with | some x => Tre.nodF x i many | none => 0
def forF (f : Fst) : Int :=
  if f.nodes.length = 0 then 6 else if 8000 < f.nodes.length ∨ 2000 < f.answers.length then 1
  else if Tre.fstE (ansE f.answers) f.answers.length = 0 then Tre.fstE (nodE f.nodes f.answers.length) f.nodes.length else Tre.fstE (ansE f.answers) f.answers.length
theorem ansE_at {l : List Ans} {i : Nat} {x : Ans} (h : l[i]? = some x) : ansE l i = x.fault := by simp [ansE, h]
theorem nodE_at {l : List Tre.Nod} {many : Int} {i : Nat} {x : Tre.Nod} (h : l[i]? = some x) : nodE l many i = Tre.nodF x i many := by simp [nodE, h]
theorem forF_6 {f : Fst} (h : f.nodes.length = 0) : forF f = 6 := by rw [forF, if_pos h]
theorem forF_1 {f : Fst} (h : f.nodes.length ≠ 0) (h' : 8000 < f.nodes.length ∨ 2000 < f.answers.length) : forF f = 1 := by rw [forF, if_neg h, if_pos h']
theorem forF_a {f : Fst} (h : f.nodes.length ≠ 0) (h' : ¬ (8000 < f.nodes.length ∨ 2000 < f.answers.length)) {k : Nat} {x : Ans} (hx : f.answers[k]? = some x) (h1 : ∀ i, i < k → ansE f.answers i = 0) (h2 : x.fault ≠ 0) : forF f = x.fault := by
  have hk : k < f.answers.length := (List.getElem?_eq_some_iff.1 hx).1
  have e := Tre.fstE_at h1 hk (by rw [ansE_at hx]; exact h2)
  rw [ansE_at hx] at e
  rw [forF, if_neg h, if_neg h', e, if_neg h2]
theorem forF_n {f : Fst} (h : f.nodes.length ≠ 0) (h' : ¬ (8000 < f.nodes.length ∨ 2000 < f.answers.length)) (h1 : ∀ i, i < f.answers.length → ansE f.answers i = 0) : forF f = Tre.fstE (nodE f.nodes f.answers.length) f.nodes.length := by
  rw [forF, if_neg h, if_neg h', if_pos (Tre.fstE_zero h1)]
theorem forF_k {f : Fst} (h : f.nodes.length ≠ 0) (h' : ¬ (8000 < f.nodes.length ∨ 2000 < f.answers.length)) (h1 : ∀ i, i < f.answers.length → ansE f.answers i = 0) {k : Nat} {x : Tre.Nod} (hx : f.nodes[k]? = some x)
    (h2 : ∀ i, i < k → nodE f.nodes f.answers.length i = 0) (h3 : Tre.nodF x k f.answers.length ≠ 0) : forF f = Tre.nodF x k f.answers.length := by
  rw [forF_n h h' h1, Tre.fstE_at h2 (List.getElem?_eq_some_iff.1 hx).1 (by rw [nodE_at hx]; exact h3), nodE_at hx]
theorem forF_0 {f : Fst} (h : f.nodes.length ≠ 0) (h' : ¬ (8000 < f.nodes.length ∨ 2000 < f.answers.length)) (h1 : ∀ i, i < f.answers.length → ansE f.answers i = 0) (h2 : ∀ i, i < f.nodes.length → nodE f.nodes f.answers.length i = 0) : forF f = 0 := by
  rw [forF_n h h' h1, Tre.fstE_zero h2]
end Go.Proofs.YtcpmbjlhblkniaaDoor
