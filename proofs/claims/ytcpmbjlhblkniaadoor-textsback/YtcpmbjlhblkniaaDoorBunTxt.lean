/- Code that is written as text is read back: plain mathematics. -/
import Derived.Test.YtcpmbjlhblkniaaDoorTxtC
import Derived.Lib.IndexMore
import Derived.Lib.AtoiAll
import Derived.Lib.CutLaws
import Derived.Deep.AppendLies
namespace Go.Proofs.YtcpmbjlhblkniaaDoor
open Go.ChangeShapes Go.WideShapes Go.ChangeAt Go.RowKit
set_option linter.unusedVariables false
set_option maxRecDepth 100000
namespace Txl
/-- What is wrong first with lines. -/
def bad : List Ins → Int
  | [] => 0
  | x :: r => if lineE x = 0 then bad r else lineE x
theorem bad_at : ∀ {l : List Ins} {k : Nat} {x : Ins}, l[k]? = some x → (∀ y ∈ l.take k, lineE y = 0) → lineE x ≠ 0 → bad l = lineE x
  | [], k, x, h, _, _ => by simp at h
  | y :: r, 0, x, h, _, hx => by simp at h; subst h; rw [bad, if_neg hx]
  | y :: r, k + 1, x, h, hy, hx => by
    rw [bad, if_pos (hy y (by simp))]
    exact bad_at (by simpa using h) (fun z hz => hy z (by simp [hz])) hx
theorem bad_none : ∀ {l : List Ins}, (∀ y ∈ l, lineE y = 0) → bad l = 0
  | [], _ => rfl
  | y :: r, h => by rw [bad, if_pos (h y (by simp))]; exact bad_none (fun z hz => h z (by simp [hz]))
def textE (l : List Ins) : Int := if 8000 < l.length then 1 else bad l
def textV (l : List Ins) : List UInt8 := if textE l = 0 then l.flatMap line else []
theorem lineE_0 {x : Ins} (h : lineE x = 0) : (1 ≤ x.op ∧ x.op ≤ 6) ∧ 0 ≤ x.n ∧ x.n ≤ 8000 := by
  by_cases ho : Ver.isOp x.op = true
  · have h16 : 1 ≤ x.op ∧ x.op ≤ 6 := by simpa [Ver.isOp] using ho
    rw [lineE_op ho] at h
    by_cases hb : 0 ≤ x.n ∧ x.n ≤ (if numbered x.op = true then 8000 else 0)
    · refine ⟨h16, hb.1, ?_⟩
      have := hb.2
      split at this <;> omega
    · rw [if_neg hb] at h; cases h
  · have ho' : Ver.isOp x.op = false := by simpa using ho
    rw [lineE_kind ho'] at h
    cases h
theorem line_len {x : Ins} (h : lineE x = 0) : (line x).length ≤ 30 := by
  have h1 := nm_len x.op
  have h2 := Lib.itoa_length_le x.n (by have := lineE_0 h; omega) (by have := lineE_0 h; omega)
  unfold line
  split <;> simp <;> omega
theorem lines_len {l : List Ins} : (∀ y ∈ l, lineE y = 0) → (l.flatMap line).length ≤ l.length * 30 := by
  induction l with
  | nil => intro _; simp
  | cons y r ih =>
    intro h
    have h1 := line_len (h y (by simp))
    have h2 := ih (fun z hz => h z (by simp [hz]))
    simp
    simp at h2
    omega
end Txl
theorem Bld.more {W w w' : World} {B b : Nat} {l : List UInt8} (h : Bld W w B b l) (hg : Gr w w') : Bld W w' B b l := by
  refine ⟨?_, h.gr.trans hg, h.old, Nat.le_trans h.base hg.size⟩
  rcases h.at_ with ⟨h1, v, h2, h3, h4⟩ | ⟨h1, v, h2, h3, h4⟩
  · exact Or.inl ⟨h1, v, (hg.block b (Array.getElem?_eq_some_iff.1 h2).1).trans h2, owns_gr h3 hg, h4⟩
  · exact Or.inr ⟨h1, v, (hg.block b (Array.getElem?_eq_some_iff.1 h2).1).trans h2, owns_gr h3 hg, h4⟩
set_option maxHeartbeats 3200000 in
theorem text_any (l : List Ins) (a : Option Addr) (cap : Nat) (w : World) (hA : InssAt w a l) (hT : Opr w) (hP : Po w) :
    Calls Tryd.prog 12 #[.slice a l.length cap] w fun e w' => e = .returned (.tuple #[.string ⟨(Txl.textV l).toArray⟩, .int .i64 (Txl.textE l)]) ∧ Gr w w' := by
  by_cases hl : 8000 < l.length
  · have E1 : Hid (Txl.textE l = 1) := if_pos hl
    have E2 : Hid (Txl.textV l = []) := if_neg (by rw [E1.out]; decide)
    have g : decide (8000 < ((l.length : Nat) : Int)) = true := by rw [decide_eq_true_iff]; omega
    go_enter Tryd.func12, Tryd.ntmps12
    go_wp2
    go_ret2
    exact ⟨by rw [E1.out, E2.out]; rfl, Gr.refl _⟩
  · have E0 : Hid (Txl.textE l = Txl.bad l) := if_neg hl
    have EV : Hid (Txl.textE l = 0 → Txl.textV l = l.flatMap Txl.line) := fun h => if_pos h
    have EN : Hid (Txl.textE l ≠ 0 → Txl.textV l = []) := fun h => if_neg h
    have g : decide (8000 < ((l.length : Nat) : Int)) = false := by rw [decide_eq_false_iff_not]; omega
    have B0 : Bld w (w.alloc (Obj.cells #[.pointer none, .slice none 0 0] BldT)) w.heap.size w.heap.size [] := ⟨Lib.fresh_isBuilder BldT 5 w, (Gr.refl _).alloc _, Nat.le_refl _, by simp⟩
    go_enter Tryd.func12, Tryd.ntmps12
    go_wp2_with fail
    go_loopw [13] (fun t wr => ∃ k : Nat, k ≤ l.length ∧ t = .int .i64 k ∧ (∀ y ∈ l.take k, Txl.lineE y = 0) ∧ Bld w wr w.heap.size w.heap.size ((l.take k).flatMap Txl.line)) (fun t _ => l.length - (intOf t).toNat)
    case atStart => exact ⟨0, Nat.zero_le _, rfl, (fun y hy => by simp at hy), B0⟩
    case round =>
      obtain ⟨k, hk, rfl, hOK, hBl⟩ := hrel
      clear B0
      have HB : Hid _ := hBl
      have HOK : Hid _ := hOK
      clear hBl hOK
      by_cases hlt : k < l.length
      · obtain ⟨x, hx⟩ : ∃ x, l[k]? = some x := ⟨_, List.getElem?_eq_getElem hlt⟩
        obtain ⟨b, o, rfl, hb, h1, h2⟩ := hA.cell k x hx
        obtain ⟨op, n⟩ := x
        have g3 : decide ((k : Int) < ((l.length : Nat) : Int)) = true := by rw [decide_eq_true_iff]; omega
        have c1 := (HB.out.gr.cell b _ hb).trans h1
        have c2 := (HB.out.gr.cell b _ hb).trans h2
        simp only at c1 c2
        have hbw : b < wr.heap.size := Nat.lt_of_lt_of_le hb HB.out.gr.size
        have HBA : Hid _ := fun h => Txl.bad_at hx HOK.out h
        have HTK : Hid ((l.take (k + 1)).flatMap Txl.line = (l.take k).flatMap Txl.line ++ Txl.line ⟨op, n⟩) := by show (l.take (k + 1)).flatMap Txl.line = _; rw [List.take_add_one, hx]; simp
        have HTM : Hid (∀ h : Txl.lineE ⟨op, n⟩ = 0, ∀ y ∈ l.take (k + 1), Txl.lineE y = 0) := fun h y hy => by
          rw [List.take_add_one, hx] at hy
          rcases List.mem_append.1 hy with hy | hy
          · exact HOK.out y hy
          · simp at hy; rw [hy]; exact h
        have hlen := Txl.lines_len HOK.out
        rw [List.length_take, Nat.min_eq_left (by omega)] at hlen
        have HCK : Hid _ := fun W (h : Opr W) => checkLine_any ⟨op, n⟩ W h
        have HLN : Hid _ := fun W (h : Opr W) (p : Po W) (h0 : Txl.lineE ⟨op, n⟩ = 0) => line_any ⟨op, n⟩ W h p (Txl.lineE_0 h0).1 (Txl.lineE_0 h0).2.1 (Txl.lineE_0 h0).2.2
        have HLL : Hid _ := fun (h0 : Txl.lineE ⟨op, n⟩ = 0) => Txl.line_len h0
        obtain ⟨E, hE⟩ : ∃ E, Txl.lineE ⟨op, n⟩ = E := ⟨_, rfl⟩
        rw [hE] at HBA HTM HCK HLN HLL
        clear hE hx h1 h2
        go_upto_region 8 with (go_at_call 24; refine (HCK.out _ ((hT.gr HB.out.gr).gr (by exact (Gr.refl _).alloc _))).mono ?_; rintro e w1 ⟨rfl, hg1⟩)
        have gw1 : Gr wr w1 := ((Gr.refl _).alloc _).trans hg1
        have k1 := (hg1.block wr.heap.size (by simp)).trans (heapA wr (Obj.cells #[.int .i64 op, .int .i64 n] 54))
        obtain ⟨cx, fx⟩ := row_all k1
        clear hg1 HCK c1 c2
        by_cases he : E = 0
        · subst he
          have hll := HLL.out rfl
          have hT1 := hT.gr (HB.out.gr.trans gw1)
          have hP1 := hP.gr (HB.out.gr.trans gw1)
          have HB1 : Hid _ := HB.out.more gw1
          have HWR : Hid _ := fun W (h : Bld w W w.heap.size w.heap.size ((l.take k).flatMap Txl.line)) => writeString_any w w.heap.size w.heap.size ((l.take k).flatMap Txl.line) (Txl.line ⟨op, n⟩) W h (by omega)
          clear HBA
          go_wp2_with (first | (go_at_call 26; refine (HLN.out _ hT1 hP1 rfl).mono ?_; rintro e w2 ⟨rfl, hg2⟩) | (go_at_call 25; refine (HWR.out _ (HB1.out.more hg2)).mono ?_; rintro e w3 ⟨rfl, hB3⟩))
          refine ⟨⟨k + 1, by omega, by go_num, HTM.out (by first | rfl | trivial), by rw [HTK.out]; exact hB3⟩, by simp [intOf]; omega⟩
        · have g4 : (E != 0) = true := by simpa using he
          have HEE : Hid (Txl.textE l = E) := E0.out.trans (HBA.out he)
          have gE := HB.out.gr.trans gw1
          go_wp2
          go_ret2
          exact ⟨by rw [HEE.out, EN.out (by rw [HEE.out]; exact he)]; rfl, gE⟩
      · have g3 : decide ((k : Int) < ((l.length : Nat) : Int)) = false := by rw [decide_eq_false_iff_not]; omega
        have hke : l.take k = l := List.take_of_length_le (by omega)
        rw [hke] at HOK HB
        have HEE : Hid (Txl.textE l = 0) := E0.out.trans (Txl.bad_none HOK.out)
        have HST : Hid _ := fun (_ : Unit) => Tryd.Builder_String_any w.heap.size w.heap.size (l.flatMap Txl.line) wr HB.out.at_ HB.out.base
        clear hke
        go_wp2_with (go_at_call 27; refine (HST.out ()).mono ?_; rintro e w5 ⟨rfl, hb5⟩)
        go_ret2
        exact ⟨by rw [HEE.out, EV.out HEE.out]; rfl, ⟨hb5.os.trans HB.out.gr.os, hb5.output.trans HB.out.gr.out, Nat.le_trans HB.out.gr.size hb5.size, fun x hx => (hb5.block x hx).trans (HB.out.gr.block x hx)⟩⟩
end Go.Proofs.YtcpmbjlhblkniaaDoor
namespace Go.Proofs.YtcpmbjlhblkniaaDoor
open Go.ChangeShapes Go.WideShapes Go.ChangeAt Go.RowKit
set_option linter.unusedVariables false
set_option maxRecDepth 100000
theorem dig_len (n : Nat) (h : n ≤ 8000) : (Lib.decDigits n).length ≤ 30 := by
  have := Lib.itoa_length_le (n : Int) (by omega) (by omega)
  rw [Lib.itoa_nonneg] at this
  omega
theorem dig_more {n : Nat} (h : ¬ n < 10) : Lib.decDigits n = Lib.decDigits (n / 10) ++ Lib.decDigits (n % 10) := by
  rw [Lib.decDigits, dif_neg h, Lib.decDigits_one (Nat.mod_lt _ (by decide))]
end Go.Proofs.YtcpmbjlhblkniaaDoor
namespace Go.Proofs.YtcpmbjlhblkniaaDoor
open Go.ChangeShapes Go.WideShapes Go.ChangeAt Go.RowKit
set_option linter.unusedVariables false
set_option maxRecDepth 100000
namespace Prs
open Go.Lib
def pre (h : List UInt8) : List (List UInt8) → List (List UInt8)
  | [] => [h]
  | x :: t => (h ++ x) :: t
/-- A text, cut at each byte c. -/
def parts (c : UInt8) : List UInt8 → List (List UInt8)
  | [] => [[]]
  | x :: r => if x = c then [] :: parts c r else pre [x] (parts c r)
theorem parts_ne (c : UInt8) (s : List UInt8) : parts c s ≠ [] := by
  cases s with
  | nil => simp [parts]
  | cons x r =>
    unfold parts
    split
    · simp
    · cases parts c r <;> simp [pre]
theorem pre_nil {l : List (List UInt8)} (h : l ≠ []) : pre [] l = l := by
  cases l with
  | nil => exact absurd rfl h
  | cons a t => rfl
theorem pre_pre (a b : List UInt8) (l : List (List UInt8)) : pre a (pre b l) = pre (a ++ b) l := by
  cases l <;> simp [pre]
theorem parts_at {c : UInt8} (r : List UInt8) : parts c (c :: r) = [] :: parts c r := by simp [parts]
theorem parts_off {c x : UInt8} (h : x ≠ c) (r : List UInt8) : parts c (x :: r) = pre [x] (parts c r) := by simp [parts, h]
theorem parts_app {c : UInt8} : ∀ {a : List UInt8}, c ∉ a → ∀ s, parts c (a ++ s) = pre a (parts c s)
  | [], _, s => (pre_nil (parts_ne c s)).symm
  | x :: a, h, s => by
    have h1 : x ≠ c := fun e => h (by simp [e])
    have h2 : c ∉ a := fun e => h (by simp [e])
    rw [List.cons_append, parts_off h1, parts_app h2 s, pre_pre]
    rfl
theorem parts_none {c : UInt8} {s : List UInt8} (h : c ∉ s) : parts c s = [s] := by
  have := parts_app h []
  rw [List.append_nil] at this
  rw [this]
  simp [parts, pre]
theorem parts_cut {c : UInt8} {a : List UInt8} (h : c ∉ a) (r : List UInt8) : parts c (a ++ c :: r) = a :: parts c r := by
  rw [parts_app h, parts_at]
  simp [pre]
theorem parts_len (c : UInt8) : ∀ s : List UInt8, (parts c s).length ≤ s.length + 1
  | [] => by simp [parts]
  | x :: r => by
    have := parts_len c r
    by_cases h : x = c
    · rw [h, parts_at]; simp; omega
    · rw [parts_off h]
      cases hp : parts c r with
      | nil => simp [pre]
      | cons a t => rw [hp] at this; simp [pre] at this ⊢; omega
theorem parts_mem (c : UInt8) : ∀ (s : List UInt8) (t : List UInt8), t ∈ parts c s → t.length ≤ s.length
  | [], t, h => by simp [parts] at h; simp [h]
  | x :: r, t, h => by
    have ih := parts_mem c r
    by_cases hx : x = c
    · rw [hx, parts_at] at h
      rcases List.mem_cons.1 h with h | h
      · simp [h]
      · have := ih t h; simp; omega
    · rw [parts_off hx] at h
      cases hp : parts c r with
      | nil => exact absurd hp (parts_ne c r)
      | cons a u =>
        rw [hp] at h ih
        simp [pre] at h
        rcases h with h | h
        · have := ih a (by simp); rw [h]; simp; omega
        · have := ih t (by simp [h]); simp; omega
theorem occ_head (c : UInt8) (r : List UInt8) : occAt (c :: r) [c] 0 = true := by simp [occAt, List.isPrefixOf]
theorem cut_case (c : UInt8) : ∀ s : List UInt8, (c ∉ s ∧ cut s [c] = (s, [], false)) ∨ (∃ a r, s = a ++ c :: r ∧ c ∉ a ∧ cut s [c] = (a, r, true)) := by
  have key : ∀ s : List UInt8, (c ∉ s ∧ index s [c] = -1) ∨ (∃ a r, s = a ++ c :: r ∧ c ∉ a ∧ index s [c] = (a.length : Int)) := by
    intro s
    induction s with
    | nil => exact Or.inl ⟨by simp, by simp [index]⟩
    | cons x s ih =>
      by_cases hx : x = c
      · subst hx
        refine Or.inr ⟨[], s, rfl, by simp, ?_⟩
        simp [index, List.isPrefixOf]
      · have hp : ([c] : List UInt8).isPrefixOf (x :: s) = false := by
          simp [List.isPrefixOf]; exact fun e => hx e.symm
        rcases ih with ⟨h1, h2⟩ | ⟨a, r, h1, h2, h3⟩
        · refine Or.inl ⟨by simp [h1]; exact fun e => hx e.symm, ?_⟩
          unfold index
          rw [hp, h2]
          rfl
        · refine Or.inr ⟨x :: a, r, by rw [h1]; rfl, by simp [h2]; exact fun e => hx e.symm, ?_⟩
          unfold index
          rw [hp, h3]
          have : ((a.length : Int) == -1) = false := by rw [beq_eq_false_iff_ne]; omega
          rw [this]
          simp
  intro s
  rcases key s with ⟨h1, h2⟩ | ⟨a, r, h1, h2, h3⟩
  · refine Or.inl ⟨h1, ?_⟩
    unfold cut
    rw [h2]
    rfl
  · refine Or.inr ⟨a, r, h1, h2, ?_⟩
    unfold cut
    rw [h3, if_pos (by omega), Int.toNat_natCast, h1]
    simp
/-- Digits. -/
def val : Nat → List UInt8 → Nat
  | acc, [] => acc
  | acc, x :: r => val (acc * 10 + (x.toNat - 48)) r
theorem val_app : ∀ (a b : List UInt8) (acc : Nat), val acc (a ++ b) = val (val acc a) b
  | [], b, acc => rfl
  | x :: a, b, acc => by
    show val (acc * 10 + (x.toNat - 48)) (a ++ b) = val (val (acc * 10 + (x.toNat - 48)) a) b
    exact val_app a b _
theorem val_one (acc : Nat) (x : UInt8) : val acc [x] = acc * 10 + (x.toNat - 48) := rfl
theorem head_app {a b : List UInt8} (h : a ≠ []) : (a ++ b).head? = a.head? := by
  cases a with
  | nil => exact absurd rfl h
  | cons x t => rfl
def dig (x : UInt8) : Prop := 48 ≤ x.toNat ∧ x.toNat ≤ 57
theorem dig_of {k : Nat} (h : k < 10) : dig (UInt8.ofNat (48 + k)) ∧ (UInt8.ofNat (48 + k)).toNat = 48 + k := by
  have : (UInt8.ofNat (48 + k)).toNat = 48 + k := by simp; omega
  exact ⟨⟨by omega, by omega⟩, this⟩
theorem dig_back {x : UInt8} (h : dig x) : UInt8.ofNat (48 + (x.toNat - 48)) = x := by
  have : 48 + (x.toNat - 48) = x.toNat := by have := h.1; omega
  rw [this]
  simp
theorem digs_step {n : Nat} (h : ¬ n < 10) : decDigits n = decDigits (n / 10) ++ [UInt8.ofNat (48 + n % 10)] := by
  rw [decDigits, dif_neg h]
theorem digs_all : ∀ (f n : Nat), n ≤ f → ∀ x ∈ decDigits n, dig x
  | 0, n, hn, x, hx => by
    rw [decDigits_one (by omega)] at hx
    simp only [List.mem_singleton] at hx
    rw [hx]; exact (dig_of (by omega)).1
  | f + 1, n, hn, x, hx => by
    by_cases h : n < 10
    · rw [decDigits_one h] at hx
      simp only [List.mem_singleton] at hx
      rw [hx]; exact (dig_of h).1
    · rw [digs_step h] at hx
      rcases List.mem_append.1 hx with hx | hx
      · exact digs_all f (n / 10) (by omega) x hx
      · simp only [List.mem_singleton] at hx
        rw [hx]; exact (dig_of (by omega)).1
theorem val_digs : ∀ (f n : Nat), n ≤ f → val 0 (decDigits n) = n
  | 0, n, hn => by
    rw [decDigits_one (by omega), val_one, (dig_of (show n < 10 by omega)).2]; omega
  | f + 1, n, hn => by
    by_cases h : n < 10
    · rw [decDigits_one h, val_one, (dig_of h).2]; omega
    · rw [digs_step h, val_app, val_digs f (n / 10) (by omega), val_one, (dig_of (show n % 10 < 10 by omega)).2]; omega
theorem digs_ne (n : Nat) : decDigits n ≠ [] := by
  by_cases h : n < 10
  · rw [decDigits_one h]; simp
  · rw [digs_step h]; simp
theorem digs_len (n : Nat) (h : n < 1000000) : 1 ≤ (decDigits n).length ∧ (decDigits n).length ≤ 6 := by
  refine ⟨List.length_pos_iff.2 (digs_ne n), ?_⟩
  rw [decDigits_length]
  have h1 := nDigits_pos n
  rcases Nat.lt_or_ge 6 (nDigits n) with k | k
  · exfalso
    rcases Nat.lt_or_ge n 10 with a | a
    · rw [nDigits_small a] at k; omega
    rcases Nat.lt_or_ge n 100 with a | a
    · rw [nDigits_unique 1 n (by omega) (by omega)] at k; omega
    rcases Nat.lt_or_ge n 1000 with a | a
    · rw [nDigits_unique 2 n (by omega) (by omega)] at k; omega
    rcases Nat.lt_or_ge n 10000 with a | a
    · rw [nDigits_unique 3 n (by omega) (by omega)] at k; omega
    rcases Nat.lt_or_ge n 100000 with a | a
    · rw [nDigits_unique 4 n (by omega) (by omega)] at k; omega
    · rw [nDigits_unique 5 n (by omega) (by omega)] at k; omega
  · exact k
/-- Digits' first one is 0 only where there is no other. -/
theorem digs_head : ∀ (f n : Nat), n ≤ f → 0 < n → ∀ x, (decDigits n).head? = some x → x.toNat ≠ 48
  | 0, n, hn, h0, x, hx => by omega
  | f + 1, n, hn, h0, x, hx => by
    by_cases h : n < 10
    · rw [decDigits_one h] at hx
      simp only [List.head?_cons, Option.some.injEq] at hx
      rw [← hx, (dig_of h).2]; omega
    · rw [digs_step h] at hx
      rw [head_app (digs_ne _)] at hx
      exact digs_head f (n / 10) (by omega) (by omega) x hx
/-- What is written so is what its value writes. -/
theorem canon : ∀ (d : List UInt8), d ≠ [] → (∀ x ∈ d, dig x) → (1 < d.length → ∀ x, d.head? = some x → x.toNat ≠ 48) → decDigits (val 0 d) = d := by
  intro d
  generalize hl : d.length = m
  induction m generalizing d with
  | zero => intro h; exact absurd (List.length_eq_zero_iff.1 hl) h
  | succ m ih =>
    intro hne hd hh
    obtain ⟨a, c, rfl⟩ : ∃ a c, d = a ++ [c] := ⟨d.dropLast, d.getLast hne, (List.dropLast_concat_getLast hne).symm⟩
    have hc := hd c (by simp)
    by_cases ha : a = []
    · subst ha
      rw [List.nil_append, val_one, Nat.zero_mul, Nat.zero_add]
      have h10 : c.toNat - 48 < 10 := by have := hc.2; omega
      rw [decDigits_one h10, dig_back hc]
    · have hla : a.length = m := by simp at hl; omega
      have hpa := List.length_pos_iff.2 ha
      have hhead : ∀ x, a.head? = some x → x.toNat ≠ 48 := fun x hx => hh (by omega) x (by rw [head_app ha]; exact hx)
      have e := ih a hla ha (fun x hx => hd x (by simp [hx])) (fun _ => hhead)
      have h1 : 0 < val 0 a := by
        rcases Nat.eq_zero_or_pos (val 0 a) with z | z
        · exfalso
          rw [z, decDigits_one (by omega)] at e
          have := hhead (UInt8.ofNat (48 + 0)) (by rw [← e]; rfl)
          exact this (by decide)
        · exact z
      rw [val_app, val_one]
      have hk : c.toNat - 48 < 10 := by have := hc.2; omega
      rw [digs_step (by omega), show (val 0 a * 10 + (c.toNat - 48)) / 10 = val 0 a by omega, show (val 0 a * 10 + (c.toNat - 48)) % 10 = c.toNat - 48 by omega, e, dig_back hc]
/-- A number up to 8000, as it is written. -/
def num (d : List UInt8) : Option Nat := if val 0 d ≤ 8000 ∧ decDigits (val 0 d) = d then some (val 0 d) else none
theorem num_some {d : List UInt8} {n : Nat} (h : num d = some n) : n ≤ 8000 ∧ decDigits n = d := by
  unfold num at h
  split at h
  · rename_i h1
    simp only [Option.some.injEq] at h
    rw [← h]; exact h1
  · cases h
theorem num_of {d : List UInt8} {n : Nat} (h : n ≤ 8000) (hd : decDigits n = d) : num d = some n := by
  subst hd
  unfold num
  rw [val_digs n n (Nat.le_refl _), if_pos ⟨h, rfl⟩]
theorem num_no {d : List UInt8} (h : ∀ n, n ≤ 8000 → decDigits n ≠ d) : num d = none := by
  cases e : num d with
  | none => rfl
  | some n => exact absurd (num_some e).2 (h n (num_some e).1)
theorem parse_app : ∀ (a b : List UInt8) (acc u : Nat), parseUint10 acc a = .ok u → parseUint10 acc (a ++ b) = parseUint10 u b
  | [], b, acc, u, h => by simp only [parseUint10] at h; injection h with h; rw [h]; rfl
  | x :: a, b, acc, u, h => by
    simp only [parseUint10, List.cons_append] at h ⊢
    split at h
    · rename_i h1
      split at h
      · cases h
      · rename_i h2
        split at h
        · cases h
        · rename_i h3
          rw [if_pos h1, if_neg h2, if_neg h3]
          exact parse_app a b _ u h
    · cases h
theorem parse_digs : ∀ (f n : Nat), n ≤ f → n ≤ 8000 → parseUint10 0 (decDigits n) = .ok n
  | 0, n, hn, h8 => by
    have hz : n = 0 := by omega
    subst hz
    rw [decDigits_one (by omega)]; decide
  | f + 1, n, hn, h8 => by
    by_cases h : n < 10
    · rw [decDigits_one h]
      have e := (dig_of h).2
      simp only [parseUint10, e]
      rw [if_pos (by omega), if_neg (by omega), if_neg (by omega)]
      congr 1; omega
    · rw [digs_step h, parse_app _ _ _ _ (parse_digs f (n / 10) (by omega) (by omega))]
      have e := (dig_of (show n % 10 < 10 by omega)).2
      simp only [parseUint10, e]
      rw [if_pos (by omega), if_neg (by omega), if_neg (by omega)]
      congr 1; omega
theorem atoi_digs {n : Nat} (h : n ≤ 8000) : atoiAll (decDigits n) = .ok (n : Int) := by
  have hne := digs_ne n
  have hall := digs_all n n (Nat.le_refl _)
  have hp := parse_digs n n (Nat.le_refl _) h
  cases hd : decDigits n with
  | nil => exact absurd hd hne
  | cons c r =>
    rw [hd] at hall hp
    have hc := hall c (by simp)
    have h1 : ¬ (c.toNat = 43 ∨ c.toNat = 45) := by have := hc.1; omega
    have h2 : ¬ c.toNat = 45 := by have := hc.1; omega
    unfold atoiAll
    simp only
    rw [if_neg h1]
    unfold parseMag
    rw [if_neg (by simp), hp]
    simp only
    rw [if_neg (by omega), if_neg (by omega), if_neg h2]
/-- The number behind a word: what Atoi says of it decides. -/
theorem num_syn {d : List UInt8} (h : atoiAll d = .«syntax») : num d = none := num_no fun n hn e => by rw [← e, atoi_digs hn] at h; cases h
theorem num_rng {d : List UInt8} (h : atoiAll d = .range) : num d = none := num_no fun n hn e => by rw [← e, atoi_digs hn] at h; cases h
theorem num_out {d : List UInt8} {v : Int} (h : atoiAll d = .ok v) (hv : v < 0 ∨ 8000 < v) : num d = none := num_no fun n hn e => by
  rw [← e, atoi_digs hn] at h
  injection h with h
  omega
theorem num_in {d : List UInt8} {v : Nat} (hv : v ≤ 8000) : num d = if decDigits v = d then some v else num d := by
  split
  · rename_i e; exact num_of hv e
  · rfl
theorem num_bad {d : List UInt8} {v : Nat} (h : atoiAll d = .ok (v : Int)) (hd : decDigits v ≠ d) : num d = none := num_no fun n hn e => by
  rw [← e, atoi_digs hn] at h
  injection h with h
  have : n = v := by omega
  subst this
  exact hd e
theorem digs_blank (n : Nat) : (32 : UInt8) ∉ decDigits n := fun h => by
  have := (digs_all n n (Nat.le_refl _) 32 h).1
  exact absurd this (by decide)
/-- The Op that is called so; 0: none. -/
def opOf (w : List UInt8) : Int := if w = Txl.nm 1 then 1 else if w = Txl.nm 2 then 2 else if w = Txl.nm 3 then 3 else if w = Txl.nm 4 then 4 else if w = Txl.nm 5 then 5 else if w = Txl.nm 6 then 6 else 0
theorem opOf_in (w : List UInt8) : 0 ≤ opOf w ∧ opOf w ≤ 6 := by
  unfold opOf
  repeat (split; · omega)
  omega
theorem opOf_nm {w : List UInt8} {op : Int} (h1 : 1 ≤ op) (h2 : op ≤ 6) : w = Txl.nm op ↔ opOf w = op := by
  have e : op = 1 ∨ op = 2 ∨ op = 3 ∨ op = 4 ∨ op = 5 ∨ op = 6 := by omega
  constructor
  · intro hw
    subst hw
    rcases e with rfl | rfl | rfl | rfl | rfl | rfl <;> decide
  · intro hw
    unfold opOf at hw
    split at hw
    · rename_i k; rw [k, ← hw]
    · split at hw
      · rename_i k; rw [k, ← hw]
      · split at hw
        · rename_i k; rw [k, ← hw]
        · split at hw
          · rename_i k; rw [k, ← hw]
          · split at hw
            · rename_i k; rw [k, ← hw]
            · split at hw
              · rename_i k; rw [k, ← hw]
              · omega
/-- Words of a line, as an instruction. -/
def insW (op : Int) (r : List (List UInt8)) : Except Int Ins :=
  if op = 0 then .error 3
  else if numbered op = true then
    match r with
    | [d] => match num d with
      | some n => .ok ⟨op, n⟩
      | none => .error 4
    | _ => .error 4
  else match r with
    | [] => .ok ⟨op, 0⟩
    | _ => .error 4
def ins (t : List UInt8) : Except Int Ins := match parts 32 t with
  | [] => .error 3
  | w :: r => insW (opOf w) r
theorem ins_of {t w : List UInt8} {r : List (List UInt8)} (h : parts 32 t = w :: r) : ins t = insW (opOf w) r := by unfold ins; rw [h]
theorem insW_0 (r : List (List UInt8)) : insW 0 r = .error 3 := rfl
theorem insW_n {op : Int} (h0 : op ≠ 0) (hn : numbered op = true) {d : List UInt8} {n : Nat} (h : num d = some n) : insW op [d] = .ok ⟨op, n⟩ := by
  unfold insW; rw [if_neg h0, if_pos hn]; simp only [h]
theorem insW_m {op : Int} (h0 : op ≠ 0) (hn : numbered op = true) {d : List UInt8} (h : num d = none) : insW op [d] = .error 4 := by
  unfold insW; rw [if_neg h0, if_pos hn]; simp only [h]
theorem insW_k {op : Int} (h0 : op ≠ 0) (hn : numbered op = true) {r : List (List UInt8)} (h : r.length ≠ 1) : insW op r = .error 4 := by
  unfold insW; rw [if_neg h0, if_pos hn]
  match r, h with
  | [], _ => rfl
  | [d], h => exact absurd rfl h
  | _ :: _ :: _, _ => rfl
theorem insW_p {op : Int} (h0 : op ≠ 0) (hn : numbered op = false) : insW op [] = .ok ⟨op, 0⟩ := by
  unfold insW; rw [if_neg h0, if_neg (by rw [hn]; decide)]
theorem insW_q {op : Int} (h0 : op ≠ 0) (hn : numbered op = false) {r : List (List UInt8)} (h : r ≠ []) : insW op r = .error 4 := by
  unfold insW; rw [if_neg h0, if_neg (by rw [hn]; decide)]
  cases r with
  | nil => exact absurd rfl h
  | cons _ _ => rfl
/-- A number behind a blank, with whatever follows. -/
theorem insW_rest {op : Int} (h0 : op ≠ 0) (hn : numbered op = true) (d : List UInt8) : insW op (parts 32 d) = match num d with | some n => .ok ⟨op, n⟩ | none => .error 4 := by
  by_cases hb : (32 : UInt8) ∈ d
  · have hno : num d = none := num_no fun n _ e => digs_blank n (e ▸ hb)
    rw [hno]
    obtain ⟨a, r, e1, e2⟩ : ∃ a r, d = a ++ 32 :: r ∧ (32 : UInt8) ∉ a := by
      rcases cut_case 32 d with ⟨h, _⟩ | ⟨a, r, h1, h2, _⟩
      · exact absurd hb h
      · exact ⟨a, r, h1, h2⟩
    rw [e1, parts_cut e2]
    refine insW_k h0 hn ?_
    have := List.length_pos_iff.2 (parts_ne 32 r)
    rw [List.length_cons]; omega
  · rw [parts_none hb]
    cases h : num d with
    | none => exact insW_m h0 hn h
    | some n => exact insW_n h0 hn h
theorem insW_ok {op : Int} {r : List (List UInt8)} {x : Ins} (h6 : 0 ≤ op ∧ op ≤ 6) (h : insW op r = .ok x) : x.op = op ∧ 0 ≤ x.n ∧ x.n ≤ 8000 := by
  unfold insW at h
  split at h
  · cases h
  · split at h
    · split at h
      · split at h
        · rename_i n hn
          injection h with h
          subst h
          have := (num_some hn).1
          exact ⟨rfl, by simp, by simp; omega⟩
        · cases h
      · cases h
    · split at h
      · injection h with h
        subst h
        exact ⟨rfl, by simp, by simp⟩
      · cases h
theorem insOk_ins {t : List UInt8} {x : Ins} (h : ins t = .ok x) : InsOk x := by
  unfold ins at h
  split at h
  · cases h
  · rename_i w r _
    have h6 := opOf_in w
    obtain ⟨h1, h2, h3⟩ := insW_ok h6 h
    exact ⟨Enc.wf_small (by omega) (by omega), Enc.wf_small h2 (by omega)⟩
theorem insW_err {op : Int} {r : List (List UInt8)} {e : Int} (h : insW op r = .error e) : e = 3 ∨ e = 4 := by
  unfold insW at h
  split at h
  · injection h with h; exact Or.inl h.symm
  · split at h
    · split at h
      · split at h
        · cases h
        · injection h with h; exact Or.inr h.symm
      · injection h with h; exact Or.inr h.symm
    · split at h
      · cases h
      · injection h with h; exact Or.inr h.symm
theorem ins_err {t : List UInt8} {e : Int} (h : ins t = .error e) : e = 3 ∨ e = 4 := by
  unfold ins at h
  split at h
  · injection h with h; exact Or.inl h.symm
  · exact insW_err h
/-- Code of lines: the last one must be empty. -/
def res : List (List UInt8) → Nat → Except (Int × Int) (List Ins)
  | [], _ => .ok []
  | [t], k => if t = [] then .ok [] else .error ((k : Int) + 1, 5)
  | t :: u :: r, k => if 8000 ≤ k then .error ((k : Int) + 1, 1) else match ins t with
    | .error e => .error ((k : Int) + 1, e)
    | .ok x => match res (u :: r) (k + 1) with
      | .error q => .error q
      | .ok l => .ok (x :: l)
def more (L : List Ins) : Except (Int × Int) (List Ins) → Except (Int × Int) (List Ins)
  | .error q => .error q
  | .ok l => .ok (L ++ l)
theorem more_nil (q : Except (Int × Int) (List Ins)) : more [] q = q := by cases q <;> rfl
theorem more_more (a b : List Ins) (q : Except (Int × Int) (List Ins)) : more a (more b q) = more (a ++ b) q := by cases q <;> simp [more]
theorem res_last {t : List UInt8} (h : t ≠ []) (k : Nat) : res [t] k = .error ((k : Int) + 1, 5) := by simp [res, h]
theorem res_end (k : Nat) : res [[]] k = .ok [] := by simp [res]
theorem res_many {t : List UInt8} {r : List (List UInt8)} (hr : r ≠ []) {k : Nat} (h : 8000 ≤ k) : res (t :: r) k = .error ((k : Int) + 1, 1) := by
  cases r with
  | nil => exact absurd rfl hr
  | cons u r => simp [res, h]
theorem res_bad {t : List UInt8} {r : List (List UInt8)} (hr : r ≠ []) {k : Nat} (h : ¬ 8000 ≤ k) {e : Int} (hi : ins t = .error e) : res (t :: r) k = .error ((k : Int) + 1, e) := by
  cases r with
  | nil => exact absurd rfl hr
  | cons u r => simp [res, h, hi]
theorem res_on {t : List UInt8} {r : List (List UInt8)} (hr : r ≠ []) {k : Nat} (h : ¬ 8000 ≤ k) {x : Ins} (hi : ins t = .ok x) : res (t :: r) k = more [x] (res r (k + 1)) := by
  cases r with
  | nil => exact absurd rfl hr
  | cons u r =>
    rw [res, if_neg h, hi]
    simp only
    cases res (u :: r) (k + 1) <;> rfl
def parse (s : List UInt8) : Except (Int × Int) (List Ins) := if 200000 < s.length then .error (0, 1) else res (parts 10 s) 0
end Prs
end Go.Proofs.YtcpmbjlhblkniaaDoor
namespace Go.Proofs.YtcpmbjlhblkniaaDoor
open Go.ChangeShapes Go.WideShapes Go.ChangeAt Go.RowKit
set_option linter.unusedVariables false
set_option maxRecDepth 100000
theorem lt_of_someE {w : World} {b : Nat} {o : Obj} (h : w.heap[b]? = some o) : b < w.heap.size := (Array.getElem?_eq_some_iff.1 h).1
/-- The library's variable holds some number. -/
def ML (w : World) : Prop := ∃ m, w.cell? ⟨1, 0, none⟩ = some (.int .i64 m)
theorem scut_any (s sep : ByteArray) (a b : List UInt8) (f : Bool) (w : World) (hw : ML w) (hs : s.size < 4294967281) (hc : Lib.cut s.data.toList sep.data.toList = (a, b, f)) :
    Calls Tryd.prog 28 #[.string s, .string sep] w fun e w' => e = .returned (.tuple #[.string ⟨a.toArray⟩, .string ⟨b.toArray⟩, .bool f]) ∧ ∃ n, w' = w.drewN n := by
  obtain ⟨m, hm⟩ := hw
  have := Tryd.strings_Cut s sep m w hs hm
  rw [hc] at this
  exact this
theorem size_mk (a : List UInt8) : (ByteArray.mk a.toArray).size = a.length := by simp [ByteArray.size]
/-- What Atoi and Cut lean on in memory. -/
structure Er (w : World) : Prop where
  syn : ∃ tp p, w.var? Tryd.prog "strconv.ErrSyntax" = some #[.iface tp p]
  rng : ∃ tp p, w.var? Tryd.prog "strconv.ErrRange" = some #[.iface tp p]
  ml : ML w
theorem synG : Tryd.prog.globalNamed "strconv.ErrSyntax" = some 2 := by kernel_rfl
theorem rngG : Tryd.prog.globalNamed "strconv.ErrRange" = some 3 := by kernel_rfl
theorem var_gr {w w' : World} (hg : Gr w w') {s : String} {g : Nat} (hG : Tryd.prog.globalNamed s = some g) {v : Array Value} (h : w.var? Tryd.prog s = some v) : w'.var? Tryd.prog s = some v := by
  unfold World.var? at h ⊢
  rw [hG] at h ⊢
  simp only [Option.bind_some] at h ⊢
  have hlt : g < w.heap.size := by
    rcases Nat.lt_or_ge g w.heap.size with k | k
    · exact k
    · have n : w.heap[g]? = none := Array.getElem?_eq_none k
      simp [n] at h
  rw [hg.block _ hlt]; exact h
theorem Er.gr {w w' : World} (h : Er w) (hg : Gr w w') : Er w' := by
  obtain ⟨t1, p1, h1⟩ := h.syn
  obtain ⟨t2, p2, h2⟩ := h.rng
  obtain ⟨m, hm⟩ := h.ml
  exact ⟨⟨t1, p1, var_gr hg synG h1⟩, ⟨t2, p2, var_gr hg rngG h2⟩, m, (hg.cell _ _ (Lib.lt_of_cell hm)).trans hm⟩
theorem cut_gr (s : List UInt8) (c : UInt8) (a b : List UInt8) (f : Bool) (w : World) (hE : Er w) (hs : s.length ≤ 200000) (hc : Lib.cut s [c] = (a, b, f)) :
    Calls Tryd.prog 28 #[.string ⟨s.toArray⟩, .string ⟨#[c]⟩] w fun e w' => e = .returned (.tuple #[.string ⟨a.toArray⟩, .string ⟨b.toArray⟩, .bool f]) ∧ Gr w w' := by
  refine (scut_any ⟨s.toArray⟩ ⟨#[c]⟩ a b f w hE.ml (by rw [size_mk]; omega) hc).mono ?_
  rintro e w' ⟨rfl, n, rfl⟩
  exact ⟨rfl, (Gr.refl _).drewN n⟩
theorem atoi_ok (d : List UInt8) (v : Int) (w : World) (hl : d.length ≤ 200000) (h : Lib.atoiAll d = .ok v) :
    Calls Tryd.prog 53 #[.string ⟨d.toArray⟩] w fun e w' => e = .returned (.tuple #[.int .i64 v, .nilIface]) ∧ Gr w w' := by
  refine (Tryd.strconv_Atoi_ok ⟨d.toArray⟩ (by rw [size_mk]; omega) v h w).mono ?_
  rintro e w' ⟨rfl, rfl | ⟨t, rfl⟩⟩
  · exact ⟨rfl, Gr.refl _⟩
  · exact ⟨rfl, Gr.ofBelow (Lib.bytesWorld_below _ _ _) (Nat.le_refl _)⟩
theorem atoi_no (d : List UInt8) (w : World) (hE : Er w) (hl : d.length ≤ 200000) (h : Lib.atoiAll d = .«syntax» ∨ Lib.atoiAll d = .range) :
    Calls Tryd.prog 53 #[.string ⟨d.toArray⟩] w fun e w' => (∃ v N, e = .returned (.tuple #[.int .i64 v, .iface 158 (.pointer (some ⟨N, 0, none⟩))])) ∧ Gr w w' := by
  rcases h with h | h
  · obtain ⟨tp, p, hv⟩ := hE.syn
    refine (Tryd.strconv_Atoi_syntax_var ⟨d.toArray⟩ (by rw [size_mk]; omega) h tp p w hv).mono ?_
    rintro e w' ⟨N, rfl, _, _, hb⟩
    exact ⟨⟨_, N, rfl⟩, Gr.ofBelow hb (Nat.le_refl _)⟩
  · obtain ⟨tp, p, hv⟩ := hE.rng
    refine (Tryd.strconv_Atoi_range_var ⟨d.toArray⟩ (by rw [size_mk]; omega) h tp p w hv).mono ?_
    rintro e w' ⟨N, rfl, _, _, hb⟩
    exact ⟨⟨_, N, rfl⟩, Gr.ofBelow hb (Nat.le_refl _)⟩
theorem field_name (s : ByteArray) (a b : Int) (c : Bool) (W : World) : (Instr.field 107 (.agg #[.string s, .int .i64 a, .int .i64 b, .bool c]) 0).run Tryd.prog W = .ok (.string s) W := by
  kernel_rfl
set_option maxHeartbeats 1600000 in
theorem named_any (a : List UInt8) (w : World) (hT : Opr w) :
    Calls Tryd.prog 52 #[.string ⟨a.toArray⟩] w fun e w' => e = .returned (.tuple #[.int .i64 (Prs.opOf a), .bool (decide (Prs.opOf a ≠ 0))]) ∧ Gr w w' := by
  have ho := Prs.opOf_in a
  have HN : Hid _ := fun (op : Int) (h1 : 1 ≤ op) (h2 : op ≤ 6) => Prs.opOf_nm (w := a) h1 h2
  obtain ⟨O, hO⟩ : ∃ O, Prs.opOf a = O := ⟨_, rfl⟩
  rw [hO] at ho ⊢
  simp only [hO] at HN
  clear hO
  go_enter Tryd.func52, Tryd.ntmps52
  go_wp2
  go_loopw [4] (fun t wr => ∃ k : Nat, 1 ≤ k ∧ k ≤ 7 ∧ t = .int .i64 k ∧ (O = 0 ∨ (k : Int) ≤ O) ∧ Gr w wr) (fun t _ => 7 - (intOf t).toNat)
  case atStart => exact ⟨1, by omega, by omega, rfl, by omega, Gr.refl _⟩
  case round =>
    obtain ⟨k, hk1, hk7, rfl, hO, hG⟩ := hrel
    by_cases hlt : k ≤ 6
    · have g3 : decide ((k : Int) ≤ 6) = true := by rw [decide_eq_true_iff]; omega
      have hn := HN.out k (by omega) (by omega)
      have en := Txl.opName_nm k
      have HO : Hid _ := fun W (h : Opr W) => operatorOf_any k W h (by omega) (by omega)
      rw [en] at HO
      clear en
      have hf := fun (A B : Int) (C : Bool) (W : World) => field_name ⟨(Txl.nm k).toArray⟩ A B C W
      by_cases hw : O = k
      · have ha : a = Txl.nm k := hn.2 hw
        have hO0 : O ≠ 0 := by omega
        subst ha
        clear hn HN
        go_wp2_with (go_at_call 46; refine (HO.out _ (hT.gr hG)).mono ?_; rintro e w2 ⟨rfl, hg2⟩)
        go_ret2
        exact ⟨by rw [hw]; simp; omega, hG.trans hg2⟩
      · have ha : ¬ Txl.nm k = a := fun e => hw (hn.1 e.symm)
        have hq : (Txl.nm k == a) = false := by simpa using ha
        clear hn HN
        go_wp2_with (go_at_call 46; refine (HO.out _ (hT.gr hG)).mono ?_; rintro e w2 ⟨rfl, hg2⟩)
        exact ⟨⟨k + 1, by omega, by omega, by go_num, by omega, hG.trans hg2⟩, by simp [intOf]; omega⟩
    · have g3 : decide ((k : Int) ≤ 6) = false := by rw [decide_eq_false_iff_not]; omega
      have h0 : O = 0 := by omega
      subst h0
      go_wp2
      go_ret2
      exact ⟨rfl, hG⟩
end Go.Proofs.YtcpmbjlhblkniaaDoor
namespace Go.Proofs.YtcpmbjlhblkniaaDoor
open Go.ChangeShapes Go.WideShapes Go.ChangeAt Go.RowKit
set_option linter.unusedVariables false
set_option maxRecDepth 100000
def insR : Except Int Ins → Ins × Int
  | .error e => (⟨0, 0⟩, e)
  | .ok x => (x, 0)
structure InsTPost (w : World) (R : Ins × Int) (en : Ending) (w' : World) : Prop where
  en : en = .returned (.tuple #[.agg #[.int .i64 R.1.op, .int .i64 R.1.n], .int .i64 R.2])
  gr : Gr w w'
set_option maxHeartbeats 3200000 in
theorem insT_plain (t : List UInt8) (w : World) (hl : t.length ≤ 200000) (hT : Opr w) (hP : Po w) (hE : Er w) (hb : (32 : UInt8) ∉ t) (hc : Lib.cut t [32] = (t, [], false)) :
    Calls Tryd.prog 29 #[.string ⟨t.toArray⟩] w (InsTPost w (insR (Prs.insW (Prs.opOf t) []))) := by
  have h6 := Prs.opOf_in t
  obtain ⟨W0, hW0⟩ : ∃ W0, W0 = w.alloc (Obj.cells #[.int .i64 0, .int .i64 0] 54) := ⟨_, rfl⟩
  have g0 : Gr w W0 := by rw [hW0]; exact (Gr.refl _).alloc _
  have kb : W0.heap[w.heap.size]? = some (.cells #[.int .i64 0, .int .i64 0] 54) := by rw [hW0]; exact heapA _ _
  have HC : Hid _ := fun (_ : Unit) => cut_gr t 32 t [] false W0 (hE.gr g0) hl hc
  have HN : Hid _ := fun W (h : Gr w W) => named_any t W (hT.gr h)
  obtain ⟨op, hop⟩ : ∃ op, Prs.opOf t = op := ⟨_, rfl⟩
  simp only [hop] at HN
  rw [hop] at h6 ⊢
  obtain ⟨q, hq⟩ : ∃ q, decide (op ≠ 0) = q := ⟨_, rfl⟩
  simp only [hq] at HN
  have HQ : Hid _ := hq
  clear hq
  clear hop hc
  go_enter Tryd.func29, Tryd.ntmps29
  go_upto_region 2 with (rw [← hW0]; go_at_call 28; refine (HC.out ()).mono ?_; rintro e w1 ⟨rfl, hg1⟩)
  go_upto_region 3 with (go_at_call 52; refine (HN.out _ (g0.trans hg1)).mono ?_; rintro e w2 ⟨rfl, hg2⟩)
  have G2 : Gr w w2 := g0.trans (hg1.trans hg2)
  have kb2 := ((hg1.trans hg2).block _ (lt_of_someE kb)).trans kb
  clear hW0 HC HN hg1 hg2 g0 kb
  by_cases h0 : op = 0
  · subst h0
    obtain ⟨c3, f3⟩ := row_all kb2
    have hd : q = false := HQ.out.symm
    subst hd
    go_wp2
    refine bodyPost_ret (v := .tuple #[.agg #[.int .i64 0, .int .i64 0], .int .i64 3]) (by simp [results, Tryd.results29, go_sem, c3]) rfl ?_
    exact ⟨rfl, by repeat (with_reducible first | exact G2 | refine Gr.setCell ?_ (by exact Nat.le_refl _) _)⟩
  · have hd : q = true := by rw [← HQ.out]; simpa using h0
    subst hd
    clear HQ
    have HO : Hid _ := fun (_ : Unit) => operatorOf_any op w2 (hT.gr G2) (by omega) (by omega)
    cases hn : numbered op with
    | true =>
      have E : Hid (Prs.insW op [] = .error 4) := Prs.insW_k h0 hn (by simp)
      have hf := fun (s : ByteArray) (A B : Int) (W : World) => field_num s A B true W
      go_upto_region 6 with (go_at_call 46; refine (HO.out ()).mono ?_; rintro e w3 ⟨rfl, hg3⟩; rw [hn])
      obtain ⟨c3, f3⟩ := row_all ((hg3.block _ (lt_of_someE kb2)).trans kb2)
      have G3 := G2.trans hg3
      clear hg3 kb2
      go_wp2
      refine bodyPost_ret (v := .tuple #[.agg #[.int .i64 0, .int .i64 0], .int .i64 4]) (by simp [results, Tryd.results29, go_sem, c3]) rfl ?_
      rw [E.out]
      exact ⟨rfl, by repeat (with_reducible first | exact G3 | refine Gr.setCell ?_ (by exact Nat.le_refl _) _)⟩
    | false =>
      have E : Hid (Prs.insW op [] = .ok ⟨op, 0⟩) := Prs.insW_p h0 hn
      have hf := fun (s : ByteArray) (A B : Int) (W : World) => field_num s A B false W
      go_upto_region 7 with (go_at_call 46; refine (HO.out ()).mono ?_; rintro e w3 ⟨rfl, hg3⟩; rw [hn])
      obtain ⟨c3, f3⟩ := row_all ((hg3.block _ (lt_of_someE kb2)).trans kb2)
      have G3 := G2.trans hg3
      clear hg3 kb2
      go_wp2
      refine bodyPost_ret (v := .tuple #[.agg #[.int .i64 op, .int .i64 0], .int .i64 0]) (by simp [results, Tryd.results29, go_sem, c3]) rfl ?_
      rw [E.out]
      exact ⟨rfl, by repeat (with_reducible first | exact G3 | refine Gr.setCell ?_ (by exact Nat.le_refl _) _)⟩
set_option maxHeartbeats 3200000 in
theorem insT_blank (t a d : List UInt8) (w : World) (hl : t.length ≤ 200000) (hld : d.length ≤ 200000) (hT : Opr w) (hP : Po w) (hE : Er w) (hc : Lib.cut t [32] = (a, d, true)) :
    Calls Tryd.prog 29 #[.string ⟨t.toArray⟩] w (InsTPost w (insR (Prs.insW (Prs.opOf a) (Prs.parts 32 d)))) := by
  have h6 := Prs.opOf_in a
  obtain ⟨W0, hW0⟩ : ∃ W0, W0 = w.alloc (Obj.cells #[.int .i64 0, .int .i64 0] 54) := ⟨_, rfl⟩
  have g0 : Gr w W0 := by rw [hW0]; exact (Gr.refl _).alloc _
  have kb : W0.heap[w.heap.size]? = some (.cells #[.int .i64 0, .int .i64 0] 54) := by rw [hW0]; exact heapA _ _
  have HC : Hid _ := fun (_ : Unit) => cut_gr t 32 a d true W0 (hE.gr g0) hl hc
  have HN : Hid _ := fun W (h : Gr w W) => named_any a W (hT.gr h)
  obtain ⟨op, hop⟩ : ∃ op, Prs.opOf a = op := ⟨_, rfl⟩
  simp only [hop] at HN
  rw [hop] at h6 ⊢
  obtain ⟨q, hq⟩ : ∃ q, decide (op ≠ 0) = q := ⟨_, rfl⟩
  simp only [hq] at HN
  have HQ : Hid _ := hq
  clear hq
  clear hop hc
  go_enter Tryd.func29, Tryd.ntmps29
  go_upto_region 2 with (rw [← hW0]; go_at_call 28; refine (HC.out ()).mono ?_; rintro e w1 ⟨rfl, hg1⟩)
  go_upto_region 3 with (go_at_call 52; refine (HN.out _ (g0.trans hg1)).mono ?_; rintro e w2 ⟨rfl, hg2⟩)
  have G2 : Gr w w2 := g0.trans (hg1.trans hg2)
  have kb2 := ((hg1.trans hg2).block _ (lt_of_someE kb)).trans kb
  clear hW0 HC HN hg1 hg2 g0 kb
  by_cases h0 : op = 0
  · subst h0
    obtain ⟨c3, f3⟩ := row_all kb2
    have hd : q = false := HQ.out.symm
    subst hd
    go_wp2
    refine bodyPost_ret (v := .tuple #[.agg #[.int .i64 0, .int .i64 0], .int .i64 3]) (by simp [results, Tryd.results29, go_sem, c3]) rfl ?_
    exact ⟨rfl, by repeat (with_reducible first | exact G2 | refine Gr.setCell ?_ (by exact Nat.le_refl _) _)⟩
  · have hd : q = true := by rw [← HQ.out]; simpa using h0
    subst hd
    clear HQ
    have HO : Hid _ := fun (_ : Unit) => operatorOf_any op w2 (hT.gr G2) (by omega) (by omega)
    cases hn : numbered op with
    | false =>
      have E : Hid (Prs.insW op (Prs.parts 32 d) = .error 4) := Prs.insW_q h0 hn (Prs.parts_ne 32 d)
      have hf := fun (s : ByteArray) (A B : Int) (W : World) => field_num s A B false W
      go_upto_region 6 with (go_at_call 46; refine (HO.out ()).mono ?_; rintro e w3 ⟨rfl, hg3⟩; rw [hn])
      obtain ⟨c3, f3⟩ := row_all ((hg3.block _ (lt_of_someE kb2)).trans kb2)
      have G3 := G2.trans hg3
      clear hg3 kb2
      go_wp2
      refine bodyPost_ret (v := .tuple #[.agg #[.int .i64 0, .int .i64 0], .int .i64 4]) (by simp [results, Tryd.results29, go_sem, c3]) rfl ?_
      rw [E.out]
      exact ⟨rfl, by repeat (with_reducible first | exact G3 | refine Gr.setCell ?_ (by exact Nat.le_refl _) _)⟩
    | true =>
      have E0 : Hid _ := Prs.insW_rest h0 hn d
      have hf := fun (s : ByteArray) (A B : Int) (W : World) => field_num s A B true W
      go_upto_region 7 with (go_at_call 46; refine (HO.out ()).mono ?_; rintro e w3 ⟨rfl, hg3⟩; rw [hn])
      have G3 := G2.trans hg3
      have kb3 := (hg3.block _ (lt_of_someE kb2)).trans kb2
      clear HO kb2 hg3 G2 hf
      by_cases hno : Lib.atoiAll d = .«syntax» ∨ Lib.atoiAll d = .range
      · have E : Hid (Prs.insW op (Prs.parts 32 d) = .error 4) := by
          show Prs.insW op (Prs.parts 32 d) = .error 4
          rw [E0.out]
          rcases hno with h | h
          · rw [Prs.num_syn h]
          · rw [Prs.num_rng h]
        have HA : Hid _ := fun (_ : Unit) => atoi_no d w3 (hE.gr G3) hld hno
        clear E0 hno
        go_upto_region 10 with (go_at_call 53; refine (HA.out ()).mono ?_; rintro e w4 ⟨⟨v, N, rfl⟩, hg4⟩)
        obtain ⟨c3, f3⟩ := row_all ((hg4.block _ (lt_of_someE kb3)).trans kb3)
        have G4 := G3.trans hg4
        clear hg4 kb3
        go_wp2
        refine bodyPost_ret (v := .tuple #[.agg #[.int .i64 0, .int .i64 0], .int .i64 4]) (by simp [results, Tryd.results29, go_sem, c3]) rfl ?_
        rw [E.out]
        exact ⟨rfl, by repeat (with_reducible first | exact G4 | refine Gr.setCell ?_ (by exact Nat.le_refl _) _)⟩
      · obtain ⟨v, hv⟩ : ∃ v, Lib.atoiAll d = .ok v := by
          cases h : Lib.atoiAll d with
          | ok v => exact ⟨v, rfl⟩
          | «syntax» => exact absurd (Or.inl h) hno
          | range => exact absurd (Or.inr h) hno
        have HA : Hid _ := fun (_ : Unit) => atoi_ok d v w3 hld hv
        have HV : Hid _ := hv
        clear hno hv
        by_cases hout : v < 0 ∨ 8000 < v
        · have E : Hid (Prs.insW op (Prs.parts 32 d) = .error 4) := by
            show Prs.insW op (Prs.parts 32 d) = .error 4
            rw [E0.out, Prs.num_out HV.out hout]
          clear E0 HV
          go_upto_region 10 with (go_at_call 53; refine (HA.out ()).mono ?_; rintro e w4 ⟨rfl, hg4⟩)
          obtain ⟨c3, f3⟩ := row_all ((hg4.block _ (lt_of_someE kb3)).trans kb3)
          have G4 := G3.trans hg4
          clear hg4 kb3
          rcases hout with hv0 | hv8
          · have x1 : decide (v < 0) = true := by simpa using hv0
            go_wp2
            refine bodyPost_ret (v := .tuple #[.agg #[.int .i64 0, .int .i64 0], .int .i64 4]) (by simp [results, Tryd.results29, go_sem, c3]) rfl ?_
            rw [E.out]
            exact ⟨rfl, by repeat (with_reducible first | exact G4 | refine Gr.setCell ?_ (by exact Nat.le_refl _) _)⟩
          · have x1 : decide (v < 0) = false := by simp; omega
            have x2 : decide (8000 < v) = true := by simpa using hv8
            go_wp2
            refine bodyPost_ret (v := .tuple #[.agg #[.int .i64 0, .int .i64 0], .int .i64 4]) (by simp [results, Tryd.results29, go_sem, c3]) rfl ?_
            rw [E.out]
            exact ⟨rfl, by repeat (with_reducible first | exact G4 | refine Gr.setCell ?_ (by exact Nat.le_refl _) _)⟩
        · obtain ⟨m, rfl⟩ : ∃ m : Nat, v = m := ⟨v.toNat, by omega⟩
          have hm8 : m ≤ 8000 := by omega
          have x1 : decide ((m : Int) < 0) = false := by simp
          have x2 : decide (8000 < (m : Int)) = false := by simp; omega
          have HI : Hid _ := fun W (h : Po W) => itoa_gr m W h (by omega) (by omega)
          simp only [Lib.itoa_nonneg] at HI
          by_cases hd2 : Lib.decDigits m = d
          · have E : Hid (Prs.insW op (Prs.parts 32 d) = .ok ⟨op, m⟩) := by
              show Prs.insW op (Prs.parts 32 d) = .ok ⟨op, m⟩
              rw [E0.out, Prs.num_of hm8 hd2]
            clear E0 HV
            subst hd2
            go_upto_region 10 with (go_at_call 53; refine (HA.out ()).mono ?_; rintro e w4 ⟨rfl, hg4⟩)
            have kb4 := (hg4.block _ (lt_of_someE kb3)).trans kb3
            have G4 := G3.trans hg4
            clear hg4 kb3 G3
            go_upto_region 12 with (go_at_call 50; refine (HI.out _ (hP.gr G4)).mono ?_; rintro e w5 ⟨rfl, hg5⟩)
            obtain ⟨c3, f3⟩ := row_all ((hg5.block _ (lt_of_someE kb4)).trans kb4)
            have G5 := G4.trans hg5
            clear hg5 kb4 G4
            go_wp2
            refine bodyPost_ret (v := .tuple #[.agg #[.int .i64 op, .int .i64 m], .int .i64 0]) (by simp [results, Tryd.results29, go_sem, c3]) rfl ?_
            rw [E.out]
            exact ⟨rfl, by repeat (with_reducible first | exact G5 | refine Gr.setCell ?_ (by exact Nat.le_refl _) _)⟩
          · have E : Hid (Prs.insW op (Prs.parts 32 d) = .error 4) := by
              show Prs.insW op (Prs.parts 32 d) = .error 4
              rw [E0.out, Prs.num_bad HV.out hd2]
            have hq : (Lib.decDigits m == d) = false := by simpa using hd2
            clear E0 HV
            go_upto_region 10 with (go_at_call 53; refine (HA.out ()).mono ?_; rintro e w4 ⟨rfl, hg4⟩)
            have kb4 := (hg4.block _ (lt_of_someE kb3)).trans kb3
            have G4 := G3.trans hg4
            clear hg4 kb3 G3
            go_upto_region 11 with (go_at_call 50; refine (HI.out _ (hP.gr G4)).mono ?_; rintro e w5 ⟨rfl, hg5⟩)
            obtain ⟨c3, f3⟩ := row_all ((hg5.block _ (lt_of_someE kb4)).trans kb4)
            have G5 := G4.trans hg5
            clear hg5 kb4 G4
            go_wp2
            refine bodyPost_ret (v := .tuple #[.agg #[.int .i64 0, .int .i64 0], .int .i64 4]) (by simp [results, Tryd.results29, go_sem, c3]) rfl ?_
            rw [E.out]
            exact ⟨rfl, by repeat (with_reducible first | exact G5 | refine Gr.setCell ?_ (by exact Nat.le_refl _) _)⟩
theorem instructionT_any (t : List UInt8) (w : World) (hl : t.length ≤ 200000) (hT : Opr w) (hP : Po w) (hE : Er w) :
    Calls Tryd.prog 29 #[.string ⟨t.toArray⟩] w (InsTPost w (insR (Prs.ins t))) := by
  rcases Prs.cut_case 32 t with ⟨h1, h2⟩ | ⟨a, r, h1, h2, h3⟩
  · rw [Prs.ins_of (Prs.parts_none h1)]
    exact insT_plain t w hl hT hP hE h1 h2
  · have hp : Prs.parts 32 t = a :: Prs.parts 32 r := by rw [h1]; exact Prs.parts_cut h2 r
    rw [Prs.ins_of hp]
    exact insT_blank t a r w hl (by rw [h1] at hl; simp at hl; omega) hT hP hE h3
end Go.Proofs.YtcpmbjlhblkniaaDoor
namespace Go.Proofs.YtcpmbjlhblkniaaDoor
open Go.ChangeShapes Go.WideShapes Go.ChangeAt Go.RowKit
set_option linter.unusedVariables false
set_option maxRecDepth 100000
def insC (l : List Ins) : List Value := l.flatMap Ins.cells
theorem insC_len (l : List Ins) : (insC l).length = l.length * 2 := by
  induction l with
  | nil => rfl
  | cons x l ih => simp [insC, Ins.cells] at ih ⊢; omega
theorem insC_app (a b : List Ins) : insC (a ++ b) = insC a ++ insC b := by simp [insC]
theorem Tryd.infoIns : ∃ i, Tryd.prog.info? 54 = some i ∧ i.zero = some (.agg #[.int .i64 0, .int .i64 0]) ∧ i.size = 2 ∧ i.bytes = 16 :=
  ⟨_, rfl, by kernel_rfl, by kernel_rfl, by kernel_rfl⟩
theorem flat_get {α : Type} {f : α → List Value} {c : Nat} (hf : ∀ x, (f x).length = c) : ∀ {l : List α} {i j : Nat} {x : α}, l[i]? = some x → j < c → (l.flatMap f)[i * c + j]? = (f x)[j]?
  | y :: l, 0, j, x, h, hj => by
    simp at h
    subst h
    rw [List.flatMap_cons, Nat.zero_mul, Nat.zero_add, List.getElem?_append_left (by rw [hf]; exact hj)]
  | y :: l, i + 1, j, x, h, hj => by
    rw [List.flatMap_cons, List.getElem?_append_right (by rw [hf, Nat.succ_mul]; omega), hf]
    have := flat_get hf (l := l) (i := i) (j := j) (x := x) (by simpa using h) hj
    rw [← this]
    congr 1
    rw [Nat.succ_mul]
    omega
  | [], i, j, x, h, hj => by simp at h
theorem owns_inss {w : World} {base : Nat} {v : Value} {l : List Ins} (h : w.ownsRow base 54 2 v l.length (insC l)) : ∃ a cap, v = .slice a l.length cap ∧ l.length ≤ cap ∧ InssAt w a l := by
  rcases h.2 with ⟨hv, hn⟩ | ⟨g, cap, cur, hv, hb, hg, h1, h2, h3⟩
  · refine ⟨none, 0, by rw [hv, hn], by omega, by rw [hn]; exact Nat.zero_le _, fun i x hx => ?_⟩
    have := (List.getElem?_eq_some_iff.1 hx).1
    omega
  · refine ⟨some ⟨g, 0, none⟩, cap, hv, h1, Nat.le_trans h1 h2, fun i x hx => ⟨g, 0, rfl, (Array.getElem?_eq_some_iff.1 hg).1, ?_, ?_⟩⟩
    · have hc := h.cells (g := g) (by rw [hv]; rfl) (i * 2 + 0) (.int .i64 x.op) (by rw [insC, flat_get (c := 2) (fun _ => rfl) hx (by decide)]; rfl)
      rw [show (⟨g, 0, none⟩ : Addr).add (i * 2 + 0) = ⟨g, 0 + (i * 2 + 0), none⟩ from Go.WideShapes.add_plain ..] at hc
      exact hc
    · have hc := h.cells (g := g) (by rw [hv]; rfl) (i * 2 + 1) (.int .i64 x.n) (by rw [insC, flat_get (c := 2) (fun _ => rfl) hx (by decide)]; rfl)
      rw [show (⟨g, 0, none⟩ : Addr).add (i * 2 + 1) = ⟨g, 0 + (i * 2 + 1), none⟩ from Go.WideShapes.add_plain ..] at hc
      exact hc
theorem owns_formK {w : World} {base : Nat} {e : TypeId} {size : Nat} {v : Value} {n : Nat} {xs : List Value} (h : w.ownsRow base e size v n xs) : ∃ a cap, v = .slice a n cap := by
  rcases h.2 with ⟨hv, hn⟩ | ⟨g, cap, cur, hv, _⟩
  · exact ⟨none, 0, by rw [hv, hn]⟩
  · exact ⟨some ⟨g, 0, none⟩, cap, hv⟩
def strLen : Value → Nat
  | .string b => b.size
  | _ => 0
def strC (l : List (List UInt8)) : List Value := l.map fun a => .string ⟨a.toArray⟩
theorem strC_len (l : List (List UInt8)) : (strC l).length = l.length := by simp [strC]
theorem strC_app (a b : List (List UInt8)) : strC (a ++ b) = strC a ++ strC b := by simp [strC]
theorem Tryd.infoStr : ∃ i, Tryd.prog.info? 9 = some i ∧ i.zero = some (.string ⟨#[]⟩) ∧ i.size = 1 ∧ i.bytes = 16 :=
  ⟨_, rfl, by kernel_rfl, by kernel_rfl, by kernel_rfl⟩
/-- A slice of texts. -/
structure StrsAt (w : World) (a : Option Addr) (l : List (List UInt8)) : Prop where
  len : l.length ≤ maxLen
  cell : ∀ i x, l[i]? = some x → ∃ b, a = some ⟨b, 0, none⟩ ∧ b < w.heap.size ∧ w.cell? ⟨b, i, none⟩ = some (.string ⟨x.toArray⟩)
theorem StrsAt.gr {w w' : World} {a : Option Addr} {l : List (List UInt8)} (h : StrsAt w a l) (hg : Gr w w') : StrsAt w' a l :=
  ⟨h.len, fun i x hx => by
    obtain ⟨b, h1, h2, h3⟩ := h.cell i x hx
    exact ⟨b, h1, Nat.lt_of_lt_of_le h2 hg.size, (hg.cell b _ h2).trans h3⟩⟩
theorem owns_strs {w : World} {base : Nat} {v : Value} {l : List (List UInt8)} (h : w.ownsRow base 9 1 v l.length (strC l)) : ∃ a cap, v = .slice a l.length cap ∧ l.length ≤ cap ∧ StrsAt w a l := by
  rcases h.2 with ⟨hv, hn⟩ | ⟨g, cap, cur, hv, hb, hg, h1, h2, h3⟩
  · refine ⟨none, 0, by rw [hv, hn], by omega, by rw [hn]; exact Nat.zero_le _, fun i x hx => ?_⟩
    have := (List.getElem?_eq_some_iff.1 hx).1
    omega
  · refine ⟨some ⟨g, 0, none⟩, cap, hv, h1, Nat.le_trans h1 h2, fun i x hx => ⟨g, rfl, (Array.getElem?_eq_some_iff.1 hg).1, ?_⟩⟩
    have hc := h.cells (g := g) (by rw [hv]; rfl) i (.string ⟨x.toArray⟩) (by simp [strC, hx])
    rw [show (⟨g, 0, none⟩ : Addr).add i = ⟨g, 0 + i, none⟩ from Go.WideShapes.add_plain .., Nat.zero_add] at hc
    exact hc
end Go.Proofs.YtcpmbjlhblkniaaDoor
namespace Go.Proofs.YtcpmbjlhblkniaaDoor
open Go.ChangeShapes Go.WideShapes Go.ChangeAt Go.RowKit
set_option linter.unusedVariables false
set_option maxRecDepth 100000
structure PrsPost (w : World) (R : Except (Int × Int) (List Ins)) (en : Ending) (w' : World) : Prop where
  ex : (∃ i x, R = .error (i, x) ∧ en = .returned (.tuple #[.slice none 0 0, .int .i64 i, .int .i64 x])) ∨ (∃ l a cap, R = .ok l ∧ en = .returned (.tuple #[.slice a l.length cap, .int .i64 0, .int .i64 0]) ∧ InssAt w' a l)
  gr : Gr w w'
structure PrsL (w wr : World) (R : Except (Int × Int) (List Ins)) (s : List UInt8) (L : List Ins) (v : Value) : Prop where
  res : R = Prs.more L (Prs.res (Prs.parts 10 s) L.length)
  own : wr.ownsRow w.heap.size 54 2 v L.length (insC L)
  len : L.length ≤ 8000
  siz : s.length ≤ 200000
  gr : Gr w wr
theorem prs_ok {R : Except (Int × Int) (List Ins)} {L : List Ins} {k : Nat} (h : R = Prs.more L (Prs.res (Prs.parts 10 []) k)) : R = .ok L := by
  have e : Prs.parts 10 [] = [[]] := by simp [Prs.parts]
  rw [h, e, Prs.res_end]
  simp [Prs.more]
theorem prs_short {R : Except (Int × Int) (List Ins)} {L : List Ins} {s : List UInt8} (hs : s ≠ []) (hn : (10 : UInt8) ∉ s) {k : Nat} (h : R = Prs.more L (Prs.res (Prs.parts 10 s) k)) : R = .error ((k : Int) + 1, 5) := by
  rw [h, Prs.parts_none hn, Prs.res_last hs]
  rfl
theorem prs_many {R : Except (Int × Int) (List Ins)} {L : List Ins} {a r : List UInt8} (ha : (10 : UInt8) ∉ a) {k : Nat} (hk : 8000 ≤ k) (h : R = Prs.more L (Prs.res (Prs.parts 10 (a ++ 10 :: r)) k)) : R = .error ((k : Int) + 1, 1) := by
  rw [h, Prs.parts_cut ha, Prs.res_many (Prs.parts_ne 10 r) hk]
  rfl
theorem prs_bad {R : Except (Int × Int) (List Ins)} {L : List Ins} {a r : List UInt8} (ha : (10 : UInt8) ∉ a) {k : Nat} (hk : ¬ 8000 ≤ k) {e : Int} (hi : Prs.ins a = .error e) (h : R = Prs.more L (Prs.res (Prs.parts 10 (a ++ 10 :: r)) k)) : R = .error ((k : Int) + 1, e) := by
  rw [h, Prs.parts_cut ha, Prs.res_bad (Prs.parts_ne 10 r) hk hi]
  rfl
theorem prs_on {R : Except (Int × Int) (List Ins)} {L : List Ins} {a r : List UInt8} (ha : (10 : UInt8) ∉ a) (hk : ¬ 8000 ≤ L.length) {x : Ins} (hi : Prs.ins a = .ok x) (h : R = Prs.more L (Prs.res (Prs.parts 10 (a ++ 10 :: r)) L.length)) : R = Prs.more (L ++ [x]) (Prs.res (Prs.parts 10 r) (L ++ [x]).length) := by
  rw [h, Prs.parts_cut ha, Prs.res_on (Prs.parts_ne 10 r) hk hi, Prs.more_more]
  simp
set_option maxHeartbeats 3200000 in
theorem parse_any (s : List UInt8) (w : World) (hS : s.length ≤ 9223372036854775807) (hT : Opr w) (hP : Po w) (hE : Er w) :
    Calls Tryd.prog 13 #[.string ⟨s.toArray⟩] w (PrsPost w (Prs.parse s)) := by
  have hsz := size_mk s
  by_cases hl : 200000 < s.length
  · have E1 : Hid (Prs.parse s = .error (0, 1)) := if_pos hl
    have g : decide (200000 < ((s.length : Nat) : Int)) = true := by rw [decide_eq_true_iff]; omega
    go_enter Tryd.func13, Tryd.ntmps13
    go_wp2
    refine bodyPost_ret (v := .tuple #[.slice none 0 0, .int .i64 0, .int .i64 1]) (by simp [results, Tryd.results13, go_sem]) rfl ⟨Or.inl ⟨0, 1, E1.out, rfl⟩, Gr.refl _⟩
  · have g : decide (200000 < ((s.length : Nat) : Int)) = false := by rw [decide_eq_false_iff_not]; omega
    have E0 : Hid (PrsL w w (Prs.parse s) s [] (.slice none 0 0)) := ⟨by rw [Prs.more_nil]; exact if_neg hl, ⟨by simp [insC], Or.inl ⟨rfl, rfl⟩⟩, by simp, by omega, Gr.refl _⟩
    obtain ⟨R, hR⟩ : ∃ R, Prs.parse s = R := ⟨_, rfl⟩
    rw [hR] at E0 ⊢
    clear hR
    obtain ⟨i0, hi, hi1, hi2, hi3⟩ := Tryd.infoIns
    go_enter Tryd.func13, Tryd.ntmps13
    go_wp2_with fail
    go_loopw [0, 5] (fun sv v wr => ∃ (t : List UInt8) (L : List Ins), sv = .string ⟨t.toArray⟩ ∧ PrsL w wr R t L v) (fun sv _ _ => strLen sv)
    case atStart => exact ⟨s, [], rfl, E0.out⟩
    case round =>
      obtain ⟨t, L, rfl, hrl⟩ := hrel
      obtain ⟨va, vcap, hv⟩ := owns_formK hrl.own
      subst hv
      have HR : Hid _ := hrl
      have hL := hrl.len
      have ht := hrl.siz
      have hws := hrl.gr.size
      clear E0 hrl g hl
      by_cases h0 : t = []
      · subst h0
        have HE0 : Hid _ := prs_ok HR.out.res
        go_wp2
        refine bodyPost_ret (v := .tuple #[.slice va L.length vcap, .int .i64 0, .int .i64 0]) (by simp [results, Tryd.results13, go_sem]) rfl ⟨Or.inr ?_, HR.out.gr⟩
        obtain ⟨a', cap', e1, e2, e3⟩ := owns_inss HR.out.own
        cases e1
        exact ⟨L, va, vcap, HE0.out, rfl, e3⟩
      · have g0 : (t == []) = false := by simpa using h0
        have HEr : Hid _ := hE.gr HR.out.gr
        rcases Prs.cut_case 10 t with ⟨h1, h2⟩ | ⟨a, r, h1, h2, h3⟩
        · have HE0 : Hid _ := prs_short h0 h1 HR.out.res
          have HC : Hid _ := fun (_ : Unit) => cut_gr t 10 t [] false wr HEr.out ht h2
          clear h1 h2 h0
          go_wp2_with (go_at_call 28; refine (HC.out ()).mono ?_; rintro e w1 ⟨rfl, hg1⟩)
          refine bodyPost_ret (v := .tuple #[.slice none 0 0, .int .i64 ((L.length : Int) + 1), .int .i64 5]) (by simp [results, Tryd.results13, go_sem]) rfl ⟨Or.inl ⟨_, _, HE0.out, rfl⟩, HR.out.gr.trans hg1⟩
        · have HC : Hid _ := fun (_ : Unit) => cut_gr t 10 a r true wr HEr.out ht h3
          have HRs : Hid _ := HR.out.res
          subst h1
          have hla : a.length ≤ 200000 := by simp at ht; omega
          have hlr : r.length ≤ 200000 := by simp at ht; omega
          have hsl : r.length < (a ++ 10 :: r).length := by simp; omega
          clear h0 h3
          by_cases hk : L.length = 8000
          · have HE0 : Hid _ := prs_many h2 (by omega) HRs.out
            have HE1 : Hid (R = .error (8001, 1)) := by show R = _; rw [HE0.out, hk]; rfl
            have g1 : ((L.length : Int) == 8000) = true := by simp; omega
            clear HRs HE0
            go_wp2_with (go_at_call 28; refine (HC.out ()).mono ?_; rintro e w1 ⟨rfl, hg1⟩)
            refine bodyPost_ret (v := .tuple #[.slice none 0 0, .int .i64 8001, .int .i64 1]) (by simp [results, Tryd.results13, go_sem]) rfl ⟨Or.inl ⟨_, _, HE1.out, rfl⟩, HR.out.gr.trans hg1⟩
          · have g1 : ((L.length : Int) == 8000) = false := by simp; omega
            have HI : Hid _ := fun W (h : Gr w W) => instructionT_any a W hla (hT.gr h) (hP.gr h) (hE.gr h)
            cases hins : Prs.ins a with
            | error e =>
              have HE0 : Hid _ := prs_bad h2 (by omega) hins HRs.out
              have he := Prs.ins_err hins
              have g2 : (e != 0) = true := by simp; omega
              rw [hins] at HI
              clear HRs hins
              go_wp2_with (first | (go_at_call 28; refine (HC.out ()).mono ?_; rintro e w1 ⟨rfl, hg1⟩) | (go_at_call 29; refine (HI.out _ (HR.out.gr.trans hg1)).mono ?_; rintro e w2 ⟨rfl, hg2⟩; simp only [insR]))
              refine bodyPost_ret (v := .tuple #[.slice none 0 0, .int .i64 ((L.length : Int) + 1), .int .i64 e]) (by simp [results, Tryd.results13, go_sem]) rfl ⟨Or.inl ⟨_, _, HE0.out, rfl⟩, ((HR.out.gr.trans hg1).trans hg2).alloc _⟩
            | ok x =>
              have HE0 : Hid _ := prs_on h2 (by omega) hins HRs.out
              rw [hins] at HI
              obtain ⟨op, n⟩ := x
              clear HRs hins
              go_upto_region 11 with (first | (go_at_call 28; refine (HC.out ()).mono ?_; rintro e w1 ⟨rfl, hg1⟩) | (go_at_call 29; refine (HI.out _ (HR.out.gr.trans hg1)).mono ?_; rintro e w2 ⟨rfl, hg2⟩; simp only [insR]))
              obtain ⟨W2, hW2⟩ : ∃ W2, W2 = w2.alloc (Obj.cells #[.int .i64 op, .int .i64 n] 54) := ⟨_, rfl⟩
              have G2 : Gr wr W2 := by rw [hW2]; exact (hg1.trans hg2).alloc _
              have kx : W2.heap[w2.heap.size]? = some (.cells #[.int .i64 op, .int .i64 n] 54) := by rw [hW2]; exact heapA _ _
              rw [← hW2]
              obtain ⟨cx, fx⟩ := row_all kx
              have HOW : Hid _ := fun (_ : Unit) => owns_gr HR.out.own G2
              have hz2 := G2.size
              clear hW2 HC HI hg1 hg2 kx
              go_wp2_with (at_builtin; (refine wpList_append_lies _ rfl _ _ _ rfl w.heap.size 54 i0 _ 2 16 Tryd.underlying23 hi hi1 hi2 hi3 rfl (by decide) _ L.length (insC L) (by rfl) (owns_gr (HOW.out ()) (by exact (Gr.refl _).alloc _)) ⟨_, 0, none⟩ 1 1 [.int .i64 op, .int .i64 n] (by rfl) (by rfl) (World.news_of_block (cs := #[.int .i64 op, .int .i64 n]) (heapA _ _)) (by simp [Value.oneCell']) (by omega) (by unfold maxLen; omega) (by omega) (by simp; omega) _ rfl ?_))
              intro g cap' w3 hown3 hgrow hat hlt3
              have hrow : ∀ x, (Value.slice va L.length vcap).ownBlock = some x → w.heap.size ≤ x := fun x hx => (owns_lt HR.out.own hx).1
              have G3 : Gr w w3 := ((HR.out.gr.trans G2).alloc _).by_ hgrow hrow
              have Hend : Hid _ := And.intro G3 hown3
              clear hown3 hgrow hat hrow G3 cx fx
              go_wp2
              go_roundw
              case rel =>
                refine ⟨r, L ++ [⟨op, n⟩], rfl, HE0.out, ?_, by simp; omega, hlr, Hend.out.1⟩
                rw [insC_app, List.length_append, List.length_singleton]
                exact Hend.out.2
              case measure => simpa [strLen, size_mk] using hsl
end Go.Proofs.YtcpmbjlhblkniaaDoor
namespace Go.Proofs.YtcpmbjlhblkniaaDoor
open Go.Lib
set_option linter.unusedVariables false
namespace Prs
theorem digs_ten (n : Nat) : (10 : UInt8) ∉ decDigits n := fun h => by
  have := digs_all n n (Nat.le_refl _) 10 h
  unfold dig at this
  have e : (10 : UInt8).toNat = 10 := rfl
  omega
theorem nm_clean (op : Int) : (10 : UInt8) ∉ Txl.nm op ∧ (32 : UInt8) ∉ Txl.nm op := by
  unfold Txl.nm
  repeat' split
  all_goals decide
/-- A line of code that may be: what stands ahead of its end, and what it is read as. -/
theorem line_back {x : Ins} (h : Txl.lineE x = 0) : ∃ a, Txl.line x = a ++ [10] ∧ (10 : UInt8) ∉ a ∧ ins a = .ok x := by
  obtain ⟨op, n⟩ := x
  obtain ⟨⟨h1, h6⟩, h0, h8⟩ := Txl.lineE_0 h
  simp only at h1 h6 h0 h8
  obtain ⟨c1, c2⟩ := nm_clean op
  have hop : opOf (Txl.nm op) = op := (opOf_nm h1 h6).1 rfl
  cases hn : numbered op with
  | true =>
    obtain ⟨m, rfl⟩ : ∃ m : Nat, n = m := ⟨n.toNat, by omega⟩
    have hd := digs_ten m
    have hb := digs_blank m
    refine ⟨Txl.nm op ++ 32 :: decDigits m, ?_, ?_, ?_⟩
    · unfold Txl.line
      rw [if_pos hn]
      simp [Lib.itoa_nonneg]
    · simp only [List.mem_append, List.mem_cons, not_or]
      exact ⟨c1, by decide, hd⟩
    · rw [ins_of (parts_cut c2 _), parts_none hb, hop]
      exact insW_n (by omega) hn (num_of (by omega) rfl)
  | false =>
    have hz : n = 0 := by
      have e := Txl.lineE_op (x := ⟨op, n⟩) (show Ver.isOp op = true from decide_eq_true ⟨h1, h6⟩)
      rw [h] at e
      simp only [hn] at e
      by_cases g : 0 ≤ n ∧ n ≤ 0
      · omega
      · rw [if_neg (by simpa using g)] at e
        cases e
    subst hz
    refine ⟨Txl.nm op, ?_, c1, ?_⟩
    · unfold Txl.line
      rw [if_neg (by rw [hn]; simp)]
    · rw [ins_of (parts_none c2), hop]
      exact insW_p (by omega) hn
/-- Lines ahead of a rest. -/
theorem res_lines : ∀ (l : List Ins) (k : Nat) (T : List UInt8), (∀ y ∈ l, Txl.lineE y = 0) → k + l.length ≤ 8000 → res (parts 10 (l.flatMap Txl.line ++ T)) k = more l (res (parts 10 T) (k + l.length))
  | [], k, T, _, _ => by simp [more_nil]
  | x :: r, k, T, h, hk => by
    obtain ⟨a, e, hn, hi⟩ := line_back (h x List.mem_cons_self)
    simp only [List.length_cons] at hk
    have ih := res_lines r (k + 1) T (fun y hy => h y (List.mem_cons_of_mem _ hy)) (by omega)
    rw [List.flatMap_cons, e, List.append_assoc, List.append_assoc, List.singleton_append, parts_cut hn, res_on (parts_ne _ _) (by omega) hi, ih, more_more]
    simp [Nat.add_assoc, Nat.add_comm 1]
theorem parse_back {l : List Ins} (h : ∀ y ∈ l, Txl.lineE y = 0) (hl : l.length ≤ 5000) : parse (l.flatMap Txl.line) = .ok l := by
  have hlen := Txl.lines_len h
  unfold parse
  rw [if_neg (by omega)]
  have := res_lines l 0 [] h (by omega)
  rw [List.append_nil] at this
  rw [this, show parts 10 [] = [[]] by simp [parts], res_end]
  simp [more]
theorem ins_what : ins [119, 104, 97, 116] = .error 3 := by
  rw [ins_of (w := [119, 104, 97, 116]) (r := []) (parts_none (by decide)), show opOf [119, 104, 97, 116] = 0 by decide]
  exact insW_0 _
theorem parse_what {l : List Ins} (h : ∀ y ∈ l, Txl.lineE y = 0) (hl : l.length ≤ 5000) : parse (l.flatMap Txl.line ++ [119, 104, 97, 116, 10]) = .error ((l.length : Int) + 1, 3) := by
  have hlen := Txl.lines_len h
  unfold parse
  rw [if_neg (by rw [List.length_append]; simp only [List.length_cons, List.length_nil]; omega), res_lines l 0 _ h (by omega)]
  rw [show parts 10 [119, 104, 97, 116, 10] = [[119, 104, 97, 116], []] by decide, res_bad (by simp) (by omega) ins_what]
  simp [more]
theorem parse_arg {l : List Ins} (h : ∀ y ∈ l, Txl.lineE y = 0) (hl : l.length ≤ 5000) : parse (l.flatMap Txl.line ++ [97, 114, 103]) = .error ((l.length : Int) + 1, 5) := by
  have hlen := Txl.lines_len h
  unfold parse
  rw [if_neg (by rw [List.length_append]; simp only [List.length_cons, List.length_nil]; omega), res_lines l 0 _ h (by omega)]
  rw [show parts 10 [97, 114, 103] = [[97, 114, 103]] by decide, res_last (by simp)]
  simp [more]
end Prs
end Go.Proofs.YtcpmbjlhblkniaaDoor
