/- Contract: Text (P5.7), by the program. -/
import Derived.Test.YtoolimfdadpmpaaDoorTxtC
namespace Go.Proofs.YtoolimfdadpmpaaDoor
open Go.ChangeShapes Go.WideShapes Go.ChangeAt Go.RowKit
set_option linter.unusedVariables false
namespace Txl
/-- What is wrong first with lines. -/
def bad : List Ins → Int
  | [] => 0
  | x :: r => if lineE x = 0 then bad r else lineE x
theorem bad_at : ∀ {l : List Ins} {k : Nat} {x : Ins}, l[k]? = some x → (∀ y ∈ l.take k, lineE y = 0) → lineE x ≠ 0 → bad l = lineE x
  | [], k, x, h, _, _ => by simp at h
  | y :: r, 0, x, h, _, hx => by simp at h; subst h; rw [bad, if_neg hx]
  | y :: r, k + 1, x, h, hy, hx => by
    rw [bad, if_pos (hy y (by simp))]
    exact bad_at (by simpa using h) (fun z hz => hy z (by simp [hz])) hx
theorem bad_none : ∀ {l : List Ins}, (∀ y ∈ l, lineE y = 0) → bad l = 0
  | [], _ => rfl
  | y :: r, h => by rw [bad, if_pos (h y (by simp))]; exact bad_none (fun z hz => h z (by simp [hz]))
def textE (l : List Ins) : Int := if 8000 < l.length then 1 else bad l
def textV (l : List Ins) : List UInt8 := if textE l = 0 then l.flatMap line else []
theorem lineE_0 {x : Ins} (h : lineE x = 0) : (1 ≤ x.op ∧ x.op ≤ 6) ∧ 0 ≤ x.n ∧ x.n ≤ 8000 := by
  by_cases ho : Ver.isOp x.op = true
  · have h16 : 1 ≤ x.op ∧ x.op ≤ 6 := by simpa [Ver.isOp] using ho
    rw [lineE_op ho] at h
    by_cases hb : 0 ≤ x.n ∧ x.n ≤ (if numbered x.op = true then 8000 else 0)
    · refine ⟨h16, hb.1, ?_⟩
      have := hb.2
      split at this <;> omega
    · rw [if_neg hb] at h; cases h
  · have ho' : Ver.isOp x.op = false := by simpa using ho
    rw [lineE_kind ho'] at h
    cases h
theorem line_len {x : Ins} (h : lineE x = 0) : (line x).length ≤ 30 := by
  have h1 := nm_len x.op
  have h2 := Lib.itoa_length_le x.n (by have := lineE_0 h; omega) (by have := lineE_0 h; omega)
  unfold line
  split <;> simp <;> omega
theorem lines_len {l : List Ins} : (∀ y ∈ l, lineE y = 0) → (l.flatMap line).length ≤ l.length * 30 := by
  induction l with
  | nil => intro _; simp
  | cons y r ih =>
    intro h
    have h1 := line_len (h y (by simp))
    have h2 := ih (fun z hz => h z (by simp [hz]))
    simp
    simp at h2
    omega
end Txl
theorem Bld.more {W w w' : World} {B b : Nat} {l : List UInt8} (h : Bld W w B b l) (hg : Gr w w') : Bld W w' B b l := by
  refine ⟨?_, h.gr.trans hg, h.old, Nat.le_trans h.base hg.size⟩
  rcases h.at_ with ⟨h1, v, h2, h3, h4⟩ | ⟨h1, v, h2, h3, h4⟩
  · exact Or.inl ⟨h1, v, (hg.block b (Array.getElem?_eq_some_iff.1 h2).1).trans h2, owns_gr h3 hg, h4⟩
  · exact Or.inr ⟨h1, v, (hg.block b (Array.getElem?_eq_some_iff.1 h2).1).trans h2, owns_gr h3 hg, h4⟩
set_option maxHeartbeats 3200000 in
theorem text_any (l : List Ins) (a : Option Addr) (cap : Nat) (w : World) (hA : InssAt w a l) (hT : Opr w) (hP : Po w) :
    Calls Tryd.prog 5 #[.slice a l.length cap] w fun e w' => e = .returned (.tuple #[.string ⟨(Txl.textV l).toArray⟩, .int .i64 (Txl.textE l)]) ∧ Gr w w' := by
  by_cases hl : 8000 < l.length
  · have E1 : Hid (Txl.textE l = 1) := if_pos hl
    have E2 : Hid (Txl.textV l = []) := if_neg (by rw [E1.out]; decide)
    have g : decide (8000 < ((l.length : Nat) : Int)) = true := by rw [decide_eq_true_iff]; omega
    go_enter Tryd.func5, Tryd.ntmps5
    go_wp2
    go_ret2
    exact ⟨by rw [E1.out, E2.out]; rfl, Gr.refl _⟩
  · have E0 : Hid (Txl.textE l = Txl.bad l) := if_neg hl
    have EV : Hid (Txl.textE l = 0 → Txl.textV l = l.flatMap Txl.line) := fun h => if_pos h
    have EN : Hid (Txl.textE l ≠ 0 → Txl.textV l = []) := fun h => if_neg h
    have g : decide (8000 < ((l.length : Nat) : Int)) = false := by rw [decide_eq_false_iff_not]; omega
    have B0 : Bld w (w.alloc (Obj.cells #[.pointer none, .slice none 0 0] BldT)) w.heap.size w.heap.size [] := ⟨Lib.fresh_isBuilder BldT 5 w, (Gr.refl _).alloc _, Nat.le_refl _, by simp⟩
    go_enter Tryd.func5, Tryd.ntmps5
    go_wp2_with fail
    go_loopw [13] (fun t wr => ∃ k : Nat, k ≤ l.length ∧ t = .int .i64 k ∧ (∀ y ∈ l.take k, Txl.lineE y = 0) ∧ Bld w wr w.heap.size w.heap.size ((l.take k).flatMap Txl.line)) (fun t _ => l.length - (intOf t).toNat)
    case atStart => exact ⟨0, Nat.zero_le _, rfl, (fun y hy => by simp at hy), B0⟩
    case round =>
      obtain ⟨k, hk, rfl, hOK, hBl⟩ := hrel
      clear B0
      have HB : Hid _ := hBl
      have HOK : Hid _ := hOK
      clear hBl hOK
      by_cases hlt : k < l.length
      · obtain ⟨x, hx⟩ : ∃ x, l[k]? = some x := ⟨_, List.getElem?_eq_getElem hlt⟩
        obtain ⟨b, o, rfl, hb, h1, h2⟩ := hA.cell k x hx
        obtain ⟨op, n⟩ := x
        have g3 : decide ((k : Int) < ((l.length : Nat) : Int)) = true := by rw [decide_eq_true_iff]; omega
        have c1 := (HB.out.gr.cell b _ hb).trans h1
        have c2 := (HB.out.gr.cell b _ hb).trans h2
        simp only at c1 c2
        have hbw : b < wr.heap.size := Nat.lt_of_lt_of_le hb HB.out.gr.size
        have HBA : Hid _ := fun h => Txl.bad_at hx HOK.out h
        have HTK : Hid ((l.take (k + 1)).flatMap Txl.line = (l.take k).flatMap Txl.line ++ Txl.line ⟨op, n⟩) := by show (l.take (k + 1)).flatMap Txl.line = _; rw [List.take_add_one, hx]; simp
        have HTM : Hid (∀ h : Txl.lineE ⟨op, n⟩ = 0, ∀ y ∈ l.take (k + 1), Txl.lineE y = 0) := fun h y hy => by
          rw [List.take_add_one, hx] at hy
          rcases List.mem_append.1 hy with hy | hy
          · exact HOK.out y hy
          · simp at hy; rw [hy]; exact h
        have hlen := Txl.lines_len HOK.out
        rw [List.length_take, Nat.min_eq_left (by omega)] at hlen
        have HCK : Hid _ := fun W (h : Opr W) => checkLine_any ⟨op, n⟩ W h
        have HLN : Hid _ := fun W (h : Opr W) (p : Po W) (h0 : Txl.lineE ⟨op, n⟩ = 0) => line_any ⟨op, n⟩ W h p (Txl.lineE_0 h0).1 (Txl.lineE_0 h0).2.1 (Txl.lineE_0 h0).2.2
        have HLL : Hid _ := fun (h0 : Txl.lineE ⟨op, n⟩ = 0) => Txl.line_len h0
        obtain ⟨E, hE⟩ : ∃ E, Txl.lineE ⟨op, n⟩ = E := ⟨_, rfl⟩
        rw [hE] at HBA HTM HCK HLN HLL
        clear hE hx h1 h2
        go_upto_region 8 with (go_at_call 10; refine (HCK.out _ ((hT.gr HB.out.gr).gr (by exact (Gr.refl _).alloc _))).mono ?_; rintro e w1 ⟨rfl, hg1⟩)
        have gw1 : Gr wr w1 := ((Gr.refl _).alloc _).trans hg1
        have k1 := (hg1.block wr.heap.size (by simp)).trans (heapA wr (Obj.cells #[.int .i64 op, .int .i64 n] 36))
        obtain ⟨cx, fx⟩ := row_all k1
        clear hg1 HCK c1 c2
        by_cases he : E = 0
        · subst he
          have hll := HLL.out rfl
          have hT1 := hT.gr (HB.out.gr.trans gw1)
          have hP1 := hP.gr (HB.out.gr.trans gw1)
          have HB1 : Hid _ := HB.out.more gw1
          have HWR : Hid _ := fun W (h : Bld w W w.heap.size w.heap.size ((l.take k).flatMap Txl.line)) => writeString_any w w.heap.size w.heap.size ((l.take k).flatMap Txl.line) (Txl.line ⟨op, n⟩) W h (by omega)
          clear HBA
          go_wp2_with (first | (go_at_call 12; refine (HLN.out _ hT1 hP1 rfl).mono ?_; rintro e w2 ⟨rfl, hg2⟩) | (go_at_call 11; refine (HWR.out _ (HB1.out.more hg2)).mono ?_; rintro e w3 ⟨rfl, hB3⟩))
          refine ⟨⟨k + 1, by omega, by go_num, HTM.out (by first | rfl | trivial), by rw [HTK.out]; exact hB3⟩, by simp [intOf]; omega⟩
        · have g4 : (E != 0) = true := by simpa using he
          have HEE : Hid (Txl.textE l = E) := E0.out.trans (HBA.out he)
          have gE := HB.out.gr.trans gw1
          go_wp2
          go_ret2
          exact ⟨by rw [HEE.out, EN.out (by rw [HEE.out]; exact he)]; rfl, gE⟩
      · have g3 : decide ((k : Int) < ((l.length : Nat) : Int)) = false := by rw [decide_eq_false_iff_not]; omega
        have hke : l.take k = l := List.take_of_length_le (by omega)
        rw [hke] at HOK HB
        have HEE : Hid (Txl.textE l = 0) := E0.out.trans (Txl.bad_none HOK.out)
        have HST : Hid _ := fun (_ : Unit) => Tryd.Builder_String_any w.heap.size w.heap.size (l.flatMap Txl.line) wr HB.out.at_ HB.out.base
        clear hke
        go_wp2_with (go_at_call 13; refine (HST.out ()).mono ?_; rintro e w5 ⟨rfl, hb5⟩)
        go_ret2
        exact ⟨by rw [HEE.out, EV.out HEE.out]; rfl, ⟨hb5.os.trans HB.out.gr.os, hb5.output.trans HB.out.gr.out, Nat.le_trans HB.out.gr.size hb5.size, fun x hx => (hb5.block x hx).trans (HB.out.gr.block x hx)⟩⟩
end Go.Proofs.YtoolimfdadpmpaaDoor
