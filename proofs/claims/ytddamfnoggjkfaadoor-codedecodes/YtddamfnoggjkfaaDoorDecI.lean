/- Contract: an instruction is read (P5.6), by the program. -/
import Derived.Test.YtddamfnoggjkfaaDoorDecZ
namespace Go.Proofs.YtddamfnoggjkfaaDoor
open Go.ChangeShapes Go.WideShapes Go.ChangeAt Go.RowKit
set_option linter.unusedVariables false
theorem Bg.row {b x : Nat} {w w' : World} {o : Obj} (h : Bg b w w') (hx : w.heap[x]? = some o) (hb : x ≠ b) : w'.heap[x]? = some o := (h.block x (lt_of_someE hx) hb).trans hx
theorem Bg.ofNew {b : Nat} {w w' : World} (h : Bg b w w') {w0 : World} (hg : Gr w0 w) : Bg b w0 w' := (Bg.ofGr hg).trans h
theorem Bg.setNew {b : Nat} {w w' : World} (h : Bg b w w') {p : Addr} (hp : w.heap.size ≤ p.block) (u : Value) : Bg b w (w'.setCell p u) :=
  ⟨h.os, h.out, by simpa [World.setCell] using h.size, fun x hx hd => (Below.heap_setCell w' p u x (by omega)).trans (h.block x hx hd)⟩
theorem Rd.set {q : Prop} {W w : World} {rb : Nat} {l : List Int} {e : Int} (h : Rd q W w rb l e) {p : Addr} (hp : rb < p.block) (u : Value) : Rd q W (w.setCell p u) rb l e := by
  obtain ⟨a, cap, h1, h2⟩ := h.ex
  have := h.old
  exact ⟨h.gr.setCell (by omega) _, h.old, h.byt, a, cap, (Below.heap_setCell w p u rb (by omega)).trans h1, h2⟩
theorem Opr.bg {W w : World} (h : Opr W) (hg : Gr W w) : Opr w := h.gr hg
structure InsPost (W w : World) (rb : Nat) (R : Ins × List Int × Int) (en : Ending) (w' : World) : Prop where
  en : en = .returned (.agg #[.int .i64 R.1.op, .int .i64 R.1.n])
  ok : InsOk R.1
  rd : Rd True W w' rb R.2.1 R.2.2
  bg : Bg rb w w'
theorem ins_no {l : List Int} {e : Int} {B : Int × List Int × Int} (hB : Dec.byte l e = B) (h : Ver.isOp B.1 = false) : Dec.instruction l e = (⟨0, 0⟩, B.2.1, Dec.fail B.2.2 3) := by rw [Dec.instruction, hB, h]; rfl
theorem ins_plain {l : List Int} {e : Int} {B : Int × List Int × Int} (hB : Dec.byte l e = B) (h : Ver.isOp B.1 = true) (hn : numbered B.1 = false) : Dec.instruction l e = (⟨B.1, 0⟩, B.2) := by rw [Dec.instruction, hB, if_pos h, hn]; rfl
theorem ins_num {l : List Int} {e : Int} {B N : Int × List Int × Int} (hB : Dec.byte l e = B) (h : Ver.isOp B.1 = true) (hn : numbered B.1 = true) (hN : Dec.number B.2.1 B.2.2 = N) : Dec.instruction l e = (⟨B.1, N.1⟩, N.2) := by rw [Dec.instruction, hB, if_pos h, if_pos hn, hN]
theorem byte_bd {l : List Int} {e : Int} (h : ∀ z ∈ l, 0 ≤ z ∧ z ≤ 255) : 0 ≤ (Dec.byte l e).1 ∧ (Dec.byte l e).1 ≤ 255 := by
  by_cases h0 : e = 0
  · subst h0
    cases l with
    | nil => rw [Dec.byte_nil]; simp
    | cons b r => rw [Dec.byte_cons]; exact h b List.mem_cons_self
  · rw [Dec.byte_e h0]; simp
set_option maxHeartbeats 1600000 in
theorem instruction_any (W w : World) (rb : Nat) (l : List Int) (e : Int) (hR : Rd True W w rb l e) (hT : Opr W) :
    Calls Tryd.prog 35 #[.pointer (some ⟨rb, 0, none⟩)] w (InsPost W w rb (Dec.instruction l e)) := by
  have hrb := hR.lt
  have hfl := field_opr
  have hbd := byte_bd (e := e) hR.byt
  have HB : Hid _ := fun (_ : Unit) => byte_any W (w.alloc (Obj.cells #[.int .i64 0, .int .i64 0] 48)) rb l e (hR.bg ((Gr.refl _).alloc _))
  have H1 : Hid _ := fun (_ : Unit) => @ins_no l e
  have H2 : Hid _ := fun (_ : Unit) => @ins_plain l e
  have H3 : Hid _ := fun (_ : Unit) => @ins_num l e
  obtain ⟨B, hB⟩ : ∃ B, Dec.byte l e = B := ⟨_, rfl⟩
  have e1 := H1.out () hB
  have e2 := H2.out () hB
  have e3 := fun N => H3.out () (N := N) hB
  obtain ⟨RR, hRR⟩ : ∃ R, Dec.instruction l e = R := ⟨_, rfl⟩
  rw [hRR] at e1 e2 ⊢
  simp only [hRR] at e3
  clear hRR
  rw [hB] at HB hbd
  obtain ⟨b, l1, e1'⟩ := B
  simp only at e1 e2 e3 hbd
  have E1 : Hid _ := e1
  have E2 : Hid _ := e2
  have E3 : Hid _ := e3
  clear hR H1 H2 H3 hB e1 e2 e3
  have x3 : IntKind.i64.wrap b = b := by simp [IntKind.wrap, IntKind.signed, IntKind.bits]; omega
  go_enter Tryd.func35, Tryd.ntmps35
  go_upto_region 2 with (go_at_call 46; refine (HB.out ()).mono ?_; rintro en w1 ⟨rfl, hR2, hB2⟩)
  have k0 := hB2.row (heapA w (Obj.cells #[.int .i64 0, .int .i64 0] 48)) (by omega)
  have z0 : w.heap.size < w1.heap.size := lt_of_someE k0
  have bg1 : Bg rb w w1 := hB2.ofNew ((Gr.refl _).alloc _)
  obtain ⟨W2, hW2⟩ : ∃ W2, W2 = w1.alloc (Obj.cells #[.int .i64 b, .int .i64 0] 48) := ⟨_, rfl⟩
  have g2 : Gr w1 W2 := by rw [hW2]; exact (Gr.refl _).alloc _
  have kx : W2.heap[w1.heap.size]? = some (.cells #[.int .i64 b, .int .i64 0] 48) := by rw [hW2]; exact heapA _ _
  have k2 := (g2.block _ z0).trans k0
  have R2 := hR2.bg g2
  have bg2 : Bg rb w W2 := bg1.gr0 g2
  have zx : w1.heap.size < W2.heap.size := lt_of_someE kx
  rw [← hW2]
  obtain ⟨cx, fx⟩ := row_all kx
  have KX : Hid _ := kx
  have K2 : Hid _ := k2
  clear hW2 kx k0 k2 HB hR2 hB2
  cases ho : Ver.isOp b with
  | false =>
    go_upto_region 3 with (go_at_call 39; refine (isOperator_any b _).mono ?_; rintro en w3 ⟨rfl, hw3⟩; subst w3; rw [ho])
    go_upto_region 4 with (go_at_call 33; refine (fail_any True W _ rb _ _ 3 R2 (by decide)).mono ?_; rintro en w3 ⟨rfl, hR3, hB3⟩)
    obtain ⟨c3, f3⟩ := row_all (hB3.row K2.out (by omega))
    have RD : Hid _ := hR3
    have BG : Hid _ := bg2.trans hB3
    clear cx fx hR3 hB3
    go_wp2
    refine bodyPost_ret (v := .agg #[.int .i64 0, .int .i64 0]) (by simp [results, Tryd.results35, go_sem, c3]) rfl ?_
    rw [E1.out ho]
    refine ⟨rfl, ⟨by show (Lit.int .i64 0).wf = true; decide, by show (Lit.int .i64 0).wf = true; decide⟩, ?_, ?_⟩
    · repeat (with_reducible first | exact RD.out | refine Rd.set ?_ (by exact hrb) _)
    · repeat (with_reducible first | exact BG.out | refine Bg.setNew ?_ (by simp) _)
  | true =>
    have hop : 1 ≤ b ∧ b ≤ 6 := by simpa [Ver.isOp] using ho
    have wb : (Lit.int .i64 b).wf = true := Enc.wf_small (by omega) (by omega)
    have hT2 := hT.gr R2.gr
    cases hn : numbered b with
    | false =>
      go_upto_region 5 with (go_at_call 39; refine (isOperator_any b _).mono ?_; rintro en w3 ⟨rfl, hw3⟩; subst w3; rw [ho])
      go_upto_region 7 with (go_at_call 28; refine (operatorOf_any b _ hT2 hop.1 hop.2).mono ?_; rintro en w4 ⟨rfl, hg4⟩; rw [hn])
      obtain ⟨c3, f3⟩ := row_all ((hg4.block _ (lt_of_someE K2.out)).trans K2.out)
      obtain ⟨c4, f4⟩ := row_all ((hg4.block _ (lt_of_someE KX.out)).trans KX.out)
      have RD : Hid _ := R2.bg hg4
      have BG : Hid _ := bg2.gr0 hg4
      have hne : w.heap.size ≠ w1.heap.size := by omega
      clear cx fx R2 bg2
      go_wp2
      refine bodyPost_ret (v := .agg #[.int .i64 b, .int .i64 0]) (by simp [results, Tryd.results35, go_sem, c3]) rfl ?_
      rw [E2.out ho hn]
      refine ⟨rfl, ⟨wb, by show (Lit.int .i64 0).wf = true; decide⟩, ?_, ?_⟩
      · repeat (with_reducible first | exact RD.out | refine Rd.set ?_ (by exact hrb) _)
      · repeat (with_reducible first | exact BG.out | refine Bg.setNew ?_ (by simp) _)
    | true =>
      have HNW : Hid _ := Dec.number_wf (l := l1) (e := e1') R2.byt
      have HNU : Hid _ := fun W' (h : Rd True W W' rb l1 e1') => number_any W W' rb l1 e1' h
      obtain ⟨N, hN⟩ : ∃ N, Dec.number l1 e1' = N := ⟨_, rfl⟩
      have HE3 : Hid _ := E3.out N ho hn hN
      rw [hN] at HNW HNU
      obtain ⟨z, l2, e2'⟩ := N
      clear hN
      go_upto_region 5 with (go_at_call 39; refine (isOperator_any b _).mono ?_; rintro en w3 ⟨rfl, hw3⟩; subst w3; rw [ho])
      go_upto_region 6 with (go_at_call 28; refine (operatorOf_any b _ hT2 hop.1 hop.2).mono ?_; rintro en w4 ⟨rfl, hg4⟩; rw [hn])
      have R4 := R2.bg hg4
      have bg4 := bg2.gr0 hg4
      have K4 : Hid _ := (hg4.block _ (lt_of_someE K2.out)).trans K2.out
      have KY : Hid _ := (hg4.block _ (lt_of_someE KX.out)).trans KX.out
      clear cx fx R2 bg2
      go_upto_region 7 with (go_at_call 45; refine (HNU.out _ R4).mono ?_; rintro en w5 ⟨rfl, hR5, hB5⟩; obtain ⟨c4, f4⟩ := row_all (hB5.row KY.out (by omega)))
      obtain ⟨c3, f3⟩ := row_all (hB5.row K4.out (by omega))
      have RD : Hid _ := hR5
      have BG : Hid _ := bg4.trans hB5
      have hne : w.heap.size ≠ w1.heap.size := by omega
      clear hR5 hB5 R4 bg4
      go_wp2
      refine bodyPost_ret (v := .agg #[.int .i64 b, .int .i64 z]) (by simp [results, Tryd.results35, go_sem, c3]) rfl ?_
      rw [HE3.out]
      refine ⟨rfl, ⟨wb, HNW.out⟩, ?_, ?_⟩
      · repeat (with_reducible first | exact RD.out | refine Rd.set ?_ (by first | exact hrb | (simp; omega)) _)
      · repeat (with_reducible first | exact BG.out | refine Bg.setNew ?_ (by first | exact Nat.le_refl _ | (simp; omega)) _)
end Go.Proofs.YtddamfnoggjkfaaDoor
