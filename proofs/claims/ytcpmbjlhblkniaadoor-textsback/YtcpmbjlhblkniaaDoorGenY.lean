/- Contracts: lead, ask of Gen's writer. -/
import Derived.Test.YtcpmbjlhblkniaaDoorGenX
namespace Go.Proofs.YtcpmbjlhblkniaaDoor
open Go.ChangeShapes Go.WideShapes Go.ChangeAt Go.RowKit Go.Maps
set_option linter.unusedVariables false
set_option maxRecDepth 100000
/-- A node's cells, as they lie. -/
theorem GW.node {w0 w : World} {base wb lb M : Nat} {na : Option Addr} {ncap : Nat} {nodes : List Tre.Nod} {s : Gn.GS} {cv pv : Value} {cs : Array Value} {D : DataW Unit} (h : GW w0 w base wb lb M na ncap nodes s cv pv cs D) {i : Nat} {lf : Bool} {a b l m : Int} (hi : nodes[i]? = some ⟨lf, a, b, l, m⟩) :
    ∃ g o, na = some ⟨g, o, none⟩ ∧ g < w.heap.size ∧ w.cell? ⟨g, o + i * 5, none⟩ = some (.bool lf) ∧ w.cell? ⟨g, o + i * 5 + 1, none⟩ = some (.int .i64 a) ∧ w.cell? ⟨g, o + i * 5 + 2, none⟩ = some (.int .i64 b) ∧ w.cell? ⟨g, o + i * 5 + 3, none⟩ = some (.int .i64 l) ∧ w.cell? ⟨g, o + i * 5 + 4, none⟩ = some (.int .i64 m) := by
  obtain ⟨g, o, e, hb, c0, c1, c2, c3, c4⟩ := (h.ns.gr h.gr).cell i _ hi
  exact ⟨g, o, e, hb, c0, c1, c2, c3, c4⟩
set_option maxHeartbeats 3200000 in
theorem lead_any {w0 : World} {base wb lb M : Nat} {na : Option Addr} {ncap : Nat} {nodes : List Tre.Nod} {s : Gn.GS} (i : Nat) (w : World) (h : GM w0 base wb lb M na ncap nodes s w) (hs : s.code.length ≤ 100000) (hl : s.len i ≤ 100000) (hi : i < nodes.length) (hn : nodes.length ≤ 100000) :
    Calls Tryd.prog 82 #[.pointer (some ⟨wb, 0, none⟩), .int .i64 i] w fun e w' => e = .returned (.tuple #[]) ∧ GM w0 base wb lb M na ncap nodes (Gn.lead nodes s i) w' ∧ Kp wb w w' := by
  obtain ⟨cv, pv, cs, D, hG⟩ := h.ex
  obtain ⟨nd, hnd⟩ : ∃ nd, nodes[i]? = some nd := ⟨_, List.getElem?_eq_getElem hi⟩
  have hcl : nodes.length ≤ ncap ∨ True := Or.inr trivial
  obtain ⟨lf, a, b, l, m⟩ := nd
  obtain ⟨g, o, rfl, hg, q0, q1, q2, q3, q4⟩ := hG.node hnd
  obtain ⟨c, f⟩ := row_all hG.box
  have hj : (i : Int) < (nodes.length : Int) := by omega
  have HG : Hid _ := hG
  have HA : Hid _ := fun W (hW : Gr w W) (op n : Int) => add_any op n W ⟨_, _, _, _, hG.gr_ hW⟩ hs
  have HW : Hid _ := fun W (hW : Gr w W) => away_any i W ⟨_, _, _, _, hG.gr_ hW⟩ hs hl hi hn
  have hb1 := hG.b1
  have hbs := hG.base
  clear hG h
  cases lf with
  | true =>
    have HE : Hid _ := (show Gn.lead nodes s i = Gn.add s 6 a by unfold Gn.lead; rw [hnd]; rfl)
    clear hnd
    go_enter Tryd.func82, Tryd.ntmps82
    go_wp2_with fail
    refine (HA.out _ (by repeat (with_reducible first | exact Gr.refl _ | refine Gr.drew ?_ | refine Gr.alloc ?_ _)) _ _).mono ?_
    rintro e w1 ⟨rfl, hm1, hk1⟩
    go_wp2_with fail
    go_end0
    exact ⟨rfl, by rw [HE.out]; exact hm1, Kp.trans (Kp.ofGr ((Gr.refl _).alloc _)) hk1⟩
  | false =>
    have HE : Hid _ := (show Gn.lead nodes s i = Gn.add s 5 (Gn.away s i) by unfold Gn.lead; rw [hnd]; rfl)
    clear hnd
    go_enter Tryd.func82, Tryd.ntmps82
    go_wp2_with fail
    refine (HW.out _ (by repeat (with_reducible first | exact Gr.refl _ | refine Gr.drew ?_ | refine Gr.alloc ?_ _))).mono ?_
    rintro e w1 ⟨rfl, hg1⟩
    go_wp2_with fail
    refine (HA.out _ (by refine Gr.trans ?_ hg1; repeat (with_reducible first | exact Gr.refl _ | refine Gr.drew ?_ | refine Gr.alloc ?_ _)) _ _).mono ?_
    rintro e w2 ⟨rfl, hm1, hk1⟩
    go_wp2_with fail
    go_end0
    exact ⟨rfl, by rw [HE.out]; exact hm1, Kp.trans (Kp.ofGr (((Gr.refl _).alloc _).trans hg1)) hk1⟩
theorem GM.gr_ {w0 w w' : World} {base wb lb M : Nat} {na : Option Addr} {ncap : Nat} {nodes : List Tre.Nod} {s : Gn.GS} (h : GM w0 base wb lb M na ncap nodes s w) (g : Gr w w') : GM w0 base wb lb M na ncap nodes s w' := by
  obtain ⟨cv, pv, cs, D, hG⟩ := h.ex
  exact ⟨_, _, _, _, hG.gr_ g⟩
theorem add_len (s : Gn.GS) (op n : Int) : (Gn.add s op n).len = s.len ∧ (Gn.add s op n).pool = s.pool ∧ (Gn.add s op n).code.length = s.code.length + 1 := ⟨rfl, rfl, rfl⟩
theorem led_short (nodes : List Tre.Nod) (s : Gn.GS) (i : Nat) : (Gn.led nodes s i).code.length ≤ s.code.length + 1 := by
  unfold Gn.led Gn.lead
  split
  · split
    · split <;> exact Nat.le_refl _
    · exact Nat.le_succ _
  · exact Nat.le_succ _
/-- Behind the way to Less: the rest of a node's question. -/
theorem ask_end (nodes : List Tre.Nod) (s : Gn.GS) (a b : Int) (l m : Nat) (lf : Bool) :
    Gn.add (Gn.add ⟨(Gn.add (Gn.add (Gn.led nodes s l) 4 (Gn.away (Gn.led nodes s l) m)) 3 0).code, (Gn.led nodes s l).len, Gn.laid (Gn.led nodes s l).pool b⟩ 2 (Gn.place (Gn.led nodes s l).pool b : Nat)) 1 0 = Gn.ask nodes s ⟨lf, a, b, l, m⟩ := by
  obtain ⟨e1, e2⟩ := Gn.led_len nodes s l
  rw [e1, e2]
  rfl
set_option maxHeartbeats 6400000 in
theorem ask_any {w0 : World} {base wb lb M : Nat} {na : Option Addr} {ncap : Nat} {nodes : List Tre.Nod} {s : Gn.GS} (lf : Bool) (a b : Int) (l m : Nat) (w : World) (h : GM w0 base wb lb M na ncap nodes s w) (hs : s.code.length ≤ 90000) (hp : s.pool.length ≤ 90000) (hll : s.len l ≤ 100000) (hlm : s.len m ≤ 100000) (hl : l < nodes.length) (hm : m < nodes.length) (hn : nodes.length ≤ 100000) (hb : (Lit.int .i64 b).wf = true) :
    Calls Tryd.prog 64 #[.pointer (some ⟨wb, 0, none⟩), .agg #[.bool lf, .int .i64 a, .int .i64 b, .int .i64 l, .int .i64 m]] w fun e w' => e = .returned (.tuple #[]) ∧ GM w0 base wb lb M na ncap nodes (Gn.ask nodes s ⟨lf, a, b, l, m⟩) w' ∧ Kp wb w w' := by
  have HAW : Hid _ := fun W (hW : GM w0 base wb lb M na ncap nodes s W) => away_any l W hW (by omega) hll hl hn
  have HLE : Hid _ := fun W (hW : GM w0 base wb lb M na ncap nodes s W) => lead_any l W hW (by omega) hll hl hn
  obtain ⟨e1, e2⟩ := Gn.led_len nodes s l
  have e3 := led_short nodes s l
  have HA2 : Hid _ := fun W (hW : GM w0 base wb lb M na ncap nodes (Gn.led nodes s l) W) => away_any m W hW (by omega) (by rw [e1]; exact hlm) hm hn
  have HA3 : Hid _ := fun W n (hW : GM w0 base wb lb M na ncap nodes (Gn.led nodes s l) W) => add_any 4 n W hW (by omega)
  have HA4 : Hid _ := fun W n (hW : GM w0 base wb lb M na ncap nodes (Gn.add (Gn.led nodes s l) 4 n) W) => add_any 3 0 W hW (by show (Gn.led nodes s l).code.length + 1 ≤ _; omega)
  have HNU : Hid _ := fun W n (hW : GM w0 base wb lb M na ncap nodes (Gn.add (Gn.add (Gn.led nodes s l) 4 n) 3 0) W) => number_any b W hW hb (by show (Gn.led nodes s l).pool.length ≤ _; rw [e2]; omega)
  have HA5 : Hid _ := fun W n P z (hW : GM w0 base wb lb M na ncap nodes ⟨(Gn.add (Gn.add (Gn.led nodes s l) 4 n) 3 0).code, (Gn.led nodes s l).len, P⟩ W) => add_any 2 z W hW (by show (Gn.led nodes s l).code.length + 1 + 1 ≤ _; omega)
  have HA6 : Hid _ := fun W n P z (hW : GM w0 base wb lb M na ncap nodes (Gn.add ⟨(Gn.add (Gn.add (Gn.led nodes s l) 4 n) 3 0).code, (Gn.led nodes s l).len, P⟩ 2 z) W) => add_any 1 0 W hW (by show (Gn.led nodes s l).code.length + 1 + 1 + 1 ≤ _; omega)
  have HEND : Hid _ := ask_end nodes s a b l m lf
  have hbx : wb < w.heap.size := by
    obtain ⟨cv, pv, cs, D, hG⟩ := h.ex
    exact Nat.lt_of_lt_of_le hG.b1 hG.base
  have hmore : ∀ {W : World}, Gr w W → GM w0 base wb lb M na ncap nodes s W := fun hW => by
    obtain ⟨cv, pv, cs, D, hG⟩ := h.ex
    exact ⟨_, _, _, _, hG.gr_ hW⟩
  have HMO : Hid _ := fun (_ : Unit) W hW => @hmore W hW
  have HLD : Hid _ := (show Gn.led nodes s l = if 0 < Gn.away s l then Gn.lead nodes s l else s from rfl)
  obtain ⟨S1, hS1⟩ : ∃ S1, S1 = Gn.led nodes s l := ⟨_, rfl⟩
  rw [← hS1] at HA2 HA3 HA4 HNU HA5 HA6 HEND HLD
  obtain ⟨R, hR⟩ : ∃ R, R = Gn.ask nodes s ⟨lf, a, b, l, m⟩ := ⟨_, rfl⟩
  rw [← hR] at HEND ⊢
  obtain ⟨A0, hA0⟩ : ∃ A0, A0 = Gn.away s l := ⟨_, rfl⟩
  rw [← hA0] at HAW HLD
  clear hS1 hR hA0 e1 e2 e3 hmore h hs hp hll hlm hl hm
  by_cases h0 : 0 < A0
  · have d0 : decide (0 < A0) = true := by simpa using h0
    have hl1 := HLD.out
    rw [if_pos h0] at hl1
    have HL1 : Hid _ := hl1
    clear hl1 h0
    go_enter Tryd.func64, Tryd.ntmps64
    go_wp2_with fail
    refine (HAW.out _ (HMO.out () _ (by repeat (with_reducible first | exact Gr.refl _ | refine Gr.drew ?_ | refine Gr.alloc ?_ _)))).mono ?_
    rintro e w1 ⟨rfl, hg1⟩
    have kx1 := (hg1.block _ (by simp)).trans (heapA w _)
    have c1 := (row_all kx1).1
    have hgw : Gr w w1 := ((Gr.refl _).alloc _).trans hg1
    have hxb : w.heap.size ≠ wb := by omega
    clear hg1
    go_wp2_with fail
    refine (HLE.out _ (HMO.out () _ hgw)).mono ?_
    rintro e w2 ⟨rfl, hm2, hk2'⟩
    rw [← HL1.out] at hm2
    have kx2 := hk2'.kp _ _ _ kx1 (by decide) (by decide) hxb
    have c2 := (row_all kx2).1
    have hk2 := (Kp.ofGr hgw).trans hk2'
    clear kx1 c1 hgw hk2'
    go_wp2_with fail
    refine (HA2.out _ hm2).mono ?_
    rintro e w3 ⟨rfl, hg3⟩
    have kx3 := (hg3.block _ (Array.getElem?_eq_some_iff.1 kx2).1).trans kx2
    have c3 := (row_all kx3).1
    have hk3 := hk2.trans (Kp.ofGr hg3)
    have hm3 := hm2.gr_ hg3
    clear kx2 c2 hg3 hm2 hk2
    go_wp2_with fail
    refine (HA3.out _ _ hm3).mono ?_
    rintro e w4 ⟨rfl, hm4, hk4⟩
    have kx4 := hk4.kp _ _ _ kx3 (by decide) (by decide) hxb
    have c4 := (row_all kx4).1
    have hk5 := hk3.trans hk4
    clear kx3 c3 hm3 hk3 hk4
    go_wp2_with fail
    refine (HA4.out _ _ hm4).mono ?_
    rintro e w5 ⟨rfl, hm5, hk6⟩
    have kx5 := hk6.kp _ _ _ kx4 (by decide) (by decide) hxb
    have c5 := (row_all kx5).1
    have hk7 := hk5.trans hk6
    clear kx4 c4 hm4 hk5 hk6
    go_wp2_with fail
    refine (HNU.out _ _ hm5).mono ?_
    rintro e w6 ⟨rfl, hm6, hk8⟩
    have hk9 := hk7.trans hk8
    clear kx5 c5 hm5 hk7 hk8
    go_wp2_with fail
    refine (HA5.out _ _ _ _ hm6).mono ?_
    rintro e w7 ⟨rfl, hm7, hk10⟩
    have hk11 := hk9.trans hk10
    clear hm6 hk9 hk10
    go_wp2_with fail
    refine (HA6.out _ _ _ _ hm7).mono ?_
    rintro e w8 ⟨rfl, hm8, hk12⟩
    have hm9 : GM w0 base wb lb M na ncap nodes R w8 := by rw [← HEND.out]; exact hm8
    clear hm8
    go_wp2_with fail
    go_end0
    exact ⟨rfl, hm9, hk11.trans hk12⟩
  · have d0 : decide (0 < A0) = false := by simpa using h0
    have hl1 := HLD.out
    rw [if_neg h0] at hl1
    have HL1 : Hid _ := hl1
    clear hl1 h0
    go_enter Tryd.func64, Tryd.ntmps64
    go_wp2_with fail
    refine (HAW.out _ (HMO.out () _ (by repeat (with_reducible first | exact Gr.refl _ | refine Gr.drew ?_ | refine Gr.alloc ?_ _)))).mono ?_
    rintro e w2 ⟨rfl, hg1⟩
    have kx2 := (hg1.block _ (by simp)).trans (heapA w _)
    have c2 := (row_all kx2).1
    have hgw : Gr w w2 := ((Gr.refl _).alloc _).trans hg1
    have hxb : w.heap.size ≠ wb := by omega
    have hm2 := HMO.out () _ hgw
    rw [← HL1.out] at hm2
    have hk2 : Kp wb w w2 := Kp.ofGr hgw
    clear hg1 hgw
    go_wp2_with fail
    refine (HA2.out _ hm2).mono ?_
    rintro e w3 ⟨rfl, hg3⟩
    have kx3 := (hg3.block _ (Array.getElem?_eq_some_iff.1 kx2).1).trans kx2
    have c3 := (row_all kx3).1
    have hk3 := hk2.trans (Kp.ofGr hg3)
    have hm3 := hm2.gr_ hg3
    clear kx2 c2 hg3 hm2 hk2
    go_wp2_with fail
    refine (HA3.out _ _ hm3).mono ?_
    rintro e w4 ⟨rfl, hm4, hk4⟩
    have kx4 := hk4.kp _ _ _ kx3 (by decide) (by decide) hxb
    have c4 := (row_all kx4).1
    have hk5 := hk3.trans hk4
    clear kx3 c3 hm3 hk3 hk4
    go_wp2_with fail
    refine (HA4.out _ _ hm4).mono ?_
    rintro e w5 ⟨rfl, hm5, hk6⟩
    have kx5 := hk6.kp _ _ _ kx4 (by decide) (by decide) hxb
    have c5 := (row_all kx5).1
    have hk7 := hk5.trans hk6
    clear kx4 c4 hm4 hk5 hk6
    go_wp2_with fail
    refine (HNU.out _ _ hm5).mono ?_
    rintro e w6 ⟨rfl, hm6, hk8⟩
    have hk9 := hk7.trans hk8
    clear kx5 c5 hm5 hk7 hk8
    go_wp2_with fail
    refine (HA5.out _ _ _ _ hm6).mono ?_
    rintro e w7 ⟨rfl, hm7, hk10⟩
    have hk11 := hk9.trans hk10
    clear hm6 hk9 hk10
    go_wp2_with fail
    refine (HA6.out _ _ _ _ hm7).mono ?_
    rintro e w8 ⟨rfl, hm8, hk12⟩
    have hm9 : GM w0 base wb lb M na ncap nodes R w8 := by rw [← HEND.out]; exact hm8
    clear hm8
    go_wp2_with fail
    go_end0
    exact ⟨rfl, hm9, hk11.trans hk12⟩
end Go.Proofs.YtcpmbjlhblkniaaDoor
