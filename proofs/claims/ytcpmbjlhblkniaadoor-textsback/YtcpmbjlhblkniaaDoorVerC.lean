/- Contract: what is wrong with the parts of a program (P5.2), by the program. -/
import Derived.Test.YtcpmbjlhblkniaaDoorVerA
import Derived.Deep.RegionHeld3
import Derived.Deep.Cut
namespace Go.Proofs.YtcpmbjlhblkniaaDoor
open Go.ChangeShapes Go.WideShapes Go.ChangeAt Go.RowKit
set_option linter.unusedVariables false
theorem cho_2 (i n pl al : Int) : Ver.choices 2 i n pl al = pl := rfl
theorem cho_6 (i n pl al : Int) : Ver.choices 6 i n pl al = al := rfl
theorem cho_4 (i n pl al : Int) : Ver.choices 4 i n pl al = n - i - 1 := rfl
theorem cho_5 (i n pl al : Int) : Ver.choices 5 i n pl al = n - i - 1 := rfl
theorem cho_x {op : Int} (i n pl al : Int) (h2 : op ≠ 2) (h6 : op ≠ 6) (h4 : op ≠ 4) (h5 : op ≠ 5) : Ver.choices op i n pl al = 1 := by simp [Ver.choices, h2, h4, h5, h6]
set_option maxHeartbeats 1600000 in
theorem choices_any (ca pa aa : Option Addr) (cn ccap pn pcap an acap : Nat) (i : Nat) (op : Int) (b o : Nat) (w : World) (hca : ca = some ⟨b, o, none⟩) (hb : b < w.heap.size) (hc : w.cell? ⟨b, o + i * 2, none⟩ = some (.int .i64 op)) (hi : i < cn) (h1 : cn ≤ 8000) (h2 : pn ≤ 2000) (h3 : an ≤ 2000) :
    Calls Tryd.prog 44 #[.agg #[.slice ca cn ccap, .slice pa pn pcap, .slice aa an acap], .int .i64 i] w fun e w' => e = .returned (.int .i64 (Ver.choices op i cn pn an)) ∧ Gr w w' := by
  subst hca
  have hne : b ≠ w.heap.size := by omega
  by_cases e2 : op = 2
  · subst e2
    rw [cho_2]
    go_enter Tryd.func44, Tryd.ntmps44
    go_wp2
    go_ret
    exact ⟨rfl, (Gr.refl _).alloc _⟩
  by_cases e6 : op = 6
  · subst e6
    rw [cho_6]
    go_enter Tryd.func44, Tryd.ntmps44
    go_wp2
    go_ret
    exact ⟨rfl, (Gr.refl _).alloc _⟩
  by_cases e4 : op = 4
  · subst e4
    rw [cho_4]
    go_enter Tryd.func44, Tryd.ntmps44
    go_wp2
    go_ret
    exact ⟨ret_int (by omega), (Gr.refl _).alloc _⟩
  by_cases e5 : op = 5
  · subst e5
    rw [cho_5]
    go_enter Tryd.func44, Tryd.ntmps44
    go_wp2
    go_ret
    exact ⟨ret_int (by omega), (Gr.refl _).alloc _⟩
  · rw [cho_x _ _ _ _ e2 e6 e4 e5]
    go_enter Tryd.func44, Tryd.ntmps44
    go_wp2
    go_ret
    exact ⟨rfl, (Gr.refl _).alloc _⟩
theorem insF_3 {x : Ins} {i n pl al : Int} (h : Ver.isOp x.op = false) : Ver.insF x i n pl al = 3 := by simp [Ver.insF, h]
theorem insF_2 {x : Ins} {i n pl al : Int} (h : Ver.isOp x.op = true) (h' : ¬ (0 ≤ x.n ∧ x.n < Ver.choices x.op i n pl al)) : Ver.insF x i n pl al = 2 := by rw [Ver.insF, if_pos h, if_neg h']
theorem insF_ok {x : Ins} {i n pl al : Int} (h : Ver.isOp x.op = true) (h' : 0 ≤ x.n ∧ x.n < Ver.choices x.op i n pl al) : Ver.insF x i n pl al = 0 := by rw [Ver.insF, if_pos h, if_pos h']
set_option maxHeartbeats 1600000 in
theorem checkParts_any (p : Prg) (w : World) (hp : PrgOk w p) :
    Calls Tryd.prog 21 #[.agg p.cells.toArray] w fun e w' => e = .returned (.int .i64 (Ver.prgF p)) ∧ Gr w w' := by
  obtain ⟨ca, ccap, code, pa, pcap, pool, aa, acap, answers⟩ := p
  have l1 := hp.cat.len
  have l2 := hp.pat.len
  have l3 := hp.aat.len
  unfold maxLen at l1 l2 l3
  simp only [Prg.cells] at l1 l2 l3 ⊢
  by_cases h6 : code.length = 0
  · have E : Hid _ := Ver.prgF_6 (p := ⟨ca, ccap, code, pa, pcap, pool, aa, acap, answers⟩) h6
    have g : ((code.length : Int) == 0) = true := by simpa using h6
    clear h6
    go_enter Tryd.func21, Tryd.ntmps21
    go_wp2
    go_ret
    exact ⟨ret_int E.out.symm, (Gr.refl _).alloc _⟩
  have g : ((code.length : Int) == 0) = false := by simpa using h6
  by_cases h1 : 8000 < code.length ∨ 2000 < pool.length ∨ 2000 < answers.length
  · have E : Hid _ := Ver.prgF_1 (p := ⟨ca, ccap, code, pa, pcap, pool, aa, acap, answers⟩) h6 h1
    clear h6
    go_enter Tryd.func21, Tryd.ntmps21
    go_wp2
    all_goals first | (exfalso; omega) | (go_ret; exact ⟨ret_int E.out.symm, (Gr.refl _).alloc _⟩)
  have b1 : code.length ≤ 8000 := by omega
  have b2 : pool.length ≤ 2000 := by omega
  have b3 : answers.length ≤ 2000 := by omega
  have H6 : Hid _ := h6
  have H1 : Hid _ := h1
  clear h6 h1
  have d1 : decide (8000 < (code.length : Int)) = false := by simp; omega
  have d2 : decide (2000 < (pool.length : Int)) = false := by simp; omega
  have d3 : decide (2000 < (answers.length : Int)) = false := by simp; omega
  go_enter Tryd.func21, Tryd.ntmps21
  go_wp2_with fail
  obtain ⟨w1, hw1⟩ : ∃ w1, w1 = w.alloc (Obj.cells #[Value.slice ca code.length ccap, Value.slice pa pool.length pcap, Value.slice aa answers.length acap] 27) := ⟨_, rfl⟩
  have hg1 : Gr w w1 := by rw [hw1]; exact (Gr.refl _).alloc _
  have c0 : w1.cell? ⟨w.heap.size, 0, none⟩ = some (.slice ca code.length ccap) := by rw [hw1]; exact cell_new w _ _ 0
  have c1 : w1.cell? ⟨w.heap.size, 1, none⟩ = some (.slice pa pool.length pcap) := by rw [hw1]; exact cell_new w _ _ 1
  have c2 : w1.cell? ⟨w.heap.size, 2, none⟩ = some (.slice aa answers.length acap) := by rw [hw1]; exact cell_new w _ _ 2
  have z1 : w.heap.size < w1.heap.size := by rw [hw1]; simp
  rw [← hw1]
  clear hw1
  go_loopw [31] (fun t wr => ∃ k : Nat, k ≤ answers.length ∧ t = .int .i64 k ∧ (∀ i, i < k → ansE answers i = 0) ∧ Gr w1 wr) (fun t _ => answers.length - (intOf t).toNat)
  case atStart => exact ⟨0, Nat.zero_le _, rfl, fun i h => absurd h (Nat.not_lt_zero _), Gr.refl _⟩
  case round =>
    obtain ⟨k, hk, rfl, hall, hgr⟩ := hrel
    have Hall : Hid _ := hall
    clear hall
    by_cases hlt : k < answers.length
    · obtain ⟨x, hx⟩ : ∃ x, answers[k]? = some x := ⟨_, List.getElem?_eq_getElem hlt⟩
      obtain ⟨b, o, rfl, hb, hc⟩ := hp.aat.cell k x hx
      have ho := hp.aok x (List.mem_of_getElem? hx)
      have hc' := hc.gr hb (hg1.trans hgr)
      have ho' := ho.gr (hg1.trans hgr)
      have hb' : b < _ := Nat.lt_of_lt_of_le hb (hg1.trans hgr).size
      have Hx : Hid _ := hx
      clear hx hc ho
      obtain ⟨off, sv, nm, a, cap, zs, jump⟩ := x
      obtain ⟨q0, q1, q2, q3, q4⟩ := hc'
      simp [Ans.cells] at q0 q1 q2 q3 q4
      by_cases he : Tre.ansF off jump zs nm.size = 0
      · have g1 : (Tre.ansF off jump zs nm.size != 0) = false := by simpa using he
        have He : Hid _ := he
        clear he
        go_wp2_with (go_at_call 41; refine (checkAnswer_any _ _ _ _ _ _ _ _ (ho'.zs.gr (by exact (Gr.refl _).alloc _)) ho'.nm).mono ?_; rintro e w2 ⟨rfl, hg2⟩)
        go_roundw
        case rel =>
          refine ⟨k + 1, by omega, by go_num, fun i hi => ?_, hgr.trans (((Gr.refl _).alloc _).trans (Gr.ofGrown hg2))⟩
          rcases Nat.lt_succ_iff_lt_or_eq.1 hi with h | rfl
          · exact Hall.out i h
          · rw [ansE_at Hx.out]; exact He.out
        case measure => simp [intOf]; omega
      · have g1 : (Tre.ansF off jump zs nm.size != 0) = true := by simpa using he
        have E : Hid _ := Ver.prgF_a (p := ⟨ca, ccap, code, pa, pcap, pool, some ⟨b, o, none⟩, acap, answers⟩) H6.out H1.out Hx.out Hall.out he
        clear he
        go_wp2_with (go_at_call 41; refine (checkAnswer_any _ _ _ _ _ _ _ _ (ho'.zs.gr (by exact (Gr.refl _).alloc _)) ho'.nm).mono ?_; rintro e w2 ⟨rfl, hg2⟩)
        go_ret
        exact ⟨ret_int E.out.symm, hg1.trans (hgr.trans (((Gr.refl _).alloc _).trans (Gr.ofGrown hg2)))⟩
    · have hAll : ∀ i, i < answers.length → ansE answers i = 0 := fun i hi => Hall.out i (by omega)
      have HA : Hid _ := hAll
      clear hAll
      have c0' := (hgr.cell _ _ z1).trans c0
      have c1' := (hgr.cell _ _ z1).trans c1
      have c2' := (hgr.cell _ _ z1).trans c2
      have z2 : w.heap.size < wr.heap.size := Nat.lt_of_lt_of_le z1 hgr.size
      have hg2 := hg1.trans hgr
      clear c0 c1 c2 z1 hgr hg1
      go_wp2_with fail
      go_loopw [44] (fun t ws => ∃ k : Nat, k ≤ code.length ∧ t = .int .i64 k ∧ (∀ i, i < k → Ver.insE code pool.length answers.length i = 0) ∧ Gr wr ws) (fun t _ => code.length - (intOf t).toNat)
      case atStart => exact ⟨0, Nat.zero_le _, rfl, fun i h => absurd h (Nat.not_lt_zero _), Gr.refl _⟩
      case round =>
        obtain ⟨j, hj, rfl, hall, hgs⟩ := hrel
        have Hall2 : Hid _ := hall
        clear hall
        by_cases hlt2 : j < code.length
        · obtain ⟨x, hx⟩ : ∃ x, code[j]? = some x := ⟨_, List.getElem?_eq_getElem hlt2⟩
          obtain ⟨b, o, rfl, hb, hc1, hc2⟩ := hp.cat.cell j x hx
          have hgx := hg2.trans hgs
          have q0 := (hgx.cell b _ hb).trans hc1
          have q1 := (hgx.cell b _ hb).trans hc2
          have hb' : b < _ := Nat.lt_of_lt_of_le hb hgx.size
          have c0'' := (hgs.cell _ _ z2).trans c0'
          have c1'' := (hgs.cell _ _ z2).trans c1'
          have c2'' := (hgs.cell _ _ z2).trans c2'
          have z3 : w.heap.size < _ := Nat.lt_of_lt_of_le z2 hgs.size
          have Hx : Hid _ := hx
          obtain ⟨op, n⟩ := x
          clear hx hc1 hc2 c0' c1' c2'
          simp only at q0 q1
          cases ho : Ver.isOp op with
          | false =>
            have E : Hid _ := Ver.prgF_k (p := ⟨some ⟨b, o, none⟩, ccap, code, pa, pcap, pool, aa, acap, answers⟩) H6.out H1.out HA.out Hx.out Hall2.out (insF_3 ho) (by decide)
            go_wp2_with (go_at_call 43; refine (isOperator_any _ _).mono ?_; rintro e w2 ⟨rfl, hw2⟩; subst w2)
            go_ret
            exact ⟨ret_int E.out.symm, hgx.trans ((Gr.refl _).alloc _)⟩
          | true =>
            go_upto_region 17 with (go_at_call 43; refine (isOperator_any _ _).mono ?_; rintro e w2 ⟨rfl, hw2⟩; subst w2)
            obtain ⟨w4, hw4⟩ : ∃ w4, w4 = wr.alloc (Obj.cells #[Value.int .i64 op, Value.int .i64 n] 54) := ⟨_, rfl⟩
            rw [← hw4]
            have hg4 : Gr wr w4 := by rw [hw4]; exact (Gr.refl _).alloc _
            have zX : wr.heap.size < w4.heap.size := by rw [hw4]; simp
            have zp : w.heap.size < w4.heap.size := Nat.lt_of_lt_of_le z3 hg4.size
            have zb : b < w4.heap.size := Nat.lt_of_lt_of_le hb' hg4.size
            have hO : w4.cell? ⟨wr.heap.size, 1, none⟩ = some (.int .i64 n) ∧ w4.cell? ⟨w.heap.size, 0, none⟩ = some (.slice (some ⟨b, o, none⟩) code.length ccap) ∧ w4.cell? ⟨w.heap.size, 1, none⟩ = some (.slice pa pool.length pcap) ∧ w4.cell? ⟨w.heap.size, 2, none⟩ = some (.slice aa answers.length acap) ∧ w4.cell? ⟨b, o + j * 2, none⟩ = some (.int .i64 op) :=
              ⟨by rw [hw4]; exact cell_new wr _ _ 1, (hg4.cell _ _ z3).trans c0'', (hg4.cell _ _ z3).trans c1'', (hg4.cell _ _ z3).trans c2'', (hg4.cell _ _ hb').trans q0⟩
            clear hw4 c0'' c1'' c2'' q0 q1 z3 hb'
            by_cases hneg : n < 0
            · have E : Hid _ := Ver.prgF_k (p := ⟨some ⟨b, o, none⟩, ccap, code, pa, pcap, pool, aa, acap, answers⟩) H6.out H1.out HA.out Hx.out Hall2.out (insF_2 ho (by simp only; omega)) (by decide)
              have hn : decide (n < 0) = true := by simpa using hneg
              obtain ⟨o1, o2, o3, o4, o5⟩ := hO
              go_quiet (fail)
              go_wp2
              go_ret
              exact ⟨ret_int E.out.symm, (hgx.trans hg4).drewN _⟩
            · have hn : decide (n < 0) = false := by simpa using hneg
              by_cases hch : n < Ver.choices op j code.length pool.length answers.length
              · have I0 : Hid _ := insF_ok (x := ⟨op, n⟩) ho (And.intro (by simp only; omega) hch)
                have hch' : decide (Ver.choices op j code.length pool.length answers.length ≤ n) = false := by simpa using hch
                go_region_held3 (fun w' => w'.cell? ⟨wr.heap.size, 1, none⟩ = some (.int .i64 n) ∧ w'.cell? ⟨w.heap.size, 0, none⟩ = some (.slice (some ⟨b, o, none⟩) code.length ccap) ∧ w'.cell? ⟨w.heap.size, 1, none⟩ = some (.slice pa pool.length pcap) ∧ w'.cell? ⟨w.heap.size, 2, none⟩ = some (.slice aa answers.length acap) ∧ w'.cell? ⟨b, o + j * 2, none⟩ = some (.int .i64 op)) (first | with_reducible exact hO | (simpa [go_sem] using hO))
              (first | (go_at_call 44; refine (choices_any _ _ _ _ _ _ _ _ _ _ op b o _ rfl (by exact zb) (by exact hO.2.2.2.2) (by omega) (by omega) (by omega) (by omega)).mono ?_; rintro e w5 ⟨rfl, hg3⟩; replace hO := And.intro ((hg3.cell _ _ (by exact zX)).trans hO.1) (And.intro ((hg3.cell _ _ (by exact zp)).trans hO.2.1) (And.intro ((hg3.cell _ _ (by exact zp)).trans hO.2.2.1) (And.intro ((hg3.cell _ _ (by exact zp)).trans hO.2.2.2.1) ((hg3.cell _ _ (by exact zb)).trans hO.2.2.2.2))))))
                go_wp2
                refine ⟨⟨j + 1, by omega, by go_num, fun i hi => ?_, (hgs.trans hg4).trans ((Gr.refl _).drew.trans hg3)⟩, by simp [intOf]; omega⟩
                rcases Nat.lt_succ_iff_lt_or_eq.1 hi with h | rfl
                · exact Hall2.out i h
                · rw [Ver.insE_at Hx.out]; exact I0.out
              · have hch' : decide (Ver.choices op j code.length pool.length answers.length ≤ n) = true := by simpa using hch
                have E : Hid _ := Ver.prgF_k (p := ⟨some ⟨b, o, none⟩, ccap, code, pa, pcap, pool, aa, acap, answers⟩) H6.out H1.out HA.out Hx.out Hall2.out (insF_2 ho (by simp only; omega)) (by decide)
                go_region_held3 (fun w' => w'.cell? ⟨wr.heap.size, 1, none⟩ = some (.int .i64 n) ∧ w'.cell? ⟨w.heap.size, 0, none⟩ = some (.slice (some ⟨b, o, none⟩) code.length ccap) ∧ w'.cell? ⟨w.heap.size, 1, none⟩ = some (.slice pa pool.length pcap) ∧ w'.cell? ⟨w.heap.size, 2, none⟩ = some (.slice aa answers.length acap) ∧ w'.cell? ⟨b, o + j * 2, none⟩ = some (.int .i64 op)) (first | with_reducible exact hO | (simpa [go_sem] using hO))
              (first | (go_at_call 44; refine (choices_any _ _ _ _ _ _ _ _ _ _ op b o _ rfl (by exact zb) (by exact hO.2.2.2.2) (by omega) (by omega) (by omega) (by omega)).mono ?_; rintro e w5 ⟨rfl, hg3⟩; replace hO := And.intro ((hg3.cell _ _ (by exact zX)).trans hO.1) (And.intro ((hg3.cell _ _ (by exact zp)).trans hO.2.1) (And.intro ((hg3.cell _ _ (by exact zp)).trans hO.2.2.1) (And.intro ((hg3.cell _ _ (by exact zp)).trans hO.2.2.2.1) ((hg3.cell _ _ (by exact zb)).trans hO.2.2.2.2))))))
                go_wp2
                go_ret
                exact ⟨ret_int E.out.symm, (hgx.trans hg4).trans ((Gr.refl _).drew.trans hg3)⟩
        · have E : Hid _ := Ver.prgF_0 (p := ⟨ca, ccap, code, pa, pcap, pool, aa, acap, answers⟩) H6.out H1.out HA.out fun i (hi : i < code.length) => Hall2.out i (by omega)
          go_wp2
          go_ret
          exact ⟨ret_int E.out.symm, hg2.trans hgs⟩
end Go.Proofs.YtcpmbjlhblkniaaDoor
