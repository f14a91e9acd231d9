/- Contract: what is wrong with the parts of a program (P5.2), and where an instruction goes on (P5.1), by the document's answer. -/
import Derived.Test.YtcpmbjlhblkniaaVerC
namespace Go.Proofs.Ytcpmbjlhblkniaa
open Go.ChangeShapes Go.WideShapes Go.ChangeAt Go.RowKit
set_option linter.unusedVariables false
theorem inB_iff (n l h : Int) : Tre.inB n l h = true ↔ l ≤ n ∧ n ≤ h := by simp [Tre.inB]
set_option maxHeartbeats 1600000 in
theorem programFault_any (p : Prg) (w : World) (hp : PrgOk w p) :
    Calls Try.prog 26 #[.agg p.cells.toArray] w fun e w' => e = .returned (.int .i64 (Ver.prgF p)) ∧ Gr w w' := by
  obtain ⟨ca, ccap, code, pa, pcap, pool, aa, acap, answers⟩ := p
  have l1 := hp.cat.len
  have l2 := hp.pat.len
  have l3 := hp.aat.len
  unfold maxLen at l1 l2 l3
  simp only [Prg.cells] at l1 l2 l3 ⊢
  by_cases h6 : code.length = 0
  · have E : Hid _ := Ver.prgF_6 (p := ⟨ca, ccap, code, pa, pcap, pool, aa, acap, answers⟩) h6
    have g : ((code.length : Int) == 0) = true := by simpa using h6
    clear h6
    go_enter Try.func26, Try.ntmps26
    go_wp2
    go_ret
    exact ⟨ret_int E.out.symm, (Gr.refl _).alloc _⟩
  have g : ((code.length : Int) == 0) = false := by simpa using h6
  by_cases h1 : 8000 < code.length ∨ 2000 < pool.length ∨ 2000 < answers.length
  · have E : Hid _ := Ver.prgF_1 (p := ⟨ca, ccap, code, pa, pcap, pool, aa, acap, answers⟩) h6 h1
    clear h6
    go_enter Try.func26, Try.ntmps26
    go_wp2
    all_goals first | (exfalso; omega) | (go_ret; exact ⟨ret_int E.out.symm, (Gr.refl _).alloc _⟩)
  have b1 : code.length ≤ 8000 := by omega
  have b2 : pool.length ≤ 2000 := by omega
  have b3 : answers.length ≤ 2000 := by omega
  have H6 : Hid _ := h6
  have H1 : Hid _ := h1
  clear h6 h1
  have d1 : decide (8000 < (code.length : Int)) = false := by simp; omega
  have d2 : decide (2000 < (pool.length : Int)) = false := by simp; omega
  have d3 : decide (2000 < (answers.length : Int)) = false := by simp; omega
  go_enter Try.func26, Try.ntmps26
  go_wp2_with fail
  obtain ⟨w1, hw1⟩ : ∃ w1, w1 = w.alloc (Obj.cells #[Value.slice ca code.length ccap, Value.slice pa pool.length pcap, Value.slice aa answers.length acap] 29) := ⟨_, rfl⟩
  have hg1 : Gr w w1 := by rw [hw1]; exact (Gr.refl _).alloc _
  have c0 : w1.cell? ⟨w.heap.size, 0, none⟩ = some (.slice ca code.length ccap) := by rw [hw1]; exact cell_new w _ _ 0
  have c1 : w1.cell? ⟨w.heap.size, 1, none⟩ = some (.slice pa pool.length pcap) := by rw [hw1]; exact cell_new w _ _ 1
  have c2 : w1.cell? ⟨w.heap.size, 2, none⟩ = some (.slice aa answers.length acap) := by rw [hw1]; exact cell_new w _ _ 2
  have z1 : w.heap.size < w1.heap.size := by rw [hw1]; simp
  rw [← hw1]
  clear hw1
  go_loopw [3] (fun t wr => ∃ k : Nat, k ≤ answers.length ∧ t = .int .i64 k ∧ (∀ i, i < k → ansE answers i = 0) ∧ Gr w1 wr) (fun t _ => answers.length - (intOf t).toNat)
  case atStart => exact ⟨0, Nat.zero_le _, rfl, fun i h => absurd h (Nat.not_lt_zero _), Gr.refl _⟩
  case round =>
    obtain ⟨k, hk, rfl, hall, hgr⟩ := hrel
    have Hall : Hid _ := hall
    clear hall
    by_cases hlt : k < answers.length
    · obtain ⟨x, hx⟩ : ∃ x, answers[k]? = some x := ⟨_, List.getElem?_eq_getElem hlt⟩
      obtain ⟨b, o, rfl, hb, hc⟩ := hp.aat.cell k x hx
      have ho := hp.aok x (List.mem_of_getElem? hx)
      have hc' := hc.gr hb (hg1.trans hgr)
      have ho' := ho.gr (hg1.trans hgr)
      have hb' : b < _ := Nat.lt_of_lt_of_le hb (hg1.trans hgr).size
      have c2' := (hgr.cell _ _ z1).trans c2
      have Hx : Hid _ := hx
      clear hx hc ho c0 c1 c2
      obtain ⟨off, sv, nm, a, cap, zs, jump⟩ := x
      obtain ⟨q0, q1, q2, q3, q4⟩ := hc'
      simp [Ans.cells] at q0 q1 q2 q3 q4
      by_cases he : Tre.ansF off jump zs nm.size = 0
      · have g1 : (Tre.ansF off jump zs nm.size != 0) = false := by simpa using he
        have He : Hid _ := he
        clear he
        go_wp2_with (go_at_call 15; refine (answerFault_any _ _ _ _ _ _ _ _ (ho'.zs.gr (by exact Gr.refl _)) ho'.nm).mono ?_; rintro e w2 ⟨rfl, hg2⟩)
        go_roundw
        case rel =>
          refine ⟨k + 1, by omega, by go_num, fun i hi => ?_, hgr.trans (Gr.ofGrown hg2)⟩
          rcases Nat.lt_succ_iff_lt_or_eq.1 hi with h | rfl
          · exact Hall.out i h
          · rw [ansE_at Hx.out]; exact He.out
        case measure => simp [intOf]; omega
      · have g1 : (Tre.ansF off jump zs nm.size != 0) = true := by simpa using he
        have E : Hid _ := Ver.prgF_a (p := ⟨ca, ccap, code, pa, pcap, pool, some ⟨b, o, none⟩, acap, answers⟩) H6.out H1.out Hx.out Hall.out he
        clear he
        go_wp2_with (go_at_call 15; refine (answerFault_any _ _ _ _ _ _ _ _ (ho'.zs.gr (by exact Gr.refl _)) ho'.nm).mono ?_; rintro e w2 ⟨rfl, hg2⟩)
        go_ret
        exact ⟨ret_int E.out.symm, hg1.trans (hgr.trans (Gr.ofGrown hg2))⟩
    · have hAll : ∀ i, i < answers.length → ansE answers i = 0 := fun i hi => Hall.out i (by omega)
      have HA : Hid _ := hAll
      clear hAll
      have c0' := (hgr.cell _ _ z1).trans c0
      have c1' := (hgr.cell _ _ z1).trans c1
      have c2' := (hgr.cell _ _ z1).trans c2
      have z2 : w.heap.size < wr.heap.size := Nat.lt_of_lt_of_le z1 hgr.size
      have hg2 := hg1.trans hgr
      clear c0 c1 c2 z1 hgr hg1
      go_wp2_with fail
      go_loopw [5] (fun t ws => ∃ k : Nat, k ≤ code.length ∧ t = .int .i64 k ∧ (∀ i, i < k → Ver.insE code pool.length answers.length i = 0) ∧ Gr wr ws) (fun t _ => code.length - (intOf t).toNat)
      case atStart => exact ⟨0, Nat.zero_le _, rfl, fun i h => absurd h (Nat.not_lt_zero _), Gr.refl _⟩
      case round =>
        obtain ⟨j, hj, rfl, hall, hgs⟩ := hrel
        have Hall2 : Hid _ := hall
        clear hall
        have c0'' := (hgs.cell _ _ z2).trans c0'
        by_cases hlt2 : j < code.length
        · obtain ⟨x, hx⟩ : ∃ x, code[j]? = some x := ⟨_, List.getElem?_eq_getElem hlt2⟩
          obtain ⟨b, o, rfl, hb, hc1, hc2⟩ := hp.cat.cell j x hx
          have hgx := hg2.trans hgs
          have q0 := (hgx.cell b _ hb).trans hc1
          have q1 := (hgx.cell b _ hb).trans hc2
          have hb' : b < _ := Nat.lt_of_lt_of_le hb hgx.size
          have hbn : b ≠ wr.heap.size := by omega
          have c1'' := (hgs.cell _ _ z2).trans c1'
          have c2'' := (hgs.cell _ _ z2).trans c2'
          have z3 : w.heap.size < _ := Nat.lt_of_lt_of_le z2 hgs.size
          have z3n : w.heap.size ≠ wr.heap.size := by omega
          have Hx : Hid _ := hx
          obtain ⟨op, n⟩ := x
          clear hx hc1 hc2 c0' c1' c2'
          simp only at q0 q1
          by_cases e1 : op = 1
          · subst e1
            cases hB : (n == 0) with
            | false =>
              have E : Hid _ := Ver.prgF_k (p := ⟨some ⟨b, o, none⟩, ccap, code, pa, pcap, pool, aa, acap, answers⟩) H6.out H1.out HA.out Hx.out Hall2.out (insF_2 (x := ⟨1, n⟩) rfl (by simp [Ver.choices]; simp at hB; omega)) (by decide)
              go_wp2_with (go_at_call 16; refine (in_B _ _ _ _).mono ?_; rintro e w2 ⟨rfl, hw2⟩; subst w2)
              all_goals
                go_ret
                exact ⟨ret_int E.out.symm, hgx.trans ((Gr.refl _).alloc _)⟩
            | true =>
              have I0 : Hid _ := insF_ok (x := ⟨1, n⟩) (i := j) (n := code.length) (pl := pool.length) (al := answers.length) rfl (by simp [Ver.choices]; simp at hB; omega)
              go_wp2_with (go_at_call 16; refine (in_B _ _ _ _).mono ?_; rintro e w2 ⟨rfl, hw2⟩; subst w2)
              all_goals
                go_roundw
                case rel =>
                  refine ⟨j + 1, by omega, by go_num, fun i hi => ?_, hgs.trans ((Gr.refl _).alloc _)⟩
                  rcases Nat.lt_succ_iff_lt_or_eq.1 hi with h | rfl
                  · exact Hall2.out i h
                  · rw [Ver.insE_at Hx.out]; exact I0.out
                case measure => simp [intOf]; omega
          by_cases e2 : op = 2
          · subst e2
            cases hB : Tre.inB n 0 ((pool.length : Int) - 1) with
            | false =>
              have E : Hid _ := Ver.prgF_k (p := ⟨some ⟨b, o, none⟩, ccap, code, pa, pcap, pool, aa, acap, answers⟩) H6.out H1.out HA.out Hx.out Hall2.out (insF_2 (x := ⟨2, n⟩) rfl (by simp [Ver.choices]; simp [Tre.inB] at hB; omega)) (by decide)
              go_wp2_with (go_at_call 16; refine (in_B _ _ _ _).mono ?_; rintro e w2 ⟨rfl, hw2⟩; subst w2)
              all_goals
                go_ret
                exact ⟨ret_int E.out.symm, hgx.trans ((Gr.refl _).alloc _)⟩
            | true =>
              have I0 : Hid _ := insF_ok (x := ⟨2, n⟩) (i := j) (n := code.length) (pl := pool.length) (al := answers.length) rfl (by simp [Ver.choices]; simp [Tre.inB] at hB; omega)
              go_wp2_with (go_at_call 16; refine (in_B _ _ _ _).mono ?_; rintro e w2 ⟨rfl, hw2⟩; subst w2)
              all_goals
                go_roundw
                case rel =>
                  refine ⟨j + 1, by omega, by go_num, fun i hi => ?_, hgs.trans ((Gr.refl _).alloc _)⟩
                  rcases Nat.lt_succ_iff_lt_or_eq.1 hi with h | rfl
                  · exact Hall2.out i h
                  · rw [Ver.insE_at Hx.out]; exact I0.out
                case measure => simp [intOf]; omega
          by_cases e3 : op = 3
          · subst e3
            cases hB : (n == 0) with
            | false =>
              have E : Hid _ := Ver.prgF_k (p := ⟨some ⟨b, o, none⟩, ccap, code, pa, pcap, pool, aa, acap, answers⟩) H6.out H1.out HA.out Hx.out Hall2.out (insF_2 (x := ⟨3, n⟩) rfl (by simp [Ver.choices]; simp at hB; omega)) (by decide)
              go_wp2_with (go_at_call 16; refine (in_B _ _ _ _).mono ?_; rintro e w2 ⟨rfl, hw2⟩; subst w2)
              all_goals
                go_ret
                exact ⟨ret_int E.out.symm, hgx.trans ((Gr.refl _).alloc _)⟩
            | true =>
              have I0 : Hid _ := insF_ok (x := ⟨3, n⟩) (i := j) (n := code.length) (pl := pool.length) (al := answers.length) rfl (by simp [Ver.choices]; simp at hB; omega)
              go_wp2_with (go_at_call 16; refine (in_B _ _ _ _).mono ?_; rintro e w2 ⟨rfl, hw2⟩; subst w2)
              all_goals
                go_roundw
                case rel =>
                  refine ⟨j + 1, by omega, by go_num, fun i hi => ?_, hgs.trans ((Gr.refl _).alloc _)⟩
                  rcases Nat.lt_succ_iff_lt_or_eq.1 hi with h | rfl
                  · exact Hall2.out i h
                  · rw [Ver.insE_at Hx.out]; exact I0.out
                case measure => simp [intOf]; omega
          by_cases e4 : op = 4
          · subst e4
            cases hB : Tre.inB n 0 ((code.length : Int) - j - 2) with
            | false =>
              have E : Hid _ := Ver.prgF_k (p := ⟨some ⟨b, o, none⟩, ccap, code, pa, pcap, pool, aa, acap, answers⟩) H6.out H1.out HA.out Hx.out Hall2.out (insF_2 (x := ⟨4, n⟩) rfl (by simp [Ver.choices]; simp [Tre.inB] at hB; omega)) (by decide)
              go_wp2_with (go_at_call 16; refine (in_B _ _ _ _).mono ?_; rintro e w2 ⟨rfl, hw2⟩; subst w2)
              all_goals
                go_ret
                exact ⟨ret_int E.out.symm, hgx.trans ((Gr.refl _).alloc _)⟩
            | true =>
              have I0 : Hid _ := insF_ok (x := ⟨4, n⟩) (i := j) (n := code.length) (pl := pool.length) (al := answers.length) rfl (by simp [Ver.choices]; simp [Tre.inB] at hB; omega)
              go_wp2_with (go_at_call 16; refine (in_B _ _ _ _).mono ?_; rintro e w2 ⟨rfl, hw2⟩; subst w2)
              all_goals
                go_roundw
                case rel =>
                  refine ⟨j + 1, by omega, by go_num, fun i hi => ?_, hgs.trans ((Gr.refl _).alloc _)⟩
                  rcases Nat.lt_succ_iff_lt_or_eq.1 hi with h | rfl
                  · exact Hall2.out i h
                  · rw [Ver.insE_at Hx.out]; exact I0.out
                case measure => simp [intOf]; omega
          by_cases e5 : op = 5
          · subst e5
            cases hB : Tre.inB n 0 ((code.length : Int) - j - 2) with
            | false =>
              have E : Hid _ := Ver.prgF_k (p := ⟨some ⟨b, o, none⟩, ccap, code, pa, pcap, pool, aa, acap, answers⟩) H6.out H1.out HA.out Hx.out Hall2.out (insF_2 (x := ⟨5, n⟩) rfl (by simp [Ver.choices]; simp [Tre.inB] at hB; omega)) (by decide)
              go_wp2_with (go_at_call 16; refine (in_B _ _ _ _).mono ?_; rintro e w2 ⟨rfl, hw2⟩; subst w2)
              all_goals
                go_ret
                exact ⟨ret_int E.out.symm, hgx.trans ((Gr.refl _).alloc _)⟩
            | true =>
              have I0 : Hid _ := insF_ok (x := ⟨5, n⟩) (i := j) (n := code.length) (pl := pool.length) (al := answers.length) rfl (by simp [Ver.choices]; simp [Tre.inB] at hB; omega)
              go_wp2_with (go_at_call 16; refine (in_B _ _ _ _).mono ?_; rintro e w2 ⟨rfl, hw2⟩; subst w2)
              all_goals
                go_roundw
                case rel =>
                  refine ⟨j + 1, by omega, by go_num, fun i hi => ?_, hgs.trans ((Gr.refl _).alloc _)⟩
                  rcases Nat.lt_succ_iff_lt_or_eq.1 hi with h | rfl
                  · exact Hall2.out i h
                  · rw [Ver.insE_at Hx.out]; exact I0.out
                case measure => simp [intOf]; omega
          by_cases e6 : op = 6
          · subst e6
            cases hB : Tre.inB n 0 ((answers.length : Int) - 1) with
            | false =>
              have E : Hid _ := Ver.prgF_k (p := ⟨some ⟨b, o, none⟩, ccap, code, pa, pcap, pool, aa, acap, answers⟩) H6.out H1.out HA.out Hx.out Hall2.out (insF_2 (x := ⟨6, n⟩) rfl (by simp [Ver.choices]; simp [Tre.inB] at hB; omega)) (by decide)
              go_wp2_with (go_at_call 16; refine (in_B _ _ _ _).mono ?_; rintro e w2 ⟨rfl, hw2⟩; subst w2)
              all_goals
                go_ret
                exact ⟨ret_int E.out.symm, hgx.trans ((Gr.refl _).alloc _)⟩
            | true =>
              have I0 : Hid _ := insF_ok (x := ⟨6, n⟩) (i := j) (n := code.length) (pl := pool.length) (al := answers.length) rfl (by simp [Ver.choices]; simp [Tre.inB] at hB; omega)
              go_wp2_with (go_at_call 16; refine (in_B _ _ _ _).mono ?_; rintro e w2 ⟨rfl, hw2⟩; subst w2)
              all_goals
                go_roundw
                case rel =>
                  refine ⟨j + 1, by omega, by go_num, fun i hi => ?_, hgs.trans ((Gr.refl _).alloc _)⟩
                  rcases Nat.lt_succ_iff_lt_or_eq.1 hi with h | rfl
                  · exact Hall2.out i h
                  · rw [Ver.insE_at Hx.out]; exact I0.out
                case measure => simp [intOf]; omega
          · have ho : Ver.isOp op = false := by unfold Ver.isOp; exact decide_eq_false (by omega)
            have E : Hid _ := Ver.prgF_k (p := ⟨some ⟨b, o, none⟩, ccap, code, pa, pcap, pool, aa, acap, answers⟩) H6.out H1.out HA.out Hx.out Hall2.out (insF_3 ho) (by decide)
            go_wp2_with (go_at_call 16; refine (in_B _ _ _ _).mono ?_; rintro e w2 ⟨rfl, hw2⟩; subst w2)
            all_goals
              go_ret
              exact ⟨ret_int E.out.symm, hgx.trans ((Gr.refl _).alloc _)⟩
        · have E : Hid _ := Ver.prgF_0 (p := ⟨ca, ccap, code, pa, pcap, pool, aa, acap, answers⟩) H6.out H1.out HA.out fun i (hi : i < code.length) => Hall2.out i (by omega)
          have z3 : w.heap.size < _ := Nat.lt_of_lt_of_le z2 hgs.size
          go_wp2
          go_ret
          exact ⟨ret_int E.out.symm, hg2.trans hgs⟩
theorem goes_any (ca pa aa : Option Addr) (cn ccap pn pcap an acap : Nat) (i : Nat) (op n : Int) (b o : Nat) (w : World) (hca : ca = some ⟨b, o, none⟩) (hb : b < w.heap.size) (hc : w.cell? ⟨b, o + i * 2, none⟩ = some (.int .i64 op)) (hc' : w.cell? ⟨b, o + i * 2 + 1, none⟩ = some (.int .i64 n)) (hi : i < cn) (h1 : cn ≤ 8000) (h0 : 0 ≤ n) (h2 : n ≤ 8000) :
    Calls Try.prog 27 #[.agg #[.slice ca cn ccap, .slice pa pn pcap, .slice aa an acap], .int .i64 i] w (NxtPost w (Ver.nxts op n i)) := by
  subst hca
  have hne : b ≠ w.heap.size := by omega
  by_cases e6 : op = 6
  · subst e6
    rw [show Ver.nxts 6 n i = [] from rfl]
    go_enter Try.func27, Try.ntmps27
    go_wp2
    go_ret
    exact nxt0 _ _
  by_cases e4 : op = 4
  · subst e4
    rw [show Ver.nxts 4 n i = [i + 1, i + 1 + n.toNat] from rfl]
    go_enter Try.func27, Try.ntmps27
    go_wp2
    go_ret
    exact nxt2 _ _ _ _ _ _ _ (by omega) (by omega)
  by_cases e5 : op = 5
  · subst e5
    rw [show Ver.nxts 5 n i = [i + 1 + n.toNat] from rfl]
    go_enter Try.func27, Try.ntmps27
    go_wp2
    go_ret
    exact nxt1 _ _ _ _ _ (by omega)
  · rw [show Ver.nxts op n i = [i + 1] by simp [Ver.nxts, e4, e5, e6]]
    go_enter Try.func27, Try.ntmps27
    go_wp2
    go_ret
    exact nxt1 _ _ _ _ _ (by omega)
end Go.Proofs.Ytcpmbjlhblkniaa
