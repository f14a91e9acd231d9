/- Contracts: what is wrong with a node, and with a forest (P4.4), by the program and by the document's answer. -/
import Derived.Test.YtcpmbjlhblkniaaDoorTreA
import Derived.Test.YtcpmbjlhblkniaaDoorBoxes
namespace Go.Proofs.YtcpmbjlhblkniaaDoor
open Go.ChangeShapes Go.WideShapes Go.ChangeAt Go.RowKit
set_option linter.unusedVariables false
theorem isPlace_any (n k : Int) (w : World) :
    Calls Tryd.prog 67 #[.int .i64 n, .int .i64 k] w fun e w' => e = .returned (.bool (Tre.inB n 0 (k - 1))) ∧ w' = w := by
  go_enter Tryd.func67, Tryd.ntmps67
  go_wp2
  all_goals
    go_ret
    exact ⟨ret_bool (by unfold Tre.inB; rw [Bool.eq_iff_iff]; simp <;> omega), rfl⟩
set_option maxHeartbeats 1600000 in
theorem checkNode_any (n : Tre.Nod) (i many : Int) (w : World) :
    Calls Tryd.prog 42 #[.agg (Nod.cells n).toArray, .int .i64 i, .int .i64 many] w fun e w' => e = .returned (.int .i64 (Tre.nodF n i many)) ∧ Grown w w' := by
  obtain ⟨leaf, a, b, l, m⟩ := n
  simp only [Nod.cells]
  cases leaf with
  | true =>
    cases h1 : Tre.inB a 0 (many - 1) with
    | false =>
      have E : Hid _ := Tre.nodF_l2 (b := b) (l := l) (m := m) (i := i) h1
      go_enter Tryd.func42, Tryd.ntmps42
      go_wp2_with (go_at_call 67; refine (isPlace_any _ _ _).mono ?_; rintro e w1 ⟨rfl, rfl⟩)
      go_ret
      exact ⟨ret_int E.out.symm, (Grown.refl _).alloc _ _⟩
    | true =>
      by_cases h2 : b = 0 ∧ l = 0 ∧ m = 0
      · obtain ⟨rfl, rfl, rfl⟩ := h2
        have E : Hid _ := Tre.nodF_l0 (i := i) h1
        go_enter Tryd.func42, Tryd.ntmps42
        go_wp2_with (go_at_call 67; refine (isPlace_any _ _ _).mono ?_; rintro e w1 ⟨rfl, rfl⟩)
        go_ret
        exact ⟨ret_int E.out.symm, (Grown.refl _).alloc _ _⟩
      · have E : Hid _ := Tre.nodF_l4 (i := i) h1 h2
        have h3 : b ≠ 0 ∨ l ≠ 0 ∨ m ≠ 0 := by omega
        clear h2
        rcases h3 with h3 | h3 | h3
        · have g : (b != 0) = true := by simpa using h3
          clear h3
          go_enter Tryd.func42, Tryd.ntmps42
          go_wp2_with (go_at_call 67; refine (isPlace_any _ _ _).mono ?_; rintro e w1 ⟨rfl, rfl⟩)
          go_ret
          exact ⟨ret_int E.out.symm, (Grown.refl _).alloc _ _⟩
        · have g : (l != 0) = true := by simpa using h3
          clear h3
          go_enter Tryd.func42, Tryd.ntmps42
          go_wp2_with (go_at_call 67; refine (isPlace_any _ _ _).mono ?_; rintro e w1 ⟨rfl, rfl⟩)
          all_goals
            go_ret
            exact ⟨ret_int E.out.symm, (Grown.refl _).alloc _ _⟩
        · have g : (m != 0) = true := by simpa using h3
          clear h3
          go_enter Tryd.func42, Tryd.ntmps42
          go_wp2_with (go_at_call 67; refine (isPlace_any _ _ _).mono ?_; rintro e w1 ⟨rfl, rfl⟩)
          all_goals
            go_ret
            exact ⟨ret_int E.out.symm, (Grown.refl _).alloc _ _⟩
  | false =>
    by_cases h0 : a = 0
    · subst h0
      cases h1 : Tre.inB l 0 (i - 1) with
      | false =>
        have E : Hid _ := Tre.nodF_n8 (b := b) (m := m) (many := many) h1
        go_enter Tryd.func42, Tryd.ntmps42
        go_wp2_with (go_at_call 67; refine (isPlace_any _ _ _).mono ?_; rintro e w1 ⟨rfl, rfl⟩)
        all_goals
          go_ret
          exact ⟨ret_int E.out.symm, (Grown.refl _).alloc _ _⟩
      | true =>
        cases h2 : Tre.inB m 0 (i - 1) with
        | false =>
          have E : Hid _ := Tre.nodF_n8' (b := b) (l := l) (many := many) h2
          go_enter Tryd.func42, Tryd.ntmps42
          go_wp2_with (go_at_call 67; refine (isPlace_any _ _ _).mono ?_; rintro e w1 ⟨rfl, rfl⟩)
          all_goals
            go_ret
            exact ⟨ret_int E.out.symm, (Grown.refl _).alloc _ _⟩
        | true =>
          have E : Hid _ := Tre.nodF_n0 (b := b) (many := many) h1 h2
          go_enter Tryd.func42, Tryd.ntmps42
          go_wp2_with (go_at_call 67; refine (isPlace_any _ _ _).mono ?_; rintro e w1 ⟨rfl, rfl⟩)
          all_goals
            go_ret
            exact ⟨ret_int E.out.symm, (Grown.refl _).alloc _ _⟩
    · have E : Hid _ := Tre.nodF_n4 (b := b) (l := l) (m := m) (i := i) (many := many) h0
      have g : (a != 0) = true := by simpa using h0
      clear h0
      go_enter Tryd.func42, Tryd.ntmps42
      go_wp2_with (go_at_call 67; refine (isPlace_any _ _ _).mono ?_; rintro e w1 ⟨rfl, rfl⟩)
      all_goals
        go_ret
        exact ⟨ret_int E.out.symm, (Grown.refl _).alloc _ _⟩
theorem getE {α : Type} {l : List α} {k : Nat} (h : k < l.length) : l[k]? = some l[k] := List.getElem?_eq_getElem h
set_option maxHeartbeats 1600000 in
theorem check_any (f : Fst) (w : World) (hf : FstOk w f) :
    Calls Tryd.prog 19 #[.agg f.cells.toArray] w fun e w' => e = .returned (.int .i64 (forF f)) ∧ Grown w w' := by
  obtain ⟨na, ncap, nodes, aa, acap, answers⟩ := f
  have l1 := hf.nat.len
  have l2 := hf.aat.len
  unfold maxLen at l1 l2
  simp only [Fst.cells] at l1 l2 ⊢
  by_cases h6 : nodes.length = 0
  · have E : Hid _ := forF_6 (f := ⟨na, ncap, nodes, aa, acap, answers⟩) h6
    have g : ((nodes.length : Int) == 0) = true := by simpa using h6
    clear h6
    go_enter Tryd.func19, Tryd.ntmps19
    go_wp2
    go_ret
    exact ⟨ret_int E.out.symm, (Grown.refl _).alloc _ _⟩
  have g : ((nodes.length : Int) == 0) = false := by simpa using h6
  by_cases h1 : 8000 < nodes.length ∨ 2000 < answers.length
  · have E : Hid _ := forF_1 (f := ⟨na, ncap, nodes, aa, acap, answers⟩) h6 h1
    clear h6
    go_enter Tryd.func19, Tryd.ntmps19
    go_wp2
    all_goals first | (exfalso; omega) | (go_ret; exact ⟨ret_int E.out.symm, (Grown.refl _).alloc _ _⟩)
  have b1 : nodes.length ≤ 8000 := by omega
  have b2 : answers.length ≤ 2000 := by omega
  have H6 : Hid _ := h6
  have H1 : Hid _ := h1
  clear h6 h1
  have d1 : decide (8000 < (nodes.length : Int)) = false := by simp; omega
  have d2 : decide (2000 < (answers.length : Int)) = false := by simp; omega
  go_enter Tryd.func19, Tryd.ntmps19
  go_wp2_with fail
  obtain ⟨w1, hw1⟩ : ∃ w1, w1 = w.alloc (Obj.cells #[Value.slice na nodes.length ncap, Value.slice aa answers.length acap] 42) := ⟨_, rfl⟩
  have hg1 : Grown w w1 := by rw [hw1]; exact (Grown.refl _).alloc _ _
  have c0 : w1.cell? ⟨w.heap.size, 0, none⟩ = some (.slice na nodes.length ncap) := by rw [hw1]; exact cell_new w _ _ 0
  have c1 : w1.cell? ⟨w.heap.size, 1, none⟩ = some (.slice aa answers.length acap) := by rw [hw1]; exact cell_new w _ _ 1
  have z1 : w.heap.size < w1.heap.size := by rw [hw1]; simp
  rw [← hw1]
  clear hw1
  go_loopw [26] (fun t wr => ∃ k : Nat, k ≤ answers.length ∧ t = .int .i64 k ∧ (∀ i, i < k → ansE answers i = 0) ∧ Grown w1 wr) (fun t _ => answers.length - (intOf t).toNat)
  case atStart => exact ⟨0, Nat.zero_le _, rfl, fun i h => absurd h (Nat.not_lt_zero _), Grown.refl _⟩
  case round =>
    obtain ⟨k, hk, rfl, hall, hgr⟩ := hrel
    have Hall : Hid _ := hall
    clear hall
    by_cases hlt : k < answers.length
    · obtain ⟨x, hx⟩ : ∃ x, answers[k]? = some x := ⟨_, getE hlt⟩
      obtain ⟨b, o, rfl, hb, hc⟩ := hf.aat.cell k x hx
      have ho := hf.aok x (List.mem_of_getElem? hx)
      have hc' := hc.grown hb (Grown_trans hg1 hgr)
      have ho' := ho.grown (Grown_trans hg1 hgr)
      have hb' : b < _ := Nat.lt_of_lt_of_le hb (Grown_trans hg1 hgr).2.2
      have Hx : Hid _ := hx
      clear hx hc ho
      obtain ⟨off, sv, nm, a, cap, zs, jump⟩ := x
      obtain ⟨q0, q1, q2, q3, q4⟩ := hc'
      simp [Ans.cells] at q0 q1 q2 q3 q4
      by_cases he : Tre.ansF off jump zs nm.size = 0
      · have g1 : (Tre.ansF off jump zs nm.size != 0) = false := by simpa using he
        have He : Hid _ := he
        clear he
        go_wp2_with (go_at_call 41; refine (checkAnswer_any _ _ _ _ _ _ _ _ (ho'.zs.grown (by exact (Grown.refl _).alloc _ _)) ho'.nm).mono ?_; rintro e w2 ⟨rfl, hg2⟩)
        go_roundw
        case rel =>
          refine ⟨k + 1, by omega, by go_num, fun i hi => ?_, Grown_trans hgr (Grown_trans ((Grown.refl _).alloc _ _) hg2)⟩
          rcases Nat.lt_succ_iff_lt_or_eq.1 hi with h | rfl
          · exact Hall.out i h
          · rw [ansE_at Hx.out]; exact He.out
        case measure => simp [intOf]; omega
      · have g1 : (Tre.ansF off jump zs nm.size != 0) = true := by simpa using he
        have E : Hid _ := forF_a (f := ⟨na, ncap, nodes, some ⟨b, o, none⟩, acap, answers⟩) H6.out H1.out Hx.out Hall.out he
        clear he
        go_wp2_with (go_at_call 41; refine (checkAnswer_any _ _ _ _ _ _ _ _ (ho'.zs.grown (by exact (Grown.refl _).alloc _ _)) ho'.nm).mono ?_; rintro e w2 ⟨rfl, hg2⟩)
        go_ret
        exact ⟨ret_int E.out.symm, Grown_trans hg1 (Grown_trans hgr (Grown_trans ((Grown.refl _).alloc _ _) hg2))⟩
    · have hAll : ∀ i, i < answers.length → ansE answers i = 0 := fun i hi => Hall.out i (by omega)
      have HA : Hid _ := hAll
      clear hAll
      have c0' := (Grown_cell hgr _ _ z1).trans c0
      have c1' := (Grown_cell hgr _ _ z1).trans c1
      have z2 : w.heap.size < wr.heap.size := Nat.lt_of_lt_of_le z1 hgr.2.2
      have hg2 := Grown_trans hg1 hgr
      clear c0 c1 z1 hgr hg1
      go_wp2_with fail
      go_loopw [39] (fun t ws => ∃ k : Nat, k ≤ nodes.length ∧ t = .int .i64 k ∧ (∀ i, i < k → nodE nodes answers.length i = 0) ∧ Grown wr ws) (fun t _ => nodes.length - (intOf t).toNat)
      case atStart => exact ⟨0, Nat.zero_le _, rfl, fun i h => absurd h (Nat.not_lt_zero _), Grown.refl _⟩
      case round =>
        obtain ⟨j, hj, rfl, hall, hgs⟩ := hrel
        have Hall2 : Hid _ := hall
        clear hall
        by_cases hlt2 : j < nodes.length
        · obtain ⟨x, hx⟩ : ∃ x, nodes[j]? = some x := ⟨_, getE hlt2⟩
          obtain ⟨b, o, rfl, hb, hc⟩ := hf.nat.cell j x hx
          have hc' := hc.grown hb (Grown_trans hg2 hgs)
          have hb' : b < _ := Nat.lt_of_lt_of_le hb (Grown_trans hg2 hgs).2.2
          have c1'' := (Grown_cell hgs _ _ z2).trans c1'
          have z3 : w.heap.size < _ := Nat.lt_of_lt_of_le z2 hgs.2.2
          have Hx : Hid _ := hx
          clear hx hc c0' c1'
          obtain ⟨q0, q1, q2, q3, q4⟩ := hc'
          simp [Nod.cells] at q0 q1 q2 q3 q4
          by_cases he : Tre.nodF x j answers.length = 0
          · have g1 : (Tre.nodF x j answers.length != 0) = false := by simpa using he
            have He : Hid _ := he
            clear he
            go_wp2_with (go_at_call 42; refine (checkNode_any _ _ _ _).mono ?_; rintro e w2 ⟨rfl, hg3⟩)
            go_roundw
            case rel =>
              refine ⟨j + 1, by omega, by go_num, fun i hi => ?_, Grown_trans hgs (Grown_trans ((Grown.refl _).alloc _ _) hg3)⟩
              rcases Nat.lt_succ_iff_lt_or_eq.1 hi with h | rfl
              · exact Hall2.out i h
              · rw [nodE_at Hx.out]; exact He.out
            case measure => simp [intOf]; omega
          · have g1 : (Tre.nodF x j answers.length != 0) = true := by simpa using he
            have E : Hid _ := forF_k (f := ⟨some ⟨b, o, none⟩, ncap, nodes, aa, acap, answers⟩) H6.out H1.out HA.out Hx.out Hall2.out he
            clear he
            go_wp2_with (go_at_call 42; refine (checkNode_any _ _ _ _).mono ?_; rintro e w2 ⟨rfl, hg3⟩)
            go_ret
            exact ⟨ret_int E.out.symm, Grown_trans hg2 (Grown_trans hgs (Grown_trans ((Grown.refl _).alloc _ _) hg3))⟩
        · have E : Hid _ := forF_0 (f := ⟨na, ncap, nodes, aa, acap, answers⟩) H6.out H1.out HA.out fun i (hi : i < nodes.length) => Hall2.out i (by omega)
          go_wp2
          go_ret
          exact ⟨ret_int E.out.symm, Grown_trans hg2 hgs⟩
end Go.Proofs.YtcpmbjlhblkniaaDoor
