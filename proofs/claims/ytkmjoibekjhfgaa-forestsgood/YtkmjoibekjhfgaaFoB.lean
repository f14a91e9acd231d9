/- Contracts: is an answer one of a row of answers? -/
import Derived.Test.YtkmjoibekjhfgaaTreS
import Derived.Test.YtkmjoibekjhfgaaTreE
namespace Go.Proofs.Ytkmjoibekjhfgaa
open Go.ChangeShapes Go.WideShapes Go.ChangeAt Go.RowKit
set_option linter.unusedVariables false
set_option maxHeartbeats 1600000 in
theorem equalInts_any (a b : Option Addr) (ca cb : Nat) (zs ys : List Int) (w : World) (hz : IntsAt w a zs) (hy : IntsAt w b ys) :
    Calls Try.prog 15 #[.slice a zs.length ca, .slice b ys.length cb] w fun e w' => e = .returned (.bool (decide (zs = ys))) ∧ ∃ n, w' = w.drewN n := by
  have l1 := hz.len
  have l2 := hy.len
  unfold maxLen at l1 l2
  by_cases hl : zs.length = ys.length
  · have HL : Hid _ := hl
    have hl' : (ys.length : Int) = zs.length := by omega
    have hl2 : ys.length = zs.length := by omega
    rw [hl2]
    clear hl hl' hl2
    have g : ((zs.length : Int) != (zs.length : Int)) = false := by simp
    go_enter Try.func15, Try.ntmps15
    go_wp2
    go_loopw [13] (fun t wr => ∃ k : Nat, k ≤ zs.length ∧ t = .int .i64 k ∧ (∀ (i : Nat) z y, i < k → zs[i]? = some z → ys[i]? = some y → z = y) ∧ ∃ n, wr = w.drewN n) (fun t _ => zs.length - (intOf t).toNat)
    case atStart => exact ⟨0, Nat.zero_le _, rfl, fun i z y h => absurd h (Nat.not_lt_zero _), 0, rfl⟩
    case round =>
      obtain ⟨k, hk, rfl, hall, n0, rfl⟩ := hrel
      have Hall : Hid _ := hall
      clear hall
      by_cases hlt : k < zs.length
      · obtain ⟨z, hz1⟩ : ∃ z, zs[k]? = some z := ⟨_, List.getElem?_eq_getElem hlt⟩
        obtain ⟨y, hy1⟩ : ∃ y, ys[k]? = some y := ⟨_, List.getElem?_eq_getElem (by have := HL.out; omega)⟩
        obtain ⟨b1, o1, rfl, hb1, c1⟩ := hz.cell k z hz1
        obtain ⟨b2, o2, rfl, hb2, c2⟩ := hy.cell k y hy1
        have Hz : Hid _ := hz1
        have Hy : Hid _ := hy1
        clear hz1 hy1
        by_cases he : z = y
        · have ge : (z != y) = false := by simpa using he
          have HE : Hid _ := he
          clear he
          go_wp2
          go_quiet (fail)
          go_wp2
          go_roundw
          case rel =>
            refine ⟨k + 1, by omega, by go_num, fun i z' y' hi h1 h2 => ?_, _, rfl⟩
            rcases Nat.lt_succ_iff_lt_or_eq.1 hi with h | rfl
            · exact Hall.out i z' y' h h1 h2
            · rw [Hz.out] at h1; rw [Hy.out] at h2; cases h1; cases h2; exact HE.out
          case measure => simp [intOf]; omega
        · have ge : (z != y) = true := by simpa using he
          have E : Hid _ := decide_eq_false (ne_at Hz.out Hy.out he)
          clear he
          go_wp2
          go_quiet (fail)
          go_wp2
          go_ret
          exact ⟨ret_bool E.out.symm, _, World.drewN_drewN ..⟩
      · have E : Hid _ := decide_eq_true (eq_all HL.out fun i z y hi h1 h2 => Hall.out i z y (by omega) h1 h2)
        go_wp2
        go_ret
        exact ⟨ret_bool E.out.symm, _, rfl⟩
  · have g : ((zs.length : Int) != (ys.length : Int)) = true := by simp; omega
    have E : Hid _ := decide_eq_false (fun h : zs = ys => hl (by rw [h]))
    clear hl
    go_enter Try.func15, Try.ntmps15
    go_wp2
    go_ret
    exact ⟨ret_bool E.out.symm, 0, rfl⟩
set_option maxHeartbeats 1600000 in
theorem same_any (x y : Ans) (w : World) (hx : AnsOk w x) (hy : AnsOk w y) :
    Calls Try.prog 10 #[.agg x.cells.toArray, .agg y.cells.toArray] w fun e w' => e = .returned (.bool (Ans.same x y)) ∧ Gr w w' := by
  obtain ⟨off, sv, nm, a, cap, zs, jump⟩ := x
  obtain ⟨off', sv', nm', a', cap', zs', jump'⟩ := y
  simp only [Ans.cells]
  by_cases h1 : ¬ off = off'
  · have E : Hid _ := show Ans.same ⟨off, sv, nm, a, cap, zs, jump⟩ ⟨off', sv', nm', a', cap', zs', jump'⟩ = false from decide_eq_false (fun h => h1 h.1.1)
    go_enter Try.func10, Try.ntmps10
    go_wp2_with fail
    go_ret
    exact ⟨ret_bool E.out.symm, ((Gr.refl _).alloc _).alloc _⟩
  have h1 := Decidable.not_not.1 h1
  subst h1
  by_cases h2 : ¬ sv = sv'
  · have E : Hid _ := show Ans.same ⟨off, sv, nm, a, cap, zs, jump⟩ ⟨off, sv', nm', a', cap', zs', jump'⟩ = false from decide_eq_false (fun h => h2 h.1.2.1)
    go_enter Try.func10, Try.ntmps10
    go_wp2_with fail
    go_ret
    exact ⟨ret_bool E.out.symm, ((Gr.refl _).alloc _).alloc _⟩
  have h2 := Decidable.not_not.1 h2
  subst h2
  by_cases h3 : ¬ nm = nm'
  · have E : Hid _ := show Ans.same ⟨off, sv, nm, a, cap, zs, jump⟩ ⟨off, sv, nm', a', cap', zs', jump'⟩ = false from decide_eq_false (fun h => h3 h.1.2.2)
    have h4 : ¬ nm.toList = nm'.toList := fun h => h3 (toList_inj h)
    clear h3
    go_enter Try.func10, Try.ntmps10
    go_wp2_with fail
    go_ret
    exact ⟨ret_bool E.out.symm, ((Gr.refl _).alloc _).alloc _⟩
  have h3 := Decidable.not_not.1 h3
  subst h3
  by_cases h4 : ¬ jump = jump'
  · have E : Hid _ := show Ans.same ⟨off, sv, nm, a, cap, zs, jump⟩ ⟨off, sv, nm, a', cap', zs', jump'⟩ = false from decide_eq_false (fun h => h4 h.2.1)
    go_enter Try.func10, Try.ntmps10
    go_wp2_with fail
    go_ret
    exact ⟨ret_bool E.out.symm, ((Gr.refl _).alloc _).alloc _⟩
  have h4 := Decidable.not_not.1 h4
  subst h4
  have E : Hid _ := show Ans.same ⟨off, sv, nm, a, cap, zs, jump⟩ ⟨off, sv, nm, a', cap', zs', jump⟩ = decide (zs = zs') from by simp [Ans.same]
  have gz := hx.zs
  have gy := hy.zs
  simp only at gz gy
  clear hx hy
  go_enter Try.func10, Try.ntmps10
  go_wp2_with (go_at_call 15; refine (equalInts_any _ _ _ _ _ _ _ (gz.gr (by exact ((Gr.refl _).alloc _).alloc _)) (gy.gr (by exact ((Gr.refl _).alloc _).alloc _))).mono ?_; rintro e w1 ⟨rfl, n1, rfl⟩)
  all_goals
    go_ret
    exact ⟨ret_bool (E.out.trans (by first | rfl | simp [*])).symm, (((Gr.refl _).alloc _).alloc _).drewN _⟩
set_option maxHeartbeats 1600000 in
theorem clo_any (y x : Ans) (ab : Nat) (w : World) (hx : AnsOk w x) (hy : AnsOk w y) (hb : w.heap[ab]? = some (.cells y.cells.toArray 33)) :
    Calls Try.prog 9 #[.agg x.cells.toArray, .pointer (some ⟨ab, 0, none⟩)] w fun e w' => e = .returned (.bool (Ans.same y x)) ∧ Gr w w' := by
  have hlt := (Array.getElem?_eq_some_iff.1 hb).1
  have HS : Hid _ := fun W (h1 : AnsOk W y) (h2 : AnsOk W x) => same_any y x W h1 h2
  obtain ⟨off, sv, nm, a, cap, zs, jump⟩ := x
  obtain ⟨off', sv', nm', a', cap', zs', jump'⟩ := y
  obtain ⟨c1, _⟩ := row_all hb
  clear hb
  simp only [Ans.cells] at c1 HS ⊢
  go_enter Try.func9, Try.ntmps9
  go_wp2_with (go_at_call 10; refine (HS.out _ (hy.gr (by exact (Gr.refl _).alloc _)) (hx.gr (by exact (Gr.refl _).alloc _))).mono ?_; rintro e w1 ⟨rfl, hg1⟩)
  go_ret
  exact ⟨rfl, ((Gr.refl _).alloc _).trans hg1⟩
set_option maxHeartbeats 1600000 in
theorem indexFunc_any (y : Ans) (ab : Nat) (a : Option Addr) (cap : Nat) (xs : List Ans) (w : World) (hxs : FivesAt w a xs Ans.cells) (hok : ∀ x ∈ xs, AnsOk w x) (hy : AnsOk w y) (hb : w.heap[ab]? = some (.cells y.cells.toArray 33)) (hex : ∃ x ∈ xs, Ans.same y x = true) :
    Calls Try.prog 14 #[.slice a xs.length cap, .func (.func 9) #[] #[.pointer (some ⟨ab, 0, none⟩)]] w fun e w' => ∃ i : Int, e = .returned (.int .i64 i) ∧ 0 ≤ i ∧ Gr w w' := by
  have l1 := hxs.len
  unfold maxLen at l1
  obtain ⟨x0, hx0, hs0⟩ := hex
  obtain ⟨q, hq⟩ := List.getElem?_of_mem hx0
  have hql := (List.getElem?_eq_some_iff.1 hq).1
  have HQ : Hid _ := And.intro hq hs0
  clear hq hs0 hx0
  go_enter Try.func14, Try.ntmps14
  go_wp2_with fail
  go_loopw [8] (fun t wr => ∃ k : Nat, k ≤ q ∧ t = .int .i64 k ∧ Gr w wr) (fun t _ => xs.length - (intOf t).toNat)
  case atStart => exact ⟨0, Nat.zero_le _, rfl, Gr.refl _⟩
  case round =>
    obtain ⟨k, hk, rfl, hgr⟩ := hrel
    have hlt : k < xs.length := by omega
    obtain ⟨x, hx⟩ : ∃ x, xs[k]? = some x := ⟨_, List.getElem?_eq_getElem hlt⟩
    obtain ⟨b, o, rfl, hb2, hc⟩ := hxs.cell k x hx
    have ho := (hok x (List.mem_of_getElem? hx)).gr hgr
    obtain ⟨q0, q1, q2, q3, q4⟩ := hc.gr hb2 hgr
    have Hx : Hid _ := hx
    clear hx hc
    obtain ⟨off, sv, nm, a', cap', zs, jump⟩ := x
    simp [Ans.cells] at q0 q1 q2 q3 q4
    have hcl : Hid _ := fun (_ : Unit) => clo_any y ⟨off, sv, nm, a', cap', zs, jump⟩ ab _ ho (hy.gr hgr) ((hgr.block ab (Array.getElem?_eq_some_iff.1 hb).1).trans hb)
    cases hs : Ans.same y ⟨off, sv, nm, a', cap', zs, jump⟩ with
    | true =>
      go_wp2_with (go_at_call 9; refine (hcl.out ()).mono ?_; rintro e w1 ⟨rfl, hg1⟩)
      go_ret
      exact ⟨k, rfl, by omega, hgr.trans hg1⟩
    | false =>
      have hkq : k < q := by
        rcases Nat.lt_or_ge k q with h | h
        · exact h
        · have : k = q := by omega
          subst this
          have h1 := HQ.out.1
          rw [Hx.out] at h1
          cases h1
          rw [hs] at HQ
          have := HQ.out.2
          cases this
      go_wp2_with (go_at_call 9; refine (hcl.out ()).mono ?_; rintro e w1 ⟨rfl, hg1⟩)
      go_roundw
      case rel => exact ⟨k + 1, by omega, by go_num, hgr.trans hg1⟩
      case measure => simp [intOf]; omega
set_option maxHeartbeats 1600000 in
theorem containsFunc_any (y : Ans) (ab : Nat) (a : Option Addr) (cap : Nat) (xs : List Ans) (w : World) (hxs : FivesAt w a xs Ans.cells) (hok : ∀ x ∈ xs, AnsOk w x) (hy : AnsOk w y) (hb : w.heap[ab]? = some (.cells y.cells.toArray 33)) (hex : ∃ x ∈ xs, Ans.same y x = true) :
    Calls Try.prog 8 #[.slice a xs.length cap, .func (.func 9) #[] #[.pointer (some ⟨ab, 0, none⟩)]] w fun e w' => e = .returned (.bool true) ∧ Gr w w' := by
  have hI : Hid _ := fun (_ : Unit) => indexFunc_any y ab a cap xs w hxs hok hy hb hex
  clear hxs hok hy hb hex
  go_enter Try.func8, Try.ntmps8
  go_wp2_with (go_at_call 14; refine (hI.out ()).mono ?_; rintro e w1 ⟨i, rfl, hi, hg1⟩)
  go_ret
  exact ⟨ret_bool (by simp), hg1⟩
end Go.Proofs.Ytkmjoibekjhfgaa
