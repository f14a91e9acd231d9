/- Contracts: are two rows of ints, are two answers the same? -/
import Derived.Test.YtcpmbjlhblkniaaGr
import Derived.Test.YtcpmbjlhblkniaaRows
import Derived.WalkKit
import Derived.ProofKit
import Derived.OpenShut
import Derived.Deep.QuietTactic
import Derived.BigQuiet
namespace Go.Proofs.Ytcpmbjlhblkniaa
open Go.ChangeShapes Go.WideShapes Go.ChangeAt Go.RowKit
set_option linter.unusedVariables false
theorem ne_at {zs ys : List Int} {k : Nat} {z y : Int} (h : zs[k]? = some z) (h' : ys[k]? = some y) (hn : z ≠ y) : zs ≠ ys := by
  rintro rfl; rw [h] at h'; cases h'; exact hn rfl
theorem eq_all {zs ys : List Int} (hl : zs.length = ys.length) (h : ∀ (i : Nat) z y, i < zs.length → zs[i]? = some z → ys[i]? = some y → z = y) : zs = ys := by
  apply List.ext_getElem hl
  intro i h1 h2
  exact h i _ _ h1 (List.getElem?_eq_getElem h1) (List.getElem?_eq_getElem h2)
set_option maxHeartbeats 1600000 in
theorem sameInts_any (a b : Option Addr) (ca cb : Nat) (zs ys : List Int) (w : World) (hz : IntsAt w a zs) (hy : IntsAt w b ys) :
    Calls Try.prog 20 #[.slice a zs.length ca, .slice b ys.length cb] w fun e w' => e = .returned (.bool (decide (zs = ys))) ∧ ∃ n, w' = w.drewN n := by
  have l1 := hz.len
  have l2 := hy.len
  unfold maxLen at l1 l2
  by_cases hl : zs.length = ys.length
  · have HL : Hid _ := hl
    have hl' : (ys.length : Int) = zs.length := by omega
    have hl2 : ys.length = zs.length := by omega
    rw [hl2]
    clear hl hl' hl2
    have g : ((zs.length : Int) != (zs.length : Int)) = false := by simp
    go_enter Try.func20, Try.ntmps20
    go_wp2
    go_loopw [5] (fun t wr => ∃ k : Nat, k ≤ zs.length ∧ t = .int .i64 k ∧ (∀ (i : Nat) z y, i < k → zs[i]? = some z → ys[i]? = some y → z = y) ∧ ∃ n, wr = w.drewN n) (fun t _ => zs.length - (intOf t).toNat)
    case atStart => exact ⟨0, Nat.zero_le _, rfl, fun i z y h => absurd h (Nat.not_lt_zero _), 0, rfl⟩
    case round =>
      obtain ⟨k, hk, rfl, hall, n0, rfl⟩ := hrel
      have Hall : Hid _ := hall
      clear hall
      by_cases hlt : k < zs.length
      · obtain ⟨z, hz1⟩ : ∃ z, zs[k]? = some z := ⟨_, List.getElem?_eq_getElem hlt⟩
        obtain ⟨y, hy1⟩ : ∃ y, ys[k]? = some y := ⟨_, List.getElem?_eq_getElem (by have := HL.out; omega)⟩
        obtain ⟨b1, o1, rfl, hb1, c1⟩ := hz.cell k z hz1
        obtain ⟨b2, o2, rfl, hb2, c2⟩ := hy.cell k y hy1
        have Hz : Hid _ := hz1
        have Hy : Hid _ := hy1
        clear hz1 hy1
        by_cases he : z = y
        · have ge : (z != y) = false := by simpa using he
          have HE : Hid _ := he
          clear he
          go_wp2
          go_quiet (fail)
          go_wp2
          go_roundw
          case rel =>
            refine ⟨k + 1, by omega, by go_num, fun i z' y' hi h1 h2 => ?_, _, rfl⟩
            rcases Nat.lt_succ_iff_lt_or_eq.1 hi with h | rfl
            · exact Hall.out i z' y' h h1 h2
            · rw [Hz.out] at h1; rw [Hy.out] at h2; cases h1; cases h2; exact HE.out
          case measure => simp [intOf]; omega
        · have ge : (z != y) = true := by simpa using he
          have E : Hid _ := decide_eq_false (ne_at Hz.out Hy.out he)
          clear he
          go_wp2
          go_quiet (fail)
          go_wp2
          go_ret
          exact ⟨ret_bool E.out.symm, _, World.drewN_drewN ..⟩
      · have E : Hid _ := decide_eq_true (eq_all HL.out fun i z y hi h1 h2 => Hall.out i z y (by omega) h1 h2)
        go_wp2
        go_ret
        exact ⟨ret_bool E.out.symm, _, rfl⟩
  · have g : ((zs.length : Int) != (ys.length : Int)) = true := by simp; omega
    have E : Hid _ := decide_eq_false (fun h : zs = ys => hl (by rw [h]))
    clear hl
    go_enter Try.func20, Try.ntmps20
    go_wp2
    go_ret
    exact ⟨ret_bool E.out.symm, 0, rfl⟩
theorem toList_inj {a b : ByteArray} (h : a.toList = b.toList) : a = b := by
  rw [ByteArray.toList_eq, ByteArray.toList_eq] at h
  exact Go.WideShapes.bytes_inj h
def Ans.same (x y : Ans) : Bool := decide ((x.off = y.off ∧ x.sv = y.sv ∧ x.nm = y.nm) ∧ x.jump = y.jump ∧ x.zs = y.zs)
set_option maxHeartbeats 1600000 in
theorem sameAnswer_any (x y : Ans) (w : World) (hx : AnsOk w x) (hy : AnsOk w y) :
    Calls Try.prog 10 #[.agg x.cells.toArray, .agg y.cells.toArray] w fun e w' => e = .returned (.bool (Ans.same x y)) ∧ Gr w w' := by
  obtain ⟨off, sv, nm, a, cap, zs, jump⟩ := x
  obtain ⟨off', sv', nm', a', cap', zs', jump'⟩ := y
  simp only [Ans.cells]
  by_cases h1 : ¬ off = off'
  · have E : Hid _ := show Ans.same ⟨off, sv, nm, a, cap, zs, jump⟩ ⟨off', sv', nm', a', cap', zs', jump'⟩ = false from decide_eq_false (fun h => h1 h.1.1)
    go_enter Try.func10, Try.ntmps10
    go_wp2_with fail
    go_ret
    exact ⟨ret_bool E.out.symm, ((Gr.refl _).alloc _).alloc _⟩
  have h1 := Decidable.not_not.1 h1
  subst h1
  by_cases h2 : ¬ sv = sv'
  · have E : Hid _ := show Ans.same ⟨off, sv, nm, a, cap, zs, jump⟩ ⟨off, sv', nm', a', cap', zs', jump'⟩ = false from decide_eq_false (fun h => h2 h.1.2.1)
    go_enter Try.func10, Try.ntmps10
    go_wp2_with fail
    go_ret
    exact ⟨ret_bool E.out.symm, ((Gr.refl _).alloc _).alloc _⟩
  have h2 := Decidable.not_not.1 h2
  subst h2
  by_cases h3 : ¬ nm = nm'
  · have E : Hid _ := show Ans.same ⟨off, sv, nm, a, cap, zs, jump⟩ ⟨off, sv, nm', a', cap', zs', jump'⟩ = false from decide_eq_false (fun h => h3 h.1.2.2)
    have h4 : ¬ nm.toList = nm'.toList := fun h => h3 (toList_inj h)
    clear h3
    go_enter Try.func10, Try.ntmps10
    go_wp2_with fail
    go_ret
    exact ⟨ret_bool E.out.symm, ((Gr.refl _).alloc _).alloc _⟩
  have h3 := Decidable.not_not.1 h3
  subst h3
  by_cases h4 : ¬ jump = jump'
  · have E : Hid _ := show Ans.same ⟨off, sv, nm, a, cap, zs, jump⟩ ⟨off, sv, nm, a', cap', zs', jump'⟩ = false from decide_eq_false (fun h => h4 h.2.1)
    go_enter Try.func10, Try.ntmps10
    go_wp2_with fail
    go_ret
    exact ⟨ret_bool E.out.symm, ((Gr.refl _).alloc _).alloc _⟩
  have h4 := Decidable.not_not.1 h4
  subst h4
  have E : Hid _ := show Ans.same ⟨off, sv, nm, a, cap, zs, jump⟩ ⟨off, sv, nm, a', cap', zs', jump⟩ = decide (zs = zs') from by simp [Ans.same]
  have gz := hx.zs
  have gy := hy.zs
  simp only at gz gy
  clear hx hy
  go_enter Try.func10, Try.ntmps10
  go_wp2_with (go_at_call 20; refine (sameInts_any _ _ _ _ _ _ _ (gz.gr (by exact ((Gr.refl _).alloc _).alloc _)) (gy.gr (by exact ((Gr.refl _).alloc _).alloc _))).mono ?_; rintro e w1 ⟨rfl, n1, rfl⟩)
  all_goals
    go_ret
    exact ⟨ret_bool (E.out.trans (by first | rfl | simp [*])).symm, (((Gr.refl _).alloc _).alloc _).drewN _⟩
end Go.Proofs.Ytcpmbjlhblkniaa
