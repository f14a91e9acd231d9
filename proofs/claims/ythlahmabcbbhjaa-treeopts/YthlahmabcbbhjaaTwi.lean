/- Contract: are two answers of a list the same. -/
import Derived.Test.YthlahmabcbbhjaaTreS
import Derived.Test.YthlahmabcbbhjaaAnsV
import Derived.Deep.RegionHeld3
import Derived.Deep.Cut
namespace Go.Proofs.Ythlahmabcbbhjaa
open Go.ChangeShapes Go.WideShapes Go.ChangeAt Go.RowKit
set_option linter.unusedVariables false
theorem val_of_same {x y : Ans} (h : Ans.same x y = true) : x.val = y.val := by
  unfold Ans.same at h
  have h := of_decide_eq_true h
  unfold Ans.val
  rw [h.1.1, h.1.2.1, h.1.2.2, h.2.1, h.2.2]
theorem same_not {xs : List Ans} (hn : (xs.map Ans.val).Nodup) {i k : Nat} (hik : i ≠ k) {x y : Ans} (hx : xs[i]? = some x) (hy : xs[k]? = some y) : Ans.same x y = false := by
  cases h : Ans.same x y with
  | false => rfl
  | true =>
    have e : x.val = y.val := val_of_same h
    have h1 : (xs.map Ans.val)[i]? = some x.val := by simp [hx]
    have h2 : (xs.map Ans.val)[k]? = some x.val := by simp [hy, e]
    exact absurd ((List.getElem?_inj (List.getElem?_eq_some_iff.1 h1).1 hn).1 (h1.trans h2.symm)) hik
set_option maxHeartbeats 1600000 in
theorem twins_any (a : Option Addr) (cap : Nat) (xs : List Ans) (w : World) (hxs : FivesAt w a xs Ans.cells) (hok : ∀ x ∈ xs, AnsOk w x) (hn : (xs.map Ans.val).Nodup) (h2 : xs.length ≤ 2000) (hc : xs.length ≤ cap) :
    Calls Try.prog 8 #[.slice a xs.length cap] w fun e w' => e = .returned (.bool false) ∧ Gr w w' := by
  have HN : Hid _ := hn
  clear hn
  go_enter Try.func8, Try.ntmps8
  go_wp2_with fail
  go_loopw [3] (fun t wr => ∃ i : Nat, i ≤ xs.length ∧ t = .int .i64 i ∧ Gr w wr) (fun t _ => xs.length - (intOf t).toNat)
  case atStart => exact ⟨0, Nat.zero_le _, rfl, Gr.refl _⟩
  case round =>
    obtain ⟨i, hi, rfl, hgr⟩ := hrel
    by_cases hlt : i < xs.length
    · obtain ⟨x, hx⟩ : ∃ x, xs[i]? = some x := ⟨_, List.getElem?_eq_getElem hlt⟩
      obtain ⟨wo, hwo⟩ : ∃ x, x = wr := ⟨_, rfl⟩
      subst hwo
      go_wp2_with fail
      go_loopw [4] (fun t wq => ∃ k : Nat, k ≤ i ∧ t = .int .i64 k ∧ Gr w wq) (fun t _ => i - (intOf t).toNat)
      case atStart => exact ⟨0, Nat.zero_le _, rfl, hgr⟩
      case round =>
        obtain ⟨k, hk, rfl, hgq⟩ := hrel
        by_cases hki : k < i
        · obtain ⟨y, hy⟩ : ∃ y, xs[k]? = some y := ⟨_, List.getElem?_eq_getElem (by omega)⟩
          have hsame := same_not HN.out (by omega) hx hy
          obtain ⟨b, o, rfl, hb, q0, q1, q2, q3, q4⟩ := (hxs.gr hgq).cell i x hx
          obtain ⟨b', o', e, _, r0, r1, r2, r3, r4⟩ := (hxs.gr hgq).cell k y hy
          cases e
          have HS : Hid _ := fun W (hg : Gr w W) => sameAnswer_any x y W ((hok x (List.mem_of_getElem? hx)).gr hg) ((hok y (List.mem_of_getElem? hy)).gr hg)
          simp only [hsame] at HS
          obtain ⟨off, sv, nm, za, zcap, zs, jump⟩ := x
          obtain ⟨off', sv', nm', za', zcap', zs', jump'⟩ := y
          simp only [Ans.cells] at HS
          simp [Ans.cells] at q0 q1 q2 q3 q4 r0 r1 r2 r3 r4
          have i1 : (i : Int) < (xs.length : Int) := by omega
          have i2 : (k : Int) < (xs.length : Int) := by omega
          have i3 : k < xs.length := by omega
          have hbq : b < wr.heap.size := hb
          have hO : wr.cell? ⟨b, o + i * 5, none⟩ = some (.int .i64 off) ∧ wr.cell? ⟨b, o + i * 5 + 1, none⟩ = some (.bool sv) ∧ wr.cell? ⟨b, o + i * 5 + 2, none⟩ = some (.string nm) ∧ wr.cell? ⟨b, o + i * 5 + 3, none⟩ = some (.slice za zs.length zcap) ∧ wr.cell? ⟨b, o + i * 5 + 4, none⟩ = some (.int .i64 jump) ∧ wr.cell? ⟨b, o + k * 5, none⟩ = some (.int .i64 off') ∧ wr.cell? ⟨b, o + k * 5 + 1, none⟩ = some (.bool sv') ∧ wr.cell? ⟨b, o + k * 5 + 2, none⟩ = some (.string nm') ∧ wr.cell? ⟨b, o + k * 5 + 3, none⟩ = some (.slice za' zs'.length zcap') ∧ wr.cell? ⟨b, o + k * 5 + 4, none⟩ = some (.int .i64 jump') := ⟨q0, q1, q2, q3, q4, r0, r1, r2, r3, r4⟩
          clear q0 q1 q2 q3 q4 r0 r1 r2 r3 r4
          go_upto_region 7 with fail
          go_region_held3 (fun W' => W'.cell? ⟨b, o + i * 5, none⟩ = some (.int .i64 off) ∧ W'.cell? ⟨b, o + i * 5 + 1, none⟩ = some (.bool sv) ∧ W'.cell? ⟨b, o + i * 5 + 2, none⟩ = some (.string nm) ∧ W'.cell? ⟨b, o + i * 5 + 3, none⟩ = some (.slice za zs.length zcap) ∧ W'.cell? ⟨b, o + i * 5 + 4, none⟩ = some (.int .i64 jump) ∧ W'.cell? ⟨b, o + k * 5, none⟩ = some (.int .i64 off') ∧ W'.cell? ⟨b, o + k * 5 + 1, none⟩ = some (.bool sv') ∧ W'.cell? ⟨b, o + k * 5 + 2, none⟩ = some (.string nm') ∧ W'.cell? ⟨b, o + k * 5 + 3, none⟩ = some (.slice za' zs'.length zcap') ∧ W'.cell? ⟨b, o + k * 5 + 4, none⟩ = some (.int .i64 jump')) (first | with_reducible exact hO | (simpa [go_sem] using hO))
            (first
              | (go_at_call 12; refine (HS.out _ (by repeat (with_reducible first | exact hgq | refine Gr.drew ?_))).mono ?_; rintro e w5 ⟨rfl, hg5x⟩
                 have hg5 : Gr wr w5 := ⟨hg5x.os, hg5x.out, hg5x.size, hg5x.block⟩
                 have g := fun o => World.cell?_of_block (w := wr) (a := ⟨b, o, none⟩) (hg5.block b hbq)
                 replace hO : w5.cell? ⟨b, o + i * 5, none⟩ = some (.int .i64 off) ∧ w5.cell? ⟨b, o + i * 5 + 1, none⟩ = some (.bool sv) ∧ w5.cell? ⟨b, o + i * 5 + 2, none⟩ = some (.string nm) ∧ w5.cell? ⟨b, o + i * 5 + 3, none⟩ = some (.slice za zs.length zcap) ∧ w5.cell? ⟨b, o + i * 5 + 4, none⟩ = some (.int .i64 jump) ∧ w5.cell? ⟨b, o + k * 5, none⟩ = some (.int .i64 off') ∧ w5.cell? ⟨b, o + k * 5 + 1, none⟩ = some (.bool sv') ∧ w5.cell? ⟨b, o + k * 5 + 2, none⟩ = some (.string nm') ∧ w5.cell? ⟨b, o + k * 5 + 3, none⟩ = some (.slice za' zs'.length zcap') ∧ w5.cell? ⟨b, o + k * 5 + 4, none⟩ = some (.int .i64 jump') := ⟨(g _).trans hO.1, (g _).trans hO.2.1, (g _).trans hO.2.2.1, (g _).trans hO.2.2.2.1, (g _).trans hO.2.2.2.2.1, (g _).trans hO.2.2.2.2.2.1, (g _).trans hO.2.2.2.2.2.2.1, (g _).trans hO.2.2.2.2.2.2.2.1, (g _).trans hO.2.2.2.2.2.2.2.2.1, (g _).trans hO.2.2.2.2.2.2.2.2.2⟩
                 clear g hg5x))
          have hgr5 := hgq.trans hg5
          go_wp2_with fail
          go_roundw
          case rel => exact ⟨k + 1, by omega, by go_num, hgr5⟩
          case measure => simp [intOf]; omega
        · have hk' : k = i := by omega
          subst hk'
          go_wp2_with fail
          go_roundw
          case rel => exact ⟨k + 1, by omega, by go_num, hgq⟩
          case measure => simp [intOf]; omega
    · have hi' : i = xs.length := by omega
      go_wp2
      go_ret
      exact ⟨rfl, hgr⟩
end Go.Proofs.Ythlahmabcbbhjaa
