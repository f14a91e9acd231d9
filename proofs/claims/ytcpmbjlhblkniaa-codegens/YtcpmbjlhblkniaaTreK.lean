/- Contract: a number to ask a forest for. -/
import Derived.Test.YtcpmbjlhblkniaaGr
import Derived.Test.YtcpmbjlhblkniaaRows
import Derived.WalkKit
import Derived.ProofKit
import Derived.OpenShut
namespace Go.Proofs.Ytcpmbjlhblkniaa
open Go.ChangeShapes Go.WideShapes Go.ChangeAt Go.RowKit
set_option linter.unusedVariables false
theorem tmod_in (a : Int) {m : Int} (h : 0 < m) : -m < a.tmod m ∧ a.tmod m < m := by
  by_cases h0 : 0 ≤ a
  · rw [Cal.tmod_pos h0]
    have := Int.emod_nonneg a (show m ≠ 0 by omega)
    have := Int.emod_lt_of_pos a h
    omega
  · rw [Cal.tmod_neg (by omega)]
    have := Int.emod_nonneg (-a) (show m ≠ 0 by omega)
    have := Int.emod_lt_of_pos (-a) h
    omega
theorem tmod3 (a : Int) : -3 < a.tmod 3 ∧ a.tmod 3 < 3 := tmod_in a (by omega)
set_option maxHeartbeats 1600000 in
theorem asked_any (a : Option Addr) (cap : Nat) (zs : List Int) (n : Int) (w : World) (hz : IntsAt w a zs) (wz : ∀ z ∈ zs, (Lit.int .i64 z).wf = true) (wn : (Lit.int .i64 n).wf = true) :
    Calls Try.prog 6 #[.slice a zs.length cap, .int .i64 n] w fun e w' => ∃ t, e = .returned (.int .i64 t) ∧ (Lit.int .i64 t).wf = true ∧ w' = w := by
  have l1 := hz.len
  unfold maxLen at l1
  have bn := bounds_i64 wn
  by_cases h0 : zs.length = 0
  · have g : ((zs.length : Int) == 0) = true := by simpa using h0
    clear h0
    go_enter Try.func6, Try.ntmps6
    go_wp2
    go_ret
    exact ⟨n, rfl, wn, rfl⟩
  have g : ((zs.length : Int) == 0) = false := by simpa using h0
  by_cases h3 : n.tmod 3 = 0
  · have g3 : (n.tmod 3 == 0) = true := by simpa using h3
    clear h3 h0
    go_enter Try.func6, Try.ntmps6
    go_wp2
    all_goals
      go_ret
      exact ⟨n, rfl, wn, rfl⟩
  have g3 : (n.tmod 3 == 0) = false := by simpa using h3
  have hk := tmod_in (n.tdiv 3) (m := (zs.length : Int)) (by omega)
  have h33 := tmod3 n
  obtain ⟨q, hq⟩ : ∃ q, (n.tdiv 3).tmod (zs.length : Int) = q := ⟨_, rfl⟩
  rw [hq] at hk
  obtain ⟨r, hr⟩ : ∃ r, n.tmod 3 = r := ⟨_, rfl⟩
  clear h3 h0
  by_cases hneg : q < 0
  · obtain ⟨z, hz1⟩ : ∃ z, zs[(-q).toNat]? = some z := ⟨_, List.getElem?_eq_getElem (by omega)⟩
    obtain ⟨b, o, rfl, hb, hc⟩ := hz.cell _ z hz1
    have bz := bounds_i64 (wz z (List.mem_of_getElem? hz1))
    have hk0 : 0 ≤ -q := by omega
    have hk1 : -q < zs.length := by omega
    clear hz1 hz wz
    go_enter Try.func6, Try.ntmps6
    go_wp2
    go_ret
    exact ⟨_, rfl, by go_wf2, rfl⟩
  · obtain ⟨z, hz1⟩ : ∃ z, zs[(q).toNat]? = some z := ⟨_, List.getElem?_eq_getElem (by omega)⟩
    obtain ⟨b, o, rfl, hb, hc⟩ := hz.cell _ z hz1
    have bz := bounds_i64 (wz z (List.mem_of_getElem? hz1))
    have hk0 : 0 ≤ q := by omega
    have hk1 : q < zs.length := by omega
    clear hz1 hz wz
    go_enter Try.func6, Try.ntmps6
    go_wp2
    go_ret
    exact ⟨_, rfl, by go_wf2, rfl⟩
end Go.Proofs.Ytcpmbjlhblkniaa
