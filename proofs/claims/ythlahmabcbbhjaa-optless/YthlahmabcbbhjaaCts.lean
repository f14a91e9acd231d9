/- Contracts: slices.Index and slices.Contains of ints. -/
import Derived.Test.YthlahmabcbbhjaaGr
import Derived.Test.YthlahmabcbbhjaaPlain
import Derived.Deep.Cut
import Derived.Deep.RegionHeld3
namespace Go.Proofs.Ythlahmabcbbhjaa
open Go.ChangeShapes Go.WideShapes Go.ChangeAt Go.RowKit
set_option linter.unusedVariables false
set_option maxHeartbeats 1600000 in
theorem indexI_any (a : Option Addr) (cap : Nat) (zs : List Int) (v : Int) (w : World) (hz : IntsAt w a zs) (h8 : zs.length ≤ 100000) :
    Calls Try.prog 34 #[.slice a zs.length cap, .int .i64 v] w fun e w' => ∃ r : Int, e = .returned (.int .i64 r) ∧ (0 ≤ r ↔ v ∈ zs) ∧ w' = w := by
  have HZ : Hid _ := hz
  go_enter Try.func34, Try.ntmps34
  go_wp2_with fail
  go_loopw [8] (fun t wr => ∃ k : Nat, k ≤ zs.length ∧ t = .int .i64 k ∧ (∀ (i : Nat) z, i < k → zs[i]? = some z → z ≠ v) ∧ wr = w) (fun t _ => zs.length - (intOf t).toNat)
  case atStart => exact ⟨0, Nat.zero_le _, rfl, fun i z h => by omega, rfl⟩
  case round =>
    obtain ⟨k, hk, rfl, hne, rfl⟩ := hrel
    by_cases hlt : k < zs.length
    · obtain ⟨z, hzk⟩ : ∃ z, zs[k]? = some z := ⟨_, List.getElem?_eq_getElem hlt⟩
      obtain ⟨b, o, rfl, hb, hc⟩ := hz.cell k z hzk
      have i1 : (k : Int) < (zs.length : Int) := by omega
      have HK : Hid _ := hzk
      have HNE : Hid _ := hne
      clear hzk hne hz
      by_cases hv : v = z
      · have g : (v == z) = true := by simpa using hv
        go_wp2_with fail
        go_ret
        exact ⟨k, rfl, ⟨fun _ => by rw [hv]; exact List.mem_of_getElem? HK.out, fun _ => by omega⟩, rfl⟩
      · have g : (v == z) = false := by simpa using hv
        go_wp2_with fail
        go_roundw
        case rel => exact ⟨k + 1, by omega, by go_num, fun i y hi hy => by
            rcases Nat.lt_or_ge i k with h | h
            · exact HNE.out i y h hy
            · have e : i = k := by omega
              subst e
              rw [HK.out] at hy
              cases hy
              exact fun e => hv e.symm, by first | trivial | rfl⟩
        case measure => simp [intOf]; omega
    · have hk' : k = zs.length := by omega
      go_wp2
      go_ret
      refine ⟨-1, rfl, ⟨fun h => by omega, fun h => ?_⟩, rfl⟩
      obtain ⟨i, hi⟩ := List.getElem?_of_mem h
      exact absurd rfl (hne i v (by have := (List.getElem?_eq_some_iff.1 hi).1; omega) hi)
theorem containsI_any (a : Option Addr) (cap : Nat) (zs : List Int) (v : Int) (w : World) (hz : IntsAt w a zs) (h8 : zs.length ≤ 100000) :
    Calls Try.prog 18 #[.slice a zs.length cap, .int .i64 v] w fun e w' => e = .returned (.bool (decide (v ∈ zs))) ∧ w' = w := by
  have HI : Hid _ := fun (_ : Unit) => indexI_any a cap zs v w hz h8
  go_enter Try.func18, Try.ntmps18
  go_wp2_with fail
  refine (HI.out ()).mono ?_
  rintro e w1 ⟨r, rfl, hr, rfl⟩
  go_wp2_with fail
  go_ret
  exact ⟨ret_bool (by first | rfl | simp), rfl⟩
end Go.Proofs.Ythlahmabcbbhjaa
