/- The loops of the law OptLess behind its first one. -/
import Derived.Test.YthlahmabcbbhjaaOlB
namespace Go.Proofs.Ythlahmabcbbhjaa
open Go.ChangeShapes Go.WideShapes Go.ChangeAt Go.RowKit Go.Maps
set_option linter.unusedVariables false
set_option maxRecDepth 100000 in
set_option maxHeartbeats 6400000 in
theorem optLess_mid {w wd : World} {u0 u1 u2 u3 u4 u5 u6 u7 u8 u9 u10 u12 u14 u16 u17 u18 u19 u20 u21 u22 u23 u24 u25 u26 u27 u28 u29 u30 u31 u32 u33 u34 u35 u36 u37 u38 u39 u40 u41 u42 u43 u44 u45 u46 u47 u48 u49 u50 u51 u52 u53 u54 u55 u56 u57 u58 u59 u60 u61 u62 u63 u64 u65 u66 u67 u68 u69 u70 u71 u72 u73 u74 u75 u76 u77 u78 u79 u80 u81 u82 u83 u84 u85 u86 u87 u88 u89 u90 u91 u92 u93 u94 u95 u96 u97 u98 u99 u100 u101 u102 u103 u104 u105 u106 u107 u108 u109 u110 u111 u112 u113 u114 u115 u116 u117 u118 u119 u120 u121 u122 u123 u124 u125 u126 u127 u128 u129 u130 u131 u132 u133 u134 u135 u136 u137 u138 u139 u140 u141 u142 u143 u144 u145 u146 u147 u148 : Value} {b5 b6 zcap : Nat} {za : Option Addr} {zs : List Int} {g5 g6 : Fst} (h5 : FstOk wd g5) (k5 : wd.heap[b5]? = some (.cells g5.cells.toArray 25)) (n5 : g5.nodes.Nodup) (G5 : Good g5) (h6 : FstOk wd g6) (k6 : wd.heap[b6]? = some (.cells g6.cells.toArray 25)) (G6 : Good g6) (hz : IntsAt wd za zs) (hwf : ∀ z ∈ zs, (Lit.int .i64 z).wf = true) (hz8 : zs.length ≤ 8000) (hzc : zs.length ≤ zcap) (hd : ∀ K, zs.length + 1 ≤ 2 ^ K → ∀ t, askN g6.nodes t g6.nodes.length (g6.nodes.length - 1) ≤ K + 1) (hgr : Gr w wd) :
    ∀ c, NavO 10 Try.f5.body = some c → Code.wp Try.prog c (bodyPost Try.prog Try.f5 (fun e w' => e = .returned (.bool true) ∧ Gr w w')) { tmps := #[u0, u1, u2, u3, u4, u5, u6, u7, u8, u9, u10, .pointer (some ⟨b5, 0, none⟩), u12, .pointer (some ⟨b6, 0, none⟩), u14, .slice za zs.length zcap, u16, u17, u18, u19, u20, u21, u22, u23, u24, u25, u26, u27, u28, u29, u30, u31, u32, u33, u34, u35, u36, u37, u38, u39, u40, u41, u42, u43, u44, u45, u46, u47, u48, u49, u50, u51, u52, u53, u54, u55, u56, u57, u58, u59, u60, u61, u62, u63, u64, u65, u66, u67, u68, u69, u70, u71, u72, u73, u74, u75, u76, u77, u78, u79, u80, u81, u82, u83, u84, u85, u86, u87, u88, u89, u90, u91, u92, u93, u94, u95, u96, u97, u98, u99, u100, u101, u102, u103, u104, u105, u106, u107, u108, u109, u110, u111, u112, u113, u114, u115, u116, u117, u118, u119, u120, u121, u122, u123, u124, u125, u126, u127, u128, u129, u130, u131, u132, u133, u134, u135, u136, u137, u138, u139, u140, u141, u142, u143, u144, u145, u146, u147, u148], defers := [] } wd := by
  refine navO_wp rfl ?_
  have HEND : Hid _ := fun (j : Nat) (hj : j ≤ 14) (h : ∀ t, askN g6.nodes t g6.nodes.length (g6.nodes.length - 1) ≤ j) => And.intro hj h
  have HD : Hid _ := hd
  have HH : Hid _ := And.intro h5 (And.intro k5 (And.intro n5 (And.intro G5 (And.intro h6 (And.intro k6 (And.intro G6 (And.intro hz (And.intro hwf hgr))))))))
  clear hd HEND h5 k5 n5 G5 h6 k6 G6 hz hwf hgr
  go_upto_block 2 with fail
  go_cut [18] (fun t wx => (∃ j : Nat, t = .int .i64 j ∧ j ≤ 14 ∧ ∀ t, askN g6.nodes t g6.nodes.length (g6.nodes.length - 1) ≤ j) ∧ wx = wd)
  case first =>
    go_wp2_with fail
    go_loopw [18] (fun t wq => ∃ j : Nat, t = .int .i64 j ∧ 1 ≤ j ∧ j ≤ 14 ∧ wq = wd) (fun t _ => 15 - (intOf t).toNat)
    case atStart => exact ⟨1, rfl, Nat.le_refl _, by omega, rfl⟩
    case round =>
      obtain ⟨j, rfl, hj1, hj2, rfl⟩ := hrel
      have hwrj : IntKind.i64.wrap ((j : Int) - 1) = (j : Int) - 1 := IntWalk.i64_in _ ⟨by omega, by omega⟩
      obtain ⟨P, hP⟩ : ∃ P : Nat, 2 ^ (j - 1) = P := ⟨_, rfl⟩
      have hP1 : P ≤ 8192 := by
        rw [← hP]
        exact Nat.le_trans (Nat.pow_le_pow_right (by decide) (by omega : j - 1 ≤ 13)) (by decide)
      have hw : wrap64 ((2 : Int) ^ (j - 1)) = (P : Int) := by
        have e : ((2 : Int) ^ (j - 1)) = (P : Int) := by rw [← hP]; simp
        rw [e]; unfold wrap64; omega
      have HP : Hid _ := hP
      clear hP
      by_cases hlp : P < zs.length + 1
      · have hj3 : j + 1 ≤ 14 := by
          rcases Nat.lt_or_ge j 14 with h | h
          · omega
          · have e : j = 14 := by omega
            have h2 := HP.out
            rw [e] at h2
            simp at h2
            omega
        have b1 : decide ((P : Int) < (zs.length : Int) + 1) = true := by rw [decide_eq_true_iff]; omega
        have b2 : (P : Int) < (zs.length : Int) + 1 := by omega
        go_wp2_with fail
        go_roundw
        case rel => exact ⟨j + 1, by go_num, by omega, by omega, by first | trivial | rfl⟩
        case measure => simp [intOf]; omega
      · have b1 : decide ((P : Int) < (zs.length : Int) + 1) = false := by rw [decide_eq_false_iff_not]; omega
        have b2 : ¬ (P : Int) < (zs.length : Int) + 1 := by omega
        have b3 : (zs.length : Int) + 1 ≤ (P : Int) := by omega
        have hlast := HD.out (j - 1) (by rw [HP.out]; omega)
        have HL : Hid _ := hlast
        clear hlast
        go_wp2_with fail
        go_meet
        case rel => exact ⟨⟨j, rfl, hj2, fun t => by have := HL.out t; omega⟩, by first | trivial | rfl⟩
  case rest =>
    obtain ⟨⟨j, rfl, hj, hd⟩, rfl⟩ := hcut
    obtain ⟨h5, k5, n5, G5, h6, k6, G6, hz, hwf, hgr⟩ := HH.out
    rename_i K hK
    exact hK _ _ (optLess_end h5 k5 n5 G5 h6 k6 G6 hz hwf hz8 hzc hd hj hgr _ rfl)
end Go.Proofs.Ythlahmabcbbhjaa
