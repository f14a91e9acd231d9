/- The pool of ProgramOf (P5.6), by the document. -/
import Derived.Test.YtddamfnoggjkfaaDoorSpoVl
import Derived.Deep.DeepCutAuto
import Derived.Deep.CutBlock
import Derived.Deep.Light
namespace Go.Proofs.YtddamfnoggjkfaaDoor
open Go.ChangeShapes Go.WideShapes Go.ChangeAt Go.RowKit
set_option linter.unusedVariables false
set_option maxRecDepth 100000 in
set_option maxHeartbeats 6400000 in
theorem rest1 {l : List Int} {W w wc : World} {ab ao cap : Nat} {u1 u6 u7 u8 u9 u10 u11 u12 u13 u14 u15 u16 u17 u18 u19 u20 u21 u22 u23 u24 u25 u26 u27 u28 u29 u30 u31 u32 u33 u34 u35 u36 u37 u38 u39 u40 u41 u42 u43 u44 u45 u46 u47 u48 u49 u50 u51 u52 u53 u54 u55 u56 u57 u58 u59 u60 u61 u62 u63 u64 u65 u66 u67 u68 u69 u70 u71 u72 u73 u74 u75 u76 u77 u78 u79 u80 u81 u82 u83 u84 u85 u86 u87 u88 u89 u90 u91 u92 u93 u94 u95 u96 u97 u98 u99 u100 u101 u102 u103 u104 u105 u106 u107 u108 u109 u110 u111 u112 u113 u114 u115 u116 u117 u118 u119 u120 u121 u122 u123 u124 u125 u126 u127 u128 u129 u130 u131 u132 u133 u134 u135 u136 u137 u138 u139 u140 u141 u142 u143 u144 u145 u146 u147 u148 u149 u150 u151 u152 u153 u154 u155 u156 u157 u158 u159 u160 u161 u162 u163 u164 u165 u166 u167 u168 u169 u170 u171 u172 u173 u174 u175 u176 u177 u178 u179 u180 u181 u182 u183 u184 u185 u186 u187 u188 u189 u190 u191 u192 u193 u194 u195 u196 u197 u198 u199 u200 u201 u202 u203 u204 u205 u206 u207 u208 u209 u210 u211 u212 u213 u214 u215 u216 u217 u218 u219 u220 u221 u222 u223 u224 u225 u226 u227 u228 u229 u230 u231 u232 u233 u234 u235 u236 u237 u238 u239 u240 u241 u242 u243 u244 u245 u246 u247 u248 u249 u250 u251 u252 u253 u254 u255 u256 u257 u258 u259 u260 u261 u262 u263 : Value} (HF : Fine l) (hbb : BysAt W (some ⟨ab, ao, none⟩) l) (hc : l.length ≤ cap) (hc2 : cap ≤ 9223372036854775807) {cv : Value} {code : List Ins} {l1 : List Int} {e1 : Int} (hP1 : PrS W w wc (w.heap.size + 1) (w.heap.size + 1 + 1) l cv (.slice none 0 0) (.slice none 0 0) code [] [] l1 e1) (hG1 : Sg1 l code l1 e1) :
    ∀ c, Nav 8 Tryd.f9.body = some c → Code.wp Tryd.prog c (bodyPost Tryd.prog Tryd.f9 (DecPost l w)) { tmps := #[.slice (some ⟨ab, ao, none⟩) l.length cap, u1, .pointer (some ⟨w.heap.size, 0, none⟩), .int .i64 0, .pointer (some ⟨w.heap.size + 1, 0, none⟩), .pointer (some ⟨w.heap.size + 1 + 1, 0, none⟩), u6, u7, u8, u9, u10, u11, u12, u13, u14, u15, u16, u17, u18, u19, u20, u21, u22, u23, u24, u25, u26, u27, u28, u29, u30, u31, u32, u33, u34, u35, u36, u37, u38, u39, u40, u41, u42, u43, u44, u45, u46, u47, u48, u49, u50, u51, u52, u53, u54, u55, u56, u57, u58, u59, u60, u61, u62, u63, u64, u65, u66, u67, u68, u69, u70, u71, u72, u73, u74, u75, u76, u77, u78, u79, u80, u81, u82, u83, u84, u85, u86, u87, u88, u89, u90, u91, u92, u93, u94, u95, u96, u97, u98, u99, u100, u101, u102, u103, u104, u105, u106, u107, u108, u109, u110, u111, u112, u113, u114, u115, u116, u117, u118, u119, u120, u121, u122, u123, u124, u125, u126, u127, u128, u129, u130, u131, u132, u133, u134, u135, u136, u137, u138, u139, u140, u141, u142, u143, u144, u145, u146, u147, u148, u149, u150, u151, u152, u153, u154, u155, u156, u157, u158, u159, u160, u161, u162, u163, u164, u165, u166, u167, u168, u169, u170, u171, u172, u173, u174, u175, u176, u177, u178, u179, u180, u181, u182, u183, u184, u185, u186, u187, u188, u189, u190, u191, u192, u193, u194, u195, u196, u197, u198, u199, u200, u201, u202, u203, u204, u205, u206, u207, u208, u209, u210, u211, u212, u213, u214, u215, u216, u217, u218, u219, u220, u221, u222, u223, u224, u225, u226, u227, u228, u229, u230, u231, u232, u233, u234, u235, u236, u237, u238, u239, u240, u241, u242, u243, u244, u245, u246, u247, u248, u249, u250, u251, u252, u253, u254, u255, u256, u257, u258, u259, u260, u261, u262, u263], defers := [] } wc := by
  refine nav_wp rfl ?_
  have hlong := HF.long
  have HBB' : Hid _ := hbb
  clear hbb
  obtain ⟨j0, hj, hj1, hj2, hj3⟩ := Tryd.infoIntD
  obtain ⟨N4, hN4⟩ : ∃ N, Dec.count 2000 l1 e1 = N := ⟨_, rfl⟩
  have H2 : Hid _ := fun X (h : Sp W X (w.heap.size + 1) l l1 e1) => countIn_any 2000 W X (w.heap.size + 1) l l1 e1 h (by decide)
  have hb4 := Dec.count_bd (most := 2000) (by decide) (l := l1) (e := e1)
  rw [hN4] at H2 hb4
  obtain ⟨z4, l4, e4⟩ := N4
  simp only at hb4
  obtain ⟨n4, rfl⟩ : ∃ n : Nat, z4 = n := ⟨z4.toNat, by omega⟩
  have HS2 : Hid _ := fun q hq T hT hx => Sg2.of (q := q) (T := T) HF hG1 hN4 hq hT hx
  have PR : Hid _ := hP1
  clear hN4 hG1 hP1
  go_upto_block 2 with (go_at_call 20; refine (H2.out _ PR.out.sp).mono ?_; rintro en w5 ⟨rfl, hS5, hB5⟩)
  have A0 := PR.out.call hB5 hS5
  clear PR hS5 hB5 H2
  go_cut [] (fun wx => ∃ (pl : Value) (pool l2 : List Int) (e2 : Int), PrS W w wx (w.heap.size + 1) (w.heap.size + 1 + 1) l cv pl (.slice none 0 0) code pool [] l2 e2 ∧ Sg2 l code pool l2 e2)
  case first =>
    go_wp2_with fail
    go_loopw [9] (fun t wr => ∃ (q : Nat) (pl : Value) (T : List Int × List Int × Int), q ≤ n4 ∧ t = .int .i64 q ∧ Dec.times Dec.number q l4 e4 = T ∧ PrS W w wr (w.heap.size + 1) (w.heap.size + 1 + 1) l cv pl (.slice none 0 0) code T.1 [] T.2.1 T.2.2) (fun t _ => n4 - (intOf t).toNat)
    case atStart => exact ⟨0, _, _, Nat.zero_le _, rfl, rfl, A0⟩
    case round =>
      obtain ⟨q, pl, ⟨pool, l2, e2⟩, hq, rfl, hT, hP⟩ := hrel
      clear A0
      simp only at hP
      obtain ⟨ra, rcap, ri, q1, q2, q3, q4⟩ := hP.sp.ex
      obtain ⟨cs, fs⟩ := row_all q1
      have PR : Hid _ := hP
      have HT : Hid _ := hT
      clear q1 q2 q3 q4 hP
      by_cases hlt : q < n4
      · have g3 : decide ((q : Int) < (n4 : Int)) = true := by rw [decide_eq_true_iff]; omega
        by_cases he : e2 = 0
        · subst he
          have HPL : Hid (pool.length = q) := by have := Dec.times_len Dec.number q l4 e4; rw [hT] at this; exact this
          have HTS : Hid _ := Dec.times_snoc Dec.number q l4 e4
          rw [hT] at HTS
          have HNU : Hid _ := fun X (h : Sp W X (w.heap.size + 1) l l2 0) => numberIn_any W X (w.heap.size + 1) l l2 0 h
          have HWF : Hid _ := Dec.number_wf (e := 0) (l := l2) PR.out.sp.bytl
          obtain ⟨N, hN⟩ : ∃ N, Dec.number l2 0 = N := ⟨_, rfl⟩
          rw [hN] at HNU HWF
          have h5 : Dec.times Dec.number (q + 1) l4 e4 = (pool ++ [N.1], N.2) := by rw [HTS.out]; show (pool ++ [(Dec.number l2 0).1], (Dec.number l2 0).2) = _; rw [hN]
          have H5 : Hid _ := h5
          obtain ⟨z, l5, e5⟩ := N
          obtain ⟨va, vcap, hv⟩ := owns_formK PR.out.ownP
          rw [HPL.out] at hv
          subst hv
          have hpo := PR.out.ownP
          rw [HPL.out] at hpo
          have POW : Hid _ := fun (_ : Unit) => hpo
          have zp := lt_of_someE PR.out.pbox
          obtain ⟨cp, fp⟩ := row_all PR.out.pbox
          clear HTS h5 hN hT hpo
          go_upto_region 26 with fail
          go_region_law (first
            | (refine step_callD (vs := #[.pointer (some ⟨w.heap.size + 1, 0, none⟩)]) run_numIn (by first | (simp [Act.eval]; done) | (simp [Act.eval, Act.put]; done)) (HNU.out _ (PR.out.sp.more (by repeat (with_reducible first | exact Gr.refl _ | refine Gr.drew ?_ | refine Gr.drewN ?_ _ | refine Gr.alloc ?_ _)))) ?_; intro en w5 hpost5; obtain ⟨rfl, hS5, hB5⟩ := hpost5; refine ⟨_, rfl, ?_⟩; have cp5 := (row_all (hB5.row PR.out.pbox (by omega))).1; have z5 : wr.heap.size ≤ w5.heap.size := hB5.size; have nz5 : ¬ w.heap.size + 1 + 1 = w5.heap.size := (by omega); have nz6 : w.heap.size + 1 + 1 < w5.heap.size := (by omega))
            | (refine step_append_lies _ (by rfl) _ _ _ (by rfl) (w.heap.size + 1 + 1 + 1) 3 j0 _ 1 8 Tryd.underlying23 hj hj1 hj2 hj3 rfl (by decide) (.slice va q vcap) q (ints pool) (by rfl) (owns_gr (w := w5) (owns_bg (rb := w.heap.size + 1) (World.ownsRow.drew (POW.out ())) (by omega) hB5) (by repeat (with_reducible first | exact Gr.refl _ | refine Gr.drew ?_ | refine Gr.drewN ?_ _ | refine Gr.alloc ?_ _))) ⟨w5.heap.size, 0, none⟩ 1 1 [.int .i64 z] (by rfl) (by rfl) (World.news_of_block (cs := #[.int .i64 z]) (t := 3) (fr := (0, 0)) (heapA w5 _)) (by simp [Value.oneCell']) (by omega) (by unfold maxLen; omega) (by omega) (by simp; omega) (w5.heap.size + 1) (by simp) ?_; intro g6 cap6 w6 hown6 hgrow6 hat6 hlt6; have kp6 := (hgrow6.block (w.heap.size + 1 + 1) (by simp; omega) (fun e => by have := (owns_lt (POW.out ()) e.symm).1; omega)).trans ((Below.heap_alloc _ _ _ (by omega)).trans (hB5.row PR.out.pbox (by omega))); have c6 := (row_all kp6).1; have f6 := (row_all kp6).2))
          all_goals
            have Hend : Hid _ := PR.out.stepP (w2 := w5) (x := z) (Bg.ofNew hB5 (Gr.drew (Gr.refl _))) hS5 ((Gr.refl _).alloc _) HWF.out hgrow6 (by rw [HPL.out]; exact hown6)
            clear hown6 hgrow6 hat6 kp6 c6 f6 cp5 hS5 hB5 cp fp
            go_wp2
            refine ⟨⟨q + 1, .slice (some ⟨g6, 0, none⟩) (q + 1) cap6, (pool ++ [z], l5, e5), by omega, by go_num, H5.out, Hend.out⟩, by simp [intOf]; omega⟩
        · have g1 : (e2 == 0) = false := by simpa using he
          clear hT
          go_wp2_with fail
          go_meet
          case rel => exact ⟨_, _, _, _, PR.out, HS2.out q hq _ HT.out (Or.inr he)⟩
      · have g3 : decide ((q : Int) < (n4 : Int)) = false := by rw [decide_eq_false_iff_not]; omega
        clear hT
        have HQ : Hid (q = n4) := by show q = n4; omega
        go_wp2_with fail
        go_meet
        case rel => exact ⟨_, _, _, _, PR.out, HS2.out q hq _ HT.out (Or.inl HQ.out)⟩
  case rest =>
    obtain ⟨pl, pool, l2, e2, hP2, hG2⟩ := hcut
    rename_i K hK
    exact hK _ _ (rest2 HF HBB'.out hc hc2 hP2 hG2 _ rfl)
end Go.Proofs.YtddamfnoggjkfaaDoor
