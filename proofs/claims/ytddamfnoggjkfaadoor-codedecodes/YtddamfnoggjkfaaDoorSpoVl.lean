/- The answers of ProgramOf (P5.6), by the document. -/
import Derived.Test.YtddamfnoggjkfaaDoorSpoVe
import Derived.Deep.DeepCutAuto
import Derived.Deep.CutBlock
import Derived.Deep.Light
namespace Go.Proofs.YtddamfnoggjkfaaDoor
open Go.ChangeShapes Go.WideShapes Go.ChangeAt Go.RowKit
set_option linter.unusedVariables false
set_option maxRecDepth 100000 in
set_option maxHeartbeats 6400000 in
theorem rest2 {l : List Int} {W w wc : World} {ab ao cap : Nat} {u1 u6 u7 u8 u9 u10 u11 u12 u13 u14 u15 u16 u17 u18 u19 u20 u21 u22 u23 u24 u25 u26 u27 u28 u29 u30 u31 u32 u33 u34 u35 u36 u37 u38 u39 u40 u41 u42 u43 u44 u45 u46 u47 u48 u49 u50 u51 u52 u53 u54 u55 u56 u57 u58 u59 u60 u61 u62 u63 u64 u65 u66 u67 u68 u69 u70 u71 u72 u73 u74 u75 u76 u77 u78 u79 u80 u81 u82 u83 u84 u85 u86 u87 u88 u89 u90 u91 u92 u93 u94 u95 u96 u97 u98 u99 u100 u101 u102 u103 u104 u105 u106 u107 u108 u109 u110 u111 u112 u113 u114 u115 u116 u117 u118 u119 u120 u121 u122 u123 u124 u125 u126 u127 u128 u129 u130 u131 u132 u133 u134 u135 u136 u137 u138 u139 u140 u141 u142 u143 u144 u145 u146 u147 u148 u149 u150 u151 u152 u153 u154 u155 u156 u157 u158 u159 u160 u161 u162 u163 u164 u165 u166 u167 u168 u169 u170 u171 u172 u173 u174 u175 u176 u177 u178 u179 u180 u181 u182 u183 u184 u185 u186 u187 u188 u189 u190 u191 u192 u193 u194 u195 u196 u197 u198 u199 u200 u201 u202 u203 u204 u205 u206 u207 u208 u209 u210 u211 u212 u213 u214 u215 u216 u217 u218 u219 u220 u221 u222 u223 u224 u225 u226 u227 u228 u229 u230 u231 u232 u233 u234 u235 u236 u237 u238 u239 u240 u241 u242 u243 u244 u245 u246 u247 u248 u249 u250 u251 u252 u253 u254 u255 u256 u257 u258 u259 u260 u261 u262 u263 : Value} (HF : Fine l) (hbb : BysAt W (some ⟨ab, ao, none⟩) l) (hc : l.length ≤ cap) (hc2 : cap ≤ 9223372036854775807) {cv pl : Value} {code : List Ins} {pool l2 : List Int} {e2 : Int} (hP2 : PrS W w wc (w.heap.size + 1) (w.heap.size + 1 + 1) l cv pl (.slice none 0 0) code pool [] l2 e2) (hG2 : Sg2 l code pool l2 e2) :
    ∀ c, Nav 10 Tryd.f9.body = some c → Code.wp Tryd.prog c (bodyPost Tryd.prog Tryd.f9 (DecPost l w)) { tmps := #[.slice (some ⟨ab, ao, none⟩) l.length cap, u1, .pointer (some ⟨w.heap.size, 0, none⟩), .int .i64 0, .pointer (some ⟨w.heap.size + 1, 0, none⟩), .pointer (some ⟨w.heap.size + 1 + 1, 0, none⟩), u6, u7, u8, u9, u10, u11, u12, u13, u14, u15, u16, u17, u18, u19, u20, u21, u22, u23, u24, u25, u26, u27, u28, u29, u30, u31, u32, u33, u34, u35, u36, u37, u38, u39, u40, u41, u42, u43, u44, u45, u46, u47, u48, u49, u50, u51, u52, u53, u54, u55, u56, u57, u58, u59, u60, u61, u62, u63, u64, u65, u66, u67, u68, u69, u70, u71, u72, u73, u74, u75, u76, u77, u78, u79, u80, u81, u82, u83, u84, u85, u86, u87, u88, u89, u90, u91, u92, u93, u94, u95, u96, u97, u98, u99, u100, u101, u102, u103, u104, u105, u106, u107, u108, u109, u110, u111, u112, u113, u114, u115, u116, u117, u118, u119, u120, u121, u122, u123, u124, u125, u126, u127, u128, u129, u130, u131, u132, u133, u134, u135, u136, u137, u138, u139, u140, u141, u142, u143, u144, u145, u146, u147, u148, u149, u150, u151, u152, u153, u154, u155, u156, u157, u158, u159, u160, u161, u162, u163, u164, u165, u166, u167, u168, u169, u170, u171, u172, u173, u174, u175, u176, u177, u178, u179, u180, u181, u182, u183, u184, u185, u186, u187, u188, u189, u190, u191, u192, u193, u194, u195, u196, u197, u198, u199, u200, u201, u202, u203, u204, u205, u206, u207, u208, u209, u210, u211, u212, u213, u214, u215, u216, u217, u218, u219, u220, u221, u222, u223, u224, u225, u226, u227, u228, u229, u230, u231, u232, u233, u234, u235, u236, u237, u238, u239, u240, u241, u242, u243, u244, u245, u246, u247, u248, u249, u250, u251, u252, u253, u254, u255, u256, u257, u258, u259, u260, u261, u262, u263], defers := [] } wc := by
  refine nav_wp rfl ?_
  have hlong := HF.long
  have HBB' : Hid _ := hbb
  clear hbb
  obtain ⟨j0, hj, hj1, hj2, hj3⟩ := Tryd.infoIntD
  obtain ⟨N6, hN6⟩ : ∃ N, Dec.count 2000 l2 e2 = N := ⟨_, rfl⟩
  have H2 : Hid _ := fun X (h : Sp W X (w.heap.size + 1) l l2 e2) => countIn_any 2000 W X (w.heap.size + 1) l l2 e2 h (by decide)
  have hb6 := Dec.count_bd (most := 2000) (by decide) (l := l2) (e := e2)
  rw [hN6] at H2 hb6
  obtain ⟨z6, l6, e6⟩ := N6
  simp only at hb6
  obtain ⟨n6, rfl⟩ : ∃ n : Nat, z6 = n := ⟨z6.toNat, by omega⟩
  have HS3 : Hid _ := fun q hq T hT hx => Sg3.of (q := q) (T := T) HF hG2 hN6 hq hT hx
  have PR : Hid _ := hP2
  clear hN6 hG2 hP2
  go_upto_block 4 with (go_at_call 20; refine (H2.out _ PR.out.sp).mono ?_; rintro en w5 ⟨rfl, hS5, hB5⟩)
  have A0 := PR.out.call hB5 hS5
  clear PR hS5 hB5 H2
  go_cut [] (fun wx => ∃ (v : Value) (ys : List Ans) (l7 : List Int) (e7 : Int), PrS W w wx (w.heap.size + 1) (w.heap.size + 1 + 1) l cv pl v code pool ys l7 e7 ∧ Sg3 l code pool (ys.map Ans.val) l7 e7)
  case first =>
    go_wp2_with fail
    go_loopw [10] (fun t wr => ∃ (q : Nat) (v : Value) (ys : List Ans) (l7 : List Int) (e7 : Int), q ≤ n6 ∧ t = .int .i64 q ∧ Dec.times Dec.answer q l6 e6 = (ys.map Ans.val, l7, e7) ∧ PrS W w wr (w.heap.size + 1) (w.heap.size + 1 + 1) l cv pl v code pool ys l7 e7) (fun t _ => n6 - (intOf t).toNat)
    case atStart => exact ⟨0, _, _, _, _, Nat.zero_le _, rfl, rfl, A0⟩
    case round =>
      obtain ⟨q, v, ys, l7, e7, hq, rfl, hT, hP⟩ := hrel
      clear A0
      obtain ⟨ra, rcap, ri, q1, q2, q3, q4⟩ := hP.sp.ex
      obtain ⟨cs, fs⟩ := row_all q1
      have PR : Hid _ := hP
      have HT : Hid _ := hT
      clear q1 q2 q3 q4 hP
      by_cases hlt : q < n6
      · have g3 : decide ((q : Int) < (n6 : Int)) = true := by rw [decide_eq_true_iff]; omega
        by_cases he : e7 = 0
        · subst he
          obtain ⟨wo, hwo⟩ : ∃ x, x = wr := ⟨_, rfl⟩
          subst hwo
          have HTS : Hid _ := Dec.times_snoc Dec.answer q l6 e6
          rw [hT] at HTS
          have hslt := PR.out.sp.lt
          have hpvz := lt_of_someE PR.out.pbox
          have H1 : Hid _ := fun X (h : Sp W X (w.heap.size + 1) l l7 0) => numberIn_any W X (w.heap.size + 1) l l7 0 h
          have W1 : Hid _ := Dec.number_wf (e := 0) (l := l7) PR.out.sp.bytl
          obtain ⟨N1, hN1⟩ : ∃ N, Dec.number l7 0 = N := ⟨_, rfl⟩
          rw [hN1] at H1 W1
          obtain ⟨z1, la, ea⟩ := N1
          have H2 : Hid _ := fun X (h : Sp W X (w.heap.size + 1) l la ea) => numberIn_any W X (w.heap.size + 1) l la ea h
          obtain ⟨N2, hN2⟩ : ∃ N, Dec.number la ea = N := ⟨_, rfl⟩
          have hY := yes_eqS hN2
          rw [hN2] at H2
          obtain ⟨z2, lb, eb⟩ := N2
          simp only at hY
          obtain ⟨ec, hec⟩ : ∃ e, yesE z2 eb = e := ⟨_, rfl⟩
          have HEC : Hid _ := hec
          rw [hec] at hY
          have H3 : Hid _ := fun X (h : Sp W X (w.heap.size + 1) l lb ec) => countIn_any 24 W X (w.heap.size + 1) l lb ec h (by decide)
          have hb3 := Dec.count_bd (most := 24) (by decide) (l := lb) (e := ec)
          obtain ⟨N3, hN3⟩ : ∃ N, Dec.count 24 lb ec = N := ⟨_, rfl⟩
          rw [hN3] at H3 hb3
          obtain ⟨z3, lc, ed⟩ := N3
          simp only at hb3
          obtain ⟨nn, rfl⟩ : ∃ n : Nat, z3 = n := ⟨z3.toNat, by omega⟩
          obtain ⟨N4, hN4⟩ : ∃ N, Dec.bytes nn lc ed = N := ⟨_, rfl⟩
          have HN4 : Hid _ := hN4
          have hbm := bytes_len (n := nn) (l := lc) (e := ed)
          rw [hN4] at hbm
          obtain ⟨nm, ld, ee⟩ := N4
          have H5 : Hid _ := fun X (h : Sp W X (w.heap.size + 1) l ld ee) => countIn_any 6 W X (w.heap.size + 1) l ld ee h (by decide)
          have hb5 := Dec.count_bd (most := 6) (by decide) (l := ld) (e := ee)
          obtain ⟨N5, hN5⟩ : ∃ N, Dec.count 6 ld ee = N := ⟨_, rfl⟩
          rw [hN5] at H5 hb5
          obtain ⟨z5, lf, ef⟩ := N5
          simp only at hb5 hbm
          obtain ⟨n5, rfl⟩ : ∃ n : Nat, z5 = n := ⟨z5.toNat, by omega⟩
          obtain ⟨k0, hk0, hk1, hk2, hk3⟩ := Tryd.infoAns
          have HAN : Hid _ := fun N6 (h6 : Dec.times Dec.number n5 lf ef = N6) N7 h7 => answer_eq (l := l7) (e := 0) _ hN1 _ hY _ hN3 _ (by simpa using hN4) N6 (by unfold Dec.numbers; rw [hN5]; exact h6) N7 h7
          have A0 : AnS W wo (wo.alloc (Obj.cells #[.int .i64 0, .bool false, .string ⟨#[]⟩, .slice none 0 0, .int .i64 0] 44)) (w.heap.size + 1) l #[.int .i64 0, .bool false, .string ⟨#[]⟩, .slice none 0 0, .int .i64 0] l7 0 := ⟨PR.out.sp.more ((Gr.refl _).alloc _), Bg.ofGr ((Gr.refl _).alloc _), heapA _ _, hslt⟩
          have hne : ¬ wo.heap.size = w.heap.size + 1 := by omega
          clear hT hN1 hN2 hY hec hN3 hN4 hN5
          go_upto_region 32 with fail
          obtain ⟨X0, hX0⟩ : ∃ X, X = wo.alloc (Obj.cells #[.int .i64 0, .bool false, .string ⟨#[]⟩, .slice none 0 0, .int .i64 0] 44) := ⟨_, rfl⟩
          rw [← hX0] at A0 ⊢
          have AH : Hid _ := A0
          clear hX0 A0 cs fs
          go_upto_region 33 with (go_at_call 22; refine (H1.out _ AH.out.sp).mono ?_; rintro en w1 ⟨rfl, hS1, hB1⟩; obtain ⟨cx, fx⟩ := row_all (hB1.row AH.out.box hne))
          have A1 : AnS W wo (w1.setCell ⟨wo.heap.size, 0, none⟩ (.int .i64 z1)) (w.heap.size + 1) l #[.int .i64 z1, .bool false, .string ⟨#[]⟩, .slice none 0 0, .int .i64 0] la ea := (AH.out.call hB1 hS1).set 0 (.int .i64 z1)
          obtain ⟨X1, hX1⟩ : ∃ X, X = w1.setCell ⟨wo.heap.size, 0, none⟩ (.int .i64 z1) := ⟨_, rfl⟩
          rw [← hX1] at A1 ⊢
          have AH1 : Hid _ := A1
          clear hX1 A1 AH hS1 hB1 cx fx H1
          go_upto_region 34 with (go_at_call 22; refine (H2.out _ AH1.out.sp).mono ?_; rintro en w2 ⟨rfl, hS2, hB2⟩)
          have A2 : Hid _ := AH1.out.call hB2 hS2
          clear AH1 hS2 hB2 H2
          obtain ⟨sa, scap, si, s1, s2⟩ := A2.out.sp.ex
          obtain ⟨cs, fs⟩ := row_all s1
          clear s1 s2
          obtain ⟨B1, hB1⟩ : ∃ B, B = ((eb == 0) && !decide (0 ≤ z2 ∧ z2 ≤ 1)) := ⟨_, rfl⟩
          have HB1 : Hid _ := hB1
          clear hB1
          go_cut [141] (fun s wx => s = .bool B1 ∧ wx = w2)
          case first =>
            cases hq0 : (eb == 0) with
            | false =>
              go_wp2_with fail
              go_meet
              case rel => exact ⟨by rw [HB1.out, hq0]; rfl, rfl⟩
            | true =>
              go_wp2_with (go_at_call 21; refine (inOf_any z2 0 1 _).mono ?_; rintro en w6 ⟨rfl, hw6⟩; subst w6)
              go_meet
              case rel => exact ⟨by rw [HB1.out, hq0]; simp [Bool.decide_and], rfl⟩
          case rest =>
            obtain ⟨rfl, rfl⟩ := hcut
            go_upto_if 141 with fail
            go_cut [] (fun wx => AnS W wo wx (w.heap.size + 1) l #[.int .i64 z1, .bool false, .string ⟨#[]⟩, .slice none 0 0, .int .i64 0] lb ec)
            case first =>
              cases hq1 : B1 with
              | false =>
                go_wp2_with fail
                go_meet
                case rel =>
                  have : ec = eb := by
                    rw [← HEC.out]
                    cases hq0 : (eb == 0) with
                    | false => exact yesE_err hq0
                    | true => exact yesE_ok (by have := HB1.out; rw [hq1, hq0] at this; simpa using this)
                  rw [this]
                  exact A2.out
              | true =>
                go_wp2_with fail
                go_meet
                case rel =>
                  have : ec = 4 := by
                    have h1 := HB1.out
                    rw [hq1] at h1
                    have h2 := (Bool.and_eq_true _ _).mp h1.symm
                    rw [← HEC.out]
                    exact yesE_no h2.1 (by have h3 := h2.2; revert h3; cases decide (0 ≤ z2 ∧ z2 ≤ 1) <;> simp)
                  rw [this]
                  exact A2.out.wrong 4
            case rest =>
              have A3 : Hid _ := hcut
              clear hcut A2 HB1 HEC cs fs
              obtain ⟨cx, fx⟩ := row_all A3.out.box
              go_upto_region 37 with fail
              have A4 : AnS W wo (wc.setCell ⟨wo.heap.size, 1, none⟩ (.bool (z2 == 1))) (w.heap.size + 1) l #[.int .i64 z1, .bool (z2 == 1), .string ⟨#[]⟩, .slice none 0 0, .int .i64 0] lb ec := A3.out.set 1 (.bool (z2 == 1))
              obtain ⟨X4, hX4⟩ : ∃ X, X = wc.setCell ⟨wo.heap.size, 1, none⟩ (.bool (z2 == 1)) := ⟨_, rfl⟩
              rw [← hX4] at A4 ⊢
              have AH4 : Hid _ := A4
              clear hX4 A4 A3 cx fx
              go_upto_region 38 with (go_at_call 20; refine (H3.out _ AH4.out.sp).mono ?_; rintro en w5 ⟨rfl, hS5, hB5⟩)
              have A5 : Hid _ := AH4.out.call hB5 hS5
              clear AH4 hS5 hB5 H3
              obtain ⟨sa, scap, si, s1, s2, s3, s4⟩ := A5.out.sp.ex
              obtain ⟨cs, fs⟩ := row_all s1
              have hll : lc.length = l.length - si := by rw [s4, List.length_drop]
              have g5 : decide (((l.length : Nat) : Int) < (si : Int) + (nn : Int)) = decide (lc.length < nn) := by rw [decide_eq_decide]; omega
              clear s1 s2 s4 hll
              obtain ⟨B2, hB2⟩ : ∃ B, B = ((ed == 0) && decide (lc.length < nn)) := ⟨_, rfl⟩
              have HB2 : Hid _ := hB2
              clear hB2
              have G5 : Hid _ := g5
              clear g5
              obtain ⟨e5, he5⟩ : ∃ e, shortE nn lc ed = e := ⟨_, rfl⟩
              have HE5 : Hid _ := he5
              clear he5
              go_cut [166] (fun s wx => s = .bool B2 ∧ wx = w5)
              case first =>
                cases hq0 : (ed == 0) with
                | false =>
                  go_wp2_with fail
                  go_meet
                  case rel => exact ⟨by rw [HB2.out, hq0]; rfl, rfl⟩
                | true =>
                  go_wp2_with fail
                  go_meet
                  case rel => exact ⟨by rw [HB2.out, hq0, ← G5.out]; rfl, rfl⟩
              case rest =>
                obtain ⟨rfl, rfl⟩ := hcut
                go_upto_if 166 with fail
                go_cut [] (fun wx => AnS W wo wx (w.heap.size + 1) l #[.int .i64 z1, .bool (z2 == 1), .string ⟨#[]⟩, .slice none 0 0, .int .i64 0] lc e5)
                case first =>
                  cases hq1 : B2 with
                  | false =>
                    go_wp2_with fail
                    go_meet
                    case rel =>
                      have : e5 = ed := by
                        rw [← HE5.out]
                        exact if_neg (by rw [← HB2.out, hq1]; decide)
                      rw [this]
                      exact A5.out
                  | true =>
                    go_wp2_with fail
                    go_meet
                    case rel =>
                      have : e5 = 5 := by
                        rw [← HE5.out]
                        exact if_pos (by rw [← HB2.out, hq1])
                      rw [this]
                      exact A5.out.wrong 5
                case rest =>
                  have A6 : Hid _ := hcut
                  clear hcut A5 HB2 cs fs G5 s3 si sa scap
                  obtain ⟨sa, scap, si, s1, s2, s3, s4⟩ := A6.out.sp.ex
                  obtain ⟨cs, fs⟩ := row_all s1
                  obtain ⟨cx, fx⟩ := row_all A6.out.box
                  have hll : lc.length = l.length - si := by rw [s4, List.length_drop]
                  go_upto_if 174 with fail
                  go_cut [] (fun wx => AnS W wo wx (w.heap.size + 1) l #[.int .i64 z1, .bool (z2 == 1), .string (Dec.bst nm), .slice none 0 0, .int .i64 0] ld ee)
                  case first =>
                    cases hq2 : (e5 == 0) with
                    | false =>
                      clear s1 s2 s4
                      go_wp2_with fail
                      go_meet
                      case rel =>
                        have h1 := HN4.out
                        rw [short_bytes (by rw [HE5.out]; exact hq2), HE5.out] at h1
                        simp only [Prod.mk.injEq] at h1
                        obtain ⟨rfl, rfl, rfl⟩ := h1
                        exact A6.out
                    | true =>
                      obtain ⟨ed0, hle, hbs⟩ := long_bytes (n := nn) (l := lc) (e := ed) (by rw [HE5.out]; exact hq2)
                      have h0 : e5 = 0 := by simpa using hq2
                      have h1 := HN4.out
                      rw [hbs] at h1
                      simp only [Prod.mk.injEq] at h1
                      obtain ⟨h1a, h1b, h1c⟩ := h1
                      have hBA : BysAt W (some ⟨ab, ao + si, none⟩) (lc.take nn) := by rw [s4]; exact bys_at HBB'.out
                      have hcw : (convert 27 9 (.slice (if cap = si then some ⟨ab, ao, none⟩ else some ⟨ab, ao + si, none⟩) nn (cap - si))).run Tryd.prog wc.drew = .ok (.string (Dec.bst nm)) wc.drew := by
                        have hlen : (lc.take nn).length = nn := by rw [List.length_take, Nat.min_eq_left hle]
                        have hbb : ∀ x ∈ lc.take nn, 0 ≤ x ∧ x ≤ 255 := fun x hx => A6.out.sp.bytl x (List.mem_of_mem_take hx)
                        by_cases hcs : cap = si
                        · have hn0 : nn = 0 := by omega
                          rw [if_pos hcs, ← h1a, hn0]
                          exact run_bstA (W := W) (l := []) (BysAt.nil _ _) A6.out.sp.gr.drew (fun x hx => by cases hx)
                        · rw [if_neg hcs]
                          have := run_bstA (cap := cap - si) hBA A6.out.sp.gr.drew hbb
                          rw [hlen, h1a] at this
                          exact this
                      have hA2 := A6.out.set 2 (.string (Dec.bst nm))
                      have hSK := hA2.sp.skip (n := nn) ((heap_setCell_other _ ⟨wo.heap.size, 2, none⟩ (w.heap.size + 1) _ (by simp; omega)).trans s1) s2 (by omega) s4
                      have hAE := hA2.call ((Bg.ofGr (Gr.refl _)).setCell 1 (.int .i64 ((si : Int) + (nn : Int)))) hSK
                      rw [h1b, h0.trans h1c] at hAE
                      have HAE : Hid _ := hAE
                      clear hA2 hSK hAE
                      have y1 : (si : Int) + (nn : Int) ≤ (cap : Int) := by omega
                      clear s1 s2 s4 hbs hBA h1a h1b h1c h0 ed0
                      go_upto_region 41 with fail
                      go_region
                      all_goals
                        clear hcw
                        generalize (if cap = si then (some ⟨ab, ao, none⟩ : Option Addr) else some ⟨ab, ao + si, none⟩) = PP
                        go_wp2_with fail
                        go_meet
                        case rel => exact HAE.out.more (Gr.drew (Gr.refl _))
                  case rest =>
                    have A7 : Hid _ := hcut
                    clear hcut A6 HE5 HN4 cs fs cx fx hll
                    go_upto_block 6 with (go_at_call 20; refine (H5.out _ A7.out.sp).mono ?_; rintro en w8 ⟨rfl, hS8, hB8⟩)
                    have A8 := A7.out.call hB8 hS8
                    clear A7 hS8 hB8 H5
                    go_wp2_with fail
                    go_loopw [13] (fun t wr => ∃ (r : Nat) (u : Value) (T : List Int × List Int × Int), r ≤ n5 ∧ t = .int .i64 r ∧ Dec.times Dec.number r lf ef = T ∧ AnS W wo wr (w.heap.size + 1) l #[.int .i64 z1, .bool (z2 == 1), .string (Dec.bst nm), u, .int .i64 0] T.2.1 T.2.2 ∧ wr.ownsRow (wo.heap.size + 1) 3 1 u r (ints T.1) ∧ ∀ z ∈ T.1, (Lit.int .i64 z).wf = true) (fun t _ => n5 - (intOf t).toNat)
                    case atStart => exact ⟨0, _, _, Nat.zero_le _, rfl, rfl, A8, ⟨by simp [ints, Dec.times], Or.inl ⟨rfl, rfl⟩⟩, fun z hz => by cases hz⟩
                    case round =>
                      obtain ⟨r, u, ⟨zs, lg, eg⟩, hr, rfl, hTj, hAj, hoj, hwj⟩ := hrel
                      clear A8
                      simp only at hAj hoj hwj
                      obtain ⟨ua, ucap, hu⟩ := owns_formK hoj
                      subst hu
                      have HO : Hid _ := And.intro hAj (And.intro (fun (_ : Unit) => hoj) hwj)
                      have HTj : Hid _ := hTj
                      have hzs := lt_of_someE hAj.box
                      obtain ⟨cx, fx⟩ := row_all hAj.box
                      have HNU : Hid _ := fun X (h : Sp W X (w.heap.size + 1) l lg eg) => numberIn_any W X (w.heap.size + 1) l lg eg h
                      have HWF : Hid _ := Dec.number_wf (e := eg) (l := lg) hAj.sp.bytl
                      have HTS2 : Hid _ := Dec.times_snoc Dec.number r lf ef
                      have HZL : Hid (zs.length = r) := by have := Dec.times_len Dec.number r lf ef; rw [hTj] at this; exact this
                      rw [hTj] at HTS2
                      obtain ⟨N, hN⟩ : ∃ N, Dec.number lg eg = N := ⟨_, rfl⟩
                      rw [hN] at HNU HWF
                      obtain ⟨z, lh, eh⟩ := N
                      clear hAj hoj hwj
                      by_cases hlt2 : r < n5
                      · have h5 : Dec.times Dec.number (r + 1) lf ef = (zs ++ [z], lh, eh) := by rw [HTS2.out]; show (zs ++ [(Dec.number lg eg).1], (Dec.number lg eg).2) = _; rw [hN]
                        have H5 : Hid _ := h5
                        clear h5 hN hTj HTS2 HAN HTS PR HT
                        go_upto_region 47 with fail
                        go_region_law (first
                          | (refine step_callD (vs := #[.pointer (some ⟨w.heap.size + 1, 0, none⟩)]) run_numIn (by first | (simp [Act.eval]; done) | (simp [Act.eval, Act.put]; done)) (HNU.out _ (HO.out.1.sp.more (by repeat (with_reducible first | exact Gr.refl _ | refine Gr.drew ?_ | refine Gr.drewN ?_ _ | refine Gr.alloc ?_ _)))) ?_; intro en w5 hpost5; obtain ⟨rfl, hS5, hB5⟩ := hpost5; refine ⟨_, rfl, ?_⟩; have cp5 := (row_all (hB5.row HO.out.1.box hne)).1; have z5 : wr.heap.size ≤ w5.heap.size := hB5.size; have nz5 : ¬ wo.heap.size = w5.heap.size := (by omega); have nz6 : wo.heap.size < w5.heap.size := (by omega))
                          | (refine step_append_lies _ (by rfl) _ _ _ (by rfl) (wo.heap.size + 1) 3 j0 _ 1 8 Tryd.underlying23 hj hj1 hj2 hj3 rfl (by decide) (.slice ua r ucap) r (ints zs) (by rfl) (owns_gr (w := w5) (owns_bg (rb := w.heap.size + 1) (World.ownsRow.drew (HO.out.2.1 ())) (by omega) hB5) (by repeat (with_reducible first | exact Gr.refl _ | refine Gr.drew ?_ | refine Gr.drewN ?_ _ | refine Gr.alloc ?_ _))) ⟨w5.heap.size, 0, none⟩ 1 1 [.int .i64 z] (by rfl) (by rfl) (World.news_of_block (cs := #[.int .i64 z]) (t := 3) (fr := (0, 0)) (heapA w5 _)) (by simp [Value.oneCell']) (by omega) (by unfold maxLen; omega) (by omega) (by simp; omega) (w5.heap.size + 1) (by simp) ?_; intro g6 cap6 w6 hown6 hgrow6 hat6 hlt6; have kp6 := (hgrow6.block wo.heap.size (by simp; omega) (fun e => by have := (owns_lt (HO.out.2.1 ()) e.symm).1; omega)).trans ((Below.heap_alloc _ _ _ (by omega)).trans (hB5.row HO.out.1.box hne)); have c6 := (row_all kp6).1; have f6 := (row_all kp6).2))
                        all_goals
                          have Hend : Hid (AnS W wo (w6.setCell ⟨wo.heap.size, 3, none⟩ (.slice (some ⟨g6, 0, none⟩) (r + 1) cap6)) (w.heap.size + 1) l #[.int .i64 z1, .bool (z2 == 1), .string (Dec.bst nm), .slice (some ⟨g6, 0, none⟩) (r + 1) cap6, .int .i64 0] lh eh) := (((HO.out.1.call (Bg.ofNew hB5 (Gr.drew (Gr.refl _))) hS5).more ((Gr.refl _).alloc _)).by_ hgrow6 (fun k hk => by have := (owns_lt (HO.out.2.1 ()) hk).1; omega)).set 3 (.slice (some ⟨g6, 0, none⟩) (r + 1) cap6)
                          have HoE : Hid _ := fun (_ : Unit) => owns_set hown6 (p := ⟨wo.heap.size, 3, none⟩) (by simp) (.slice (some ⟨g6, 0, none⟩) (r + 1) cap6)
                          clear hown6 hgrow6 hat6 kp6 c6 f6 cp5 hS5 hB5 cx fx
                          go_wp2
                          refine ⟨⟨r + 1, .slice (some ⟨g6, 0, none⟩) (r + 1) cap6, (zs ++ [z], lh, eh), by omega, by go_num, H5.out, Hend.out, by rw [ints_appD]; exact HoE.out (), fun z' hz' => ?_⟩, by simp [intOf]; omega⟩
                          rcases List.mem_append.1 hz' with h | h
                          · exact HO.out.2.2 z' h
                          · rw [List.mem_singleton.1 h]; exact HWF.out
                      · have hrn : r = n5 := by omega
                        have HRA : Hid (Dec.answer l7 0 = ((z1, z2 == 1, Dec.bst nm, zs, z), lh, eh)) := HAN.out (zs, lg, eg) (by rw [← hrn]; exact hTj) (z, lh, eh) hN
                        have HTQ : Hid _ := HTS.out
                        clear hrn hN hTj HTS2 HAN HTS
                        go_upto_region 49 with (go_at_call 22; refine (HNU.out _ HO.out.1.sp).mono ?_; rintro en w9 ⟨rfl, hS9, hB9⟩; obtain ⟨cx9, fx9⟩ := row_all (hB9.row HO.out.1.box hne))
                        have A9 : AnS W wo (w9.setCell ⟨wo.heap.size, 4, none⟩ (.int .i64 z)) (w.heap.size + 1) l #[.int .i64 z1, .bool (z2 == 1), .string (Dec.bst nm), .slice ua r ucap, .int .i64 z] lh eh := (HO.out.1.call hB9 hS9).set 4 (.int .i64 z)
                        have hyo := owns_set (owns_bg (HO.out.2.1 ()) (rb := w.heap.size + 1) (by omega) hB9) (p := ⟨wo.heap.size, 4, none⟩) (by simp) (.int .i64 z)
                        obtain ⟨X9, hX9⟩ : ∃ X, X = w9.setCell ⟨wo.heap.size, 4, none⟩ (.int .i64 z) := ⟨_, rfl⟩
                        rw [← hX9] at A9 hyo ⊢
                        have hyo2 : X9.ownsRow (wo.heap.size + 1) 3 1 (.slice ua zs.length ucap) zs.length (ints zs) := by rw [HZL.out]; exact hyo
                        have hucap : zs.length ≤ ucap := by
                          obtain ⟨a', cap', e1, e2, e3⟩ := owns_ints hyo2
                          simp only [Value.slice.injEq] at e1
                          omega
                        have HY : Hid _ := (⟨W1.out, HWF.out, by show (Dec.bst nm).size ≤ _; rw [bst_size]; unfold maxLen; omega, hucap, owns_intsD hyo2, HO.out.2.2⟩ : AnsOk X9 ⟨z1, z2 == 1, Dec.bst nm, ua, ucap, zs, z⟩)
                        have HYO : Hid _ := fun (_ : Unit) => hyo2
                        have HA9 : Hid _ := A9
                        have HYL : Hid (ys.length = q) := by show ys.length = q; have := Dec.times_len Dec.answer q l6 e6; rw [HT.out] at this; simpa using this
                        have h5 : Dec.times Dec.answer (q + 1) l6 e6 = ((ys ++ [(⟨z1, z2 == 1, Dec.bst nm, ua, ucap, zs, z⟩ : Ans)]).map Ans.val, lh, eh) := by
                          rw [HTQ.out]
                          show (ys.map Ans.val ++ [(Dec.answer l7 0).1], (Dec.answer l7 0).2) = _
                          rw [HRA.out, List.map_append]
                          rfl
                        have H5 : Hid _ := h5
                        obtain ⟨va, vcap, hv⟩ := owns_formK PR.out.own
                        rw [HYL.out] at hv
                        subst hv
                        have PY : Hid _ := PR.out.call A9.bg A9.sp
                        have hpo := PY.out.own
                        rw [HYL.out] at hpo
                        have POW : Hid _ := fun (_ : Unit) => hpo
                        have PPB : Hid _ := PY.out.pbox
                        have zp9 := lt_of_someE PY.out.pbox
                        obtain ⟨cx, fx⟩ := row_all A9.box
                        obtain ⟨cq, fq⟩ := row_all PY.out.pbox
                        have zX9 := lt_of_someE A9.box
                        clear hX9 hyo hyo2 A9 hpo h5 cx9 fx9 hS9 hB9 HTQ HRA HO HNU
                        go_wp2_with (at_builtin; (refine wpList_append_lies _ rfl _ _ _ rfl (w.heap.size + 1 + 1 + 1) 44 k0 _ 5 64 Tryd.underlying24 hk0 hk1 hk2 hk3 rfl (by decide) (.slice va q vcap) q (ansC ys) (by rfl) (owns_gr (POW.out ()) (by exact (Gr.refl _).alloc _)) ⟨_, 0, none⟩ 1 1 [.int .i64 z1, .bool (z2 == 1), .string (Dec.bst nm), .slice ua r ucap, .int .i64 z] (by rfl) (by rfl) (World.news_of_block (cs := #[.int .i64 z1, .bool (z2 == 1), .string (Dec.bst nm), .slice ua r ucap, .int .i64 z]) (heapA _ _)) (by simp [Value.oneCell']) (by omega) (by unfold maxLen; omega) (by omega) (by simp; omega) _ rfl ?_; intro g7 cap7 w7 hown7 hgrow7 hat7 hlt7; have kp7 := (hgrow7.block (w.heap.size + 1 + 1) (by simp; omega) (fun e => by have := (owns_lt (POW.out ()) e.symm).1; omega)).trans ((Below.heap_alloc _ _ _ (by omega)).trans PPB.out); have c7 := (row_all kp7).1; have f7 := (row_all kp7).2))
                        have Hend : Hid _ := PR.out.stepA (y := ⟨z1, z2 == 1, Dec.bst nm, ua, ucap, zs, z⟩) HA9.out HY.out (HYO.out ()) ((Gr.refl _).alloc _) hgrow7 (by rw [HYL.out]; simp only [Ans.cells, HZL.out]; exact hown7)
                        clear hown7 hgrow7 hat7 kp7 cq fq cx fx
                        go_wp2
                        refine ⟨⟨q + 1, .slice (some ⟨g7, 0, none⟩) (q + 1) cap7, ys ++ [⟨z1, z2 == 1, Dec.bst nm, ua, ucap, zs, z⟩], lh, eh, by omega, by go_num, H5.out, Hend.out⟩, by simp [intOf]; omega⟩
        · have g1 : (e7 == 0) = false := by simpa using he
          clear hT
          go_wp2_with fail
          go_meet
          case rel => exact ⟨_, _, _, _, PR.out, HS3.out q hq _ HT.out (Or.inr he)⟩
      · have g3 : decide ((q : Int) < (n6 : Int)) = false := by rw [decide_eq_false_iff_not]; omega
        clear hT
        have HQ : Hid (q = n6) := by show q = n6; omega
        go_wp2_with fail
        go_meet
        case rel => exact ⟨_, _, _, _, PR.out, HS3.out q hq _ HT.out (Or.inl HQ.out)⟩
  case rest =>
    obtain ⟨v, ys, l7, e7, hP3, hG3⟩ := hcut
    rename_i K hK
    exact hK _ _ (rest3 HF HBB'.out hc hc2 hP3 hG3 _ rfl)
end Go.Proofs.YtddamfnoggjkfaaDoor
