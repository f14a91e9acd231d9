/- Behind the loops of ProgramOf (P5.6), by the document. -/
import Derived.Test.YtddamfnoggjkfaaDoorSpoU
import Derived.Test.YtddamfnoggjkfaaDoorEncR
import Derived.Deep.DeepCutAuto
import Derived.Deep.CutBlock
import Derived.Deep.Light
namespace Go.Proofs.YtddamfnoggjkfaaDoor
open Go.ChangeShapes Go.WideShapes Go.ChangeAt Go.RowKit
set_option linter.unusedVariables false
def Nav : Nat → Option Code → Option Code
  | 0, o => o
  | n + 1, some (.seq _ b) => Nav n (some b)
  | _ + 1, _ => none
theorem nav_wp {P : Program} {o : Option Code} {c : Code} {Q : Exit → Act → World → Prop} {a : Act} {w : World} (h : o = some c) (hw : Code.wp P c Q a w) : ∀ c', o = some c' → Code.wp P c' Q a w := by
  intro c' h'
  rw [h] at h'
  cases h'
  exact hw
theorem run_numIn (vs : Array Value) (w : World) : (callFunc 22 vs).run Tryd.prog w = .ok (.enter 22 vs) w := by
  have h1 : (Tryd.f22.name == "runtime.NumGoroutine") = false := by kernel_rfl
  have h2 : Tryd.f22.body.isNone = false := by kernel_rfl
  have h1' : ¬ Tryd.f22.name = "runtime.NumGoroutine" := by simpa using h1
  have h2' : ¬ Tryd.f22.body = none := by intro h; rw [h] at h2; cases h2
  simp [callFunc, go_sem, Tryd.func22, h1', h2']
set_option maxRecDepth 100000 in
set_option maxHeartbeats 6400000 in
theorem rest3 {l : List Int} {W w wc : World} {ab ao cap : Nat} {u1 u6 u7 u8 u9 u10 u11 u12 u13 u14 u15 u16 u17 u18 u19 u20 u21 u22 u23 u24 u25 u26 u27 u28 u29 u30 u31 u32 u33 u34 u35 u36 u37 u38 u39 u40 u41 u42 u43 u44 u45 u46 u47 u48 u49 u50 u51 u52 u53 u54 u55 u56 u57 u58 u59 u60 u61 u62 u63 u64 u65 u66 u67 u68 u69 u70 u71 u72 u73 u74 u75 u76 u77 u78 u79 u80 u81 u82 u83 u84 u85 u86 u87 u88 u89 u90 u91 u92 u93 u94 u95 u96 u97 u98 u99 u100 u101 u102 u103 u104 u105 u106 u107 u108 u109 u110 u111 u112 u113 u114 u115 u116 u117 u118 u119 u120 u121 u122 u123 u124 u125 u126 u127 u128 u129 u130 u131 u132 u133 u134 u135 u136 u137 u138 u139 u140 u141 u142 u143 u144 u145 u146 u147 u148 u149 u150 u151 u152 u153 u154 u155 u156 u157 u158 u159 u160 u161 u162 u163 u164 u165 u166 u167 u168 u169 u170 u171 u172 u173 u174 u175 u176 u177 u178 u179 u180 u181 u182 u183 u184 u185 u186 u187 u188 u189 u190 u191 u192 u193 u194 u195 u196 u197 u198 u199 u200 u201 u202 u203 u204 u205 u206 u207 u208 u209 u210 u211 u212 u213 u214 u215 u216 u217 u218 u219 u220 u221 u222 u223 u224 u225 u226 u227 u228 u229 u230 u231 u232 u233 u234 u235 u236 u237 u238 u239 u240 u241 u242 u243 u244 u245 u246 u247 u248 u249 u250 u251 u252 u253 u254 u255 u256 u257 u258 u259 u260 u261 u262 u263 : Value} (HF : Fine l) (hbb : BysAt W (some ⟨ab, ao, none⟩) l) (hc : l.length ≤ cap) (hc2 : cap ≤ 9223372036854775807) {cv pl v : Value} {code : List Ins} {pool : List Int} {ys : List Ans} {l7 : List Int} {e7 : Int} (hP3 : PrS W w wc (w.heap.size + 1) (w.heap.size + 1 + 1) l cv pl v code pool ys l7 e7) (hG3 : Sg3 l code pool (ys.map Ans.val) l7 e7) :
    ∀ c, Nav 12 Tryd.f9.body = some c → Code.wp Tryd.prog c (bodyPost Tryd.prog Tryd.f9 (DecPost l w)) { tmps := #[.slice (some ⟨ab, ao, none⟩) l.length cap, u1, .pointer (some ⟨w.heap.size, 0, none⟩), .int .i64 0, .pointer (some ⟨w.heap.size + 1, 0, none⟩), .pointer (some ⟨w.heap.size + 1 + 1, 0, none⟩), u6, u7, u8, u9, u10, u11, u12, u13, u14, u15, u16, u17, u18, u19, u20, u21, u22, u23, u24, u25, u26, u27, u28, u29, u30, u31, u32, u33, u34, u35, u36, u37, u38, u39, u40, u41, u42, u43, u44, u45, u46, u47, u48, u49, u50, u51, u52, u53, u54, u55, u56, u57, u58, u59, u60, u61, u62, u63, u64, u65, u66, u67, u68, u69, u70, u71, u72, u73, u74, u75, u76, u77, u78, u79, u80, u81, u82, u83, u84, u85, u86, u87, u88, u89, u90, u91, u92, u93, u94, u95, u96, u97, u98, u99, u100, u101, u102, u103, u104, u105, u106, u107, u108, u109, u110, u111, u112, u113, u114, u115, u116, u117, u118, u119, u120, u121, u122, u123, u124, u125, u126, u127, u128, u129, u130, u131, u132, u133, u134, u135, u136, u137, u138, u139, u140, u141, u142, u143, u144, u145, u146, u147, u148, u149, u150, u151, u152, u153, u154, u155, u156, u157, u158, u159, u160, u161, u162, u163, u164, u165, u166, u167, u168, u169, u170, u171, u172, u173, u174, u175, u176, u177, u178, u179, u180, u181, u182, u183, u184, u185, u186, u187, u188, u189, u190, u191, u192, u193, u194, u195, u196, u197, u198, u199, u200, u201, u202, u203, u204, u205, u206, u207, u208, u209, u210, u211, u212, u213, u214, u215, u216, u217, u218, u219, u220, u221, u222, u223, u224, u225, u226, u227, u228, u229, u230, u231, u232, u233, u234, u235, u236, u237, u238, u239, u240, u241, u242, u243, u244, u245, u246, u247, u248, u249, u250, u251, u252, u253, u254, u255, u256, u257, u258, u259, u260, u261, u262, u263], defers := [] } wc := by
  refine nav_wp rfl ?_
  have hlong := HF.long
  have HBB' : Hid _ := hbb
  clear hbb
  obtain ⟨j0, hj, hj1, hj2, hj3⟩ := Tryd.infoIntD
  obtain ⟨ra, rcap, ri, q1, q2, q3, q4⟩ := hP3.sp.ex
  have hll : l7.length = l.length - ri := by rw [q4, List.length_drop]
  have g5 : decide ((ri : Int) < ((l.length : Nat) : Int)) = decide (0 < l7.length) := by rw [decide_eq_decide]; omega
  have G5 : Hid _ := g5
  obtain ⟨cs, fs⟩ := row_all q1
  have PR : Hid _ := hP3
  have HG : Hid _ := hG3
  clear q1 q2 q4 hll g5 hP3 hG3
  go_upto_region 50 with fail
  cases hq0 : (e7 == 0) with
  | false =>
    have he : e7 ≠ 0 := by simpa using hq0
    have hEE : decE l = e7 := by rcases HG.out.or with h | h; exact absurd h.1 he; exact h.2
    have HEE : Hid _ := hEE
    have gne : (e7 != 0) = true := by simpa using he
    obtain ⟨cr, fr⟩ := row_all PR.out.rbox
    have gE := PR.out.gr
    clear hEE HG PR
    go_upto_region 55 with fail
    go_region
    all_goals
      go_wp2
      refine bodyPost_ret (v := .tuple #[.agg #[.slice none 0 0, .slice none 0 0, .slice none 0 0], .int .i64 e7]) (by simp [results, Tryd.results9, go_sem, cr]) rfl (decPost_no HEE.out he rfl ?_)
      repeat (with_reducible first | exact gE | refine Gr.drew ?_ | refine Gr.drewN ?_ _ | refine Gr.alloc ?_ _ | refine Gr.setCell ?_ (by simp) _)
  | true =>
    have he : e7 = 0 := by simpa using hq0
    have HST : Hid _ := (HG.out.or.resolve_right (fun h => h.1 he)).2
    subst he
    clear HG hq0
    cases hq1 : decide (0 < l7.length) with
    | true =>
      have HEE : Hid _ := HF.left HST.out (of_decide_eq_true hq1)
      have g5 : (ri : Int) < ((l.length : Nat) : Int) := of_decide_eq_true (G5.out.trans hq1)
      have g6 : ri < l.length := by omega
      obtain ⟨cr, fr⟩ := row_all PR.out.rbox
      have gE := PR.out.gr
      clear HST PR G5 hq1
      go_upto_region 52 with fail
      have gn4 : ((4 : Int) == 0) = false := by decide
      have gn5 : ((4 : Int) != 0) = true := by decide
      go_upto_region 55 with fail
      go_region
      all_goals
        go_wp2
        refine bodyPost_ret (v := .tuple #[.agg #[.slice none 0 0, .slice none 0 0, .slice none 0 0], .int .i64 4]) (by simp [results, Tryd.results9, go_sem, cr]) rfl (decPost_no HEE.out (by decide) rfl ?_)
        repeat (with_reducible first | exact gE | refine Gr.drew ?_ | refine Gr.drewN ?_ _ | refine Gr.alloc ?_ _ | refine Gr.setCell ?_ (by simp) _)
    | false =>
      have HDN : Hid _ := HF.done HST.out (of_decide_eq_false hq1)
      have g5 : ¬ (ri : Int) < ((l.length : Nat) : Int) := of_decide_eq_false (G5.out.trans hq1)
      have g6 : ¬ ri < l.length := by omega
      obtain ⟨ca, ccap, hcv⟩ := owns_formK PR.out.ownC
      obtain ⟨pa, pcap, hpv⟩ := owns_formK PR.out.ownP
      obtain ⟨aa, acap, hav⟩ := owns_formK PR.out.own
      subst hcv
      subst hpv
      subst hav
      have hPG := fun X (hB : Bg (w.heap.size + 1) wc X) => prgOk_of (X := X) (B := w.heap.size + 1 + 1 + 1) (owns_bg PR.out.ownC (by omega) hB) (owns_bg PR.out.ownP (by omega) hB) (owns_bg PR.out.own (by omega) hB) PR.out.okC PR.out.okP (fun y hy => ansOk_own (PR.out.okA y hy).1 (owns_bg (PR.out.okA y hy).2 (by omega) hB))
      have HPG : Hid _ := fun (_ : Unit) => hPG
      have HV : Hid _ := fun (_ : Unit) => verifyOf_any ⟨ca, ccap, code, pa, pcap, pool, aa, acap, ys⟩ wc (hPG wc (Bg.ofGr (Gr.refl _)))
      have hval : Ver.verify ⟨ca, ccap, code, pa, pcap, pool, aa, acap, ys⟩ = Ver.verify (mkP (code, pool, ys.map Ans.val)) := (verify_val ⟨ca, ccap, code, pa, pcap, pool, aa, acap, ys⟩).symm
      have HVL : Hid _ := hval
      obtain ⟨cr, fr⟩ := row_all PR.out.rbox
      obtain ⟨cq, fq⟩ := row_all PR.out.pbox
      have gE := PR.out.gr
      clear HST G5 hq1 hPG hval
      have HEE : Hid (decE l = (Ver.verify ⟨ca, ccap, code, pa, pcap, pool, aa, acap, ys⟩).2.2) := by show decE l = _; rw [HVL.out]; exact HDN.out.1
      obtain ⟨V, hV⟩ : ∃ V, Ver.verify ⟨ca, ccap, code, pa, pcap, pool, aa, acap, ys⟩ = V := ⟨_, rfl⟩
      rw [hV] at HEE HV
      obtain ⟨v1, v2, ev⟩ := V
      obtain ⟨sa, scap, si, ks, _⟩ := PR.out.sp.ex
      have KSP : Hid _ := ks
      clear ks
      have zsb := PR.out.sp.lt
      have zpv := lt_of_someE PR.out.pbox
      have zr := lt_of_someE PR.out.rbox
      clear hV HVL
      go_upto_region 53 with fail
      go_upto_region 54 with (go_at_call 16; refine (HV.out ()).mono ?_; rintro en w8 ⟨rfl, hg8⟩; simp only [ret3]; have ks8 := (hg8.block _ zsb).trans KSP.out; obtain ⟨cs8, fs8⟩ := row_all ks8)
      have kq8 := (hg8.block _ zpv).trans PR.out.pbox
      have kr8 := (hg8.block _ zr).trans PR.out.rbox
      clear cs fs cr fr cq fq
      have kq9 : (w8.setCell ⟨w.heap.size + 1, 2, none⟩ (.int .i64 ev)).heap[w.heap.size + 1 + 1]? = some (.cells #[.slice ca code.length ccap, .slice pa pool.length pcap, .slice aa ys.length acap] 26) := (heap_setCell_other _ ⟨w.heap.size + 1, 2, none⟩ (w.heap.size + 1 + 1) _ (by simp)).trans kq8
      have kr9 : (w8.setCell ⟨w.heap.size + 1, 2, none⟩ (.int .i64 ev)).heap[w.heap.size]? = some (.cells #[.slice none 0 0, .slice none 0 0, .slice none 0 0] 26) := (heap_setCell_other _ ⟨w.heap.size + 1, 2, none⟩ w.heap.size _ (by simp)).trans kr8
      have ks9 := five_set ks8 2 (.int .i64 ev)
      have gE9 := (gE.trans hg8).setCell (p := ⟨w.heap.size + 1, 2, none⟩) (by simp) (.int .i64 ev)
      have HB9 : Hid (Bg (w.heap.size + 1) wc (w8.setCell ⟨w.heap.size + 1, 2, none⟩ (.int .i64 ev))) := (Bg.ofGr hg8).setCell 2 (.int .i64 ev)
      obtain ⟨X9, hX9⟩ : ∃ X, X = w8.setCell ⟨w.heap.size + 1, 2, none⟩ (.int .i64 ev) := ⟨_, rfl⟩
      rw [← hX9] at kq9 kr9 ks9 gE9 HB9 ⊢
      have OC : Hid _ := fun (_ : Unit) => owns_bg PR.out.ownC (by omega) HB9.out
      have OP : Hid _ := fun (_ : Unit) => owns_bg PR.out.ownP (by omega) HB9.out
      have OA : Hid _ := fun (_ : Unit) => owns_bg PR.out.own (by omega) HB9.out
      have OK : Hid _ := And.intro PR.out.okC PR.out.okP
      have HA : Hid _ := fun y hy => And.intro (PR.out.okA y hy).1 (owns_bg (PR.out.okA y hy).2 (by omega) HB9.out)
      obtain ⟨cq, fq⟩ := row_all kq9
      obtain ⟨cr, fr⟩ := row_all kr9
      obtain ⟨cs, fs⟩ := row_all ks9
      clear hX9 kq8 kr8 ks8 cs8 fs8 hg8 kq9 kr9 ks9 gE PR HV HPG KSP HB9
      cases hqv : (ev != 0) with
      | true =>
        have hev : ev ≠ 0 := by simpa using hqv
        go_upto_region 55 with fail
        go_region
        all_goals
          go_wp2
          refine bodyPost_ret (v := .tuple #[.agg #[.slice none 0 0, .slice none 0 0, .slice none 0 0], .int .i64 ev]) (by simp [results, Tryd.results9, go_sem, cr]) rfl (decPost_no HEE.out hev rfl ?_)
          repeat (with_reducible first | exact gE9 | refine Gr.drew ?_ | refine Gr.drewN ?_ _ | refine Gr.alloc ?_ _ | refine Gr.setCell ?_ (by simp) _)
      | false =>
        have hev : ev = 0 := by simpa using hqv
        have hp2 : w.heap.size < w.heap.size + 1 + 1 + 1 := by omega
        have HEV : Hid (decE l = 0) := HEE.out.trans hev
        clear hev
        go_wp2
        refine bodyPost_ret (v := .tuple #[.agg #[.slice ca code.length ccap, .slice pa pool.length pcap, .slice aa ys.length acap], .int .i64 0]) (by simp [results, Tryd.results9, go_sem, cr]) rfl ?_
        refine ⟨⟨⟨ca, ccap, code, pa, pcap, pool, aa, acap, ys⟩, by rw [HEV.out]; rfl, prgOk_of (B := w.heap.size + 1 + 1 + 1) ?_ ?_ ?_ OK.out.1 OK.out.2 (fun y hy => ansOk_own (HA.out y hy).1 (B := w.heap.size + 1 + 1 + 1) ?_), by rw [HDN.out.2 HEV.out]; rfl⟩, ?_⟩
        · repeat (with_reducible first | exact OC.out () | refine owns_set ?_ (by exact hp2) _)
        · repeat (with_reducible first | exact OP.out () | refine owns_set ?_ (by exact hp2) _)
        · repeat (with_reducible first | exact OA.out () | refine owns_set ?_ (by exact hp2) _)
        · have := (HA.out y hy).2
          repeat (with_reducible first | exact this | refine owns_set ?_ (by exact hp2) _)
        · repeat (with_reducible first | exact gE9 | refine Gr.setCell ?_ (by exact Nat.le_refl _) _)
end Go.Proofs.YtddamfnoggjkfaaDoor
