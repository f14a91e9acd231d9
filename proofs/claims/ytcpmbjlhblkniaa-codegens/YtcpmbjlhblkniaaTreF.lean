/- Contract: Eval of a forest (P4.5), by the document's answer. -/
import Derived.Test.YtcpmbjlhblkniaaTreE
import Derived.Test.YtcpmbjlhblkniaaTreO
import Derived.Test.YtcpmbjlhblkniaaTreW
import Derived.Deep.RegionHeld3
import Derived.Deep.Cut
namespace Go.Proofs.Ytcpmbjlhblkniaa
open Go.ChangeShapes Go.WideShapes Go.ChangeAt Go.RowKit
set_option linter.unusedVariables false
theorem wrap_in {n : Int} (h : -9223372036854775808 ≤ n) (h' : n ≤ 9223372036854775807) : IntKind.i64.wrap n = n := by
  simp [IntKind.wrap, IntKind.signed, IntKind.bits]; omega
/-- Seven cells that are read. -/
structure Sev (w : World) (n b o : Nat) (v0 v1 : Value) (cs : List Value) : Prop where
  c0 : w.cell? ⟨n, 0, none⟩ = some v0
  c1 : w.cell? ⟨n, 1, none⟩ = some v1
  nl : n < w.heap.size
  bl : b < w.heap.size
  q : Five w b o cs
theorem Sev.gr {w w' : World} {n b o : Nat} {v0 v1 : Value} {cs : List Value} (h : Sev w n b o v0 v1 cs) (hg : Gr w w') : Sev w' n b o v0 v1 cs :=
  ⟨(hg.cell _ _ h.nl).trans h.c0, (hg.cell _ _ h.nl).trans h.c1, Nat.lt_of_lt_of_le h.nl hg.size, Nat.lt_of_lt_of_le h.bl hg.size, h.q.gr h.bl hg⟩
theorem Sev.all {w : World} {n b o : Nat} {v0 v1 : Value} {off jump : Int} {sv : Bool} {nm : ByteArray} {a : Option Addr} {cap : Nat} {zs : List Int} (h : Sev w n b o v0 v1 (Ans.cells ⟨off, sv, nm, a, cap, zs, jump⟩)) :
    w.cell? ⟨n, 0, none⟩ = some v0 ∧ w.cell? ⟨n, 1, none⟩ = some v1 ∧ w.cell? ⟨b, o, none⟩ = some (.int .i64 off) ∧ w.cell? ⟨b, o + 1, none⟩ = some (.bool sv) ∧ w.cell? ⟨b, o + 2, none⟩ = some (.string nm) ∧ w.cell? ⟨b, o + 3, none⟩ = some (.slice a zs.length cap) ∧ w.cell? ⟨b, o + 4, none⟩ = some (.int .i64 jump) := ⟨h.c0, h.c1, h.q⟩
set_option maxHeartbeats 3200000 in
theorem evalOf_any (f : Fst) (t : Int) (w : World) (hf : FstOk w f) :
    Calls Try.prog 9 #[.agg f.cells.toArray, .int .i64 t] w fun e w' => ∃ y : Ans, e = .returned (.tuple #[.agg y.cells.toArray, .int .i64 (forF f)]) ∧ AnsOk w' y ∧ y.val = (evalA f t).val ∧ Gr w w' := by
  obtain ⟨na, ncap, nodes, aa, acap, answers⟩ := f
  obtain ⟨F, hF⟩ : ∃ F : Fst, F = ⟨na, ncap, nodes, aa, acap, answers⟩ := ⟨_, rfl⟩
  have HF : Hid _ := hF
  rw [← hF] at hf ⊢
  have ec : F.cells = [.slice na nodes.length ncap, .slice aa answers.length acap] := by rw [hF]; rfl
  have en : F.nodes = nodes := by rw [hF]
  have ea : F.answers = answers := by rw [hF]
  have e2 : F.aa = aa := by rw [hF]
  have hch := fun W (hw : FstOk W F) => forestFault_any F W hw
  have hvl := fun (hG : Good F) (i : Int) W => valueOf_any F hG t F.nodes.length i W
  rw [ec] at hch hvl
  rw [ec]
  have haat := hf.aat
  rw [ea, e2] at haat
  have has := haat.len
  have hns := hf.nat.len
  rw [en] at hns
  unfold maxLen at has hns
  have EN : Hid _ := en
  have EA : Hid _ := ea
  have Hch : Hid _ := hch
  have Hvl : Hid _ := hvl
  clear hF ec en ea e2 hch HF hvl
  by_cases h0 : forF F = 0
  · have g0 : (forF F != 0) = false := by simpa using h0
    have H0 : Hid _ := h0
    have hG := good_of h0
    have n1 := hG.ne
    have n2 := hG.n8
    have n3 := hG.a2
    rw [EN.out] at n1 n2
    rw [EA.out] at n3
    obtain ⟨hv1, hv2⟩ := hG.evalI_lt t
    rw [EA.out] at hv1
    have hval : ∀ W, FstOk W F → Calls Try.prog 19 #[.agg #[.slice na nodes.length ncap, .slice aa answers.length acap], .int .i64 ((nodes.length : Int) - 1), .int .i64 t] W fun e w' => e = .returned (.int .i64 ((evalI F t : Nat) : Int)) ∧ Grown W w' := fun W hW => by
      have := Hvl.out hG ((nodes.length : Int) - 1) W (by omega) (by rw [EN.out]; omega) (by rw [EN.out]; omega) hW
      rw [show ((nodes.length : Int) - 1).toNat = F.nodes.length - 1 from by rw [EN.out]; omega, ← hv2] at this
      exact this
    have hwr : IntKind.i64.wrap ((nodes.length : Int) - 1) = (nodes.length : Int) - 1 := wrap_in (by omega) (by omega)
    rw [← hwr] at hval
    have HVL : Hid _ := hval
    clear hwr
    obtain ⟨x', hx'⟩ : ∃ x', answers[evalI F t]? = some x' := ⟨_, List.getElem?_eq_getElem hv1⟩
    have EV : Hid _ := evalA_yes H0.out (t := t) (x := x') (by rw [EA.out]; exact hx')
    obtain ⟨b2, o2, rfl, hb2, hc2⟩ := haat.cell _ x' hx'
    have hok := hf.aok x' (by rw [EA.out]; exact List.mem_of_getElem? hx')
    have hsm := fault_small (hG.ans x' (by rw [EA.out]; exact List.mem_of_getElem? hx'))
    clear h0 hv2 hval Hvl hx' hG
    obtain ⟨ix, hix⟩ : ∃ ix, evalI F t = ix := ⟨_, rfl⟩
    rw [hix] at HVL hc2 hv1
    clear hix
    obtain ⟨off, sv, nm, a', cap', zs, jump⟩ := x'
    simp only at hsm
    obtain ⟨s1, s2⟩ := hsm
    have s1' : zs.length ≤ 8000 := by omega
    have s2' : nm.size ≤ 8000 := by omega
    go_enter Try.func9, Try.ntmps9
    go_wp2_with fail
    refine (Hch.out _ (hf.grown (((Grown.refl _).alloc _ _).alloc _ _))).mono ?_
    rintro e w1 ⟨rfl, hg1⟩
    have k1 := (Grown_block hg1 w.heap.size (by simp; omega)).trans (heapB w _ _)
    have k2 := (Grown_block hg1 (w.heap.size + 1) (by simp)).trans (heapC w _ _)
    have z1 : w.heap.size + 2 ≤ w1.heap.size := by have := hg1.2.2; simp at this; omega
    have hgr : Gr w w1 := (((Gr.refl _).alloc _).alloc _).trans (Gr.ofGrown hg1)
    clear hg1
    have K2 : Hid _ := k2
    obtain ⟨c1, f1⟩ := row_all k1
    have hS : Sev w1 w.heap.size b2 (o2 + ix * 5) (.slice na nodes.length ncap) (.slice (some ⟨b2, o2, none⟩) answers.length acap) (Ans.cells ⟨off, sv, nm, a', cap', zs, jump⟩) :=
      ⟨c1 0, c1 1, by omega, Nat.lt_of_lt_of_le hb2 hgr.size, hc2.gr hb2 hgr⟩
    clear k1 k2 c1 f1 hc2
    have hO : w1.cell? ⟨w.heap.size, 0, none⟩ = some (.slice na nodes.length ncap) ∧ w1.cell? ⟨w.heap.size, 1, none⟩ = some (.slice (some ⟨b2, o2, none⟩) answers.length acap) ∧ w1.cell? ⟨b2, o2 + ix * 5, none⟩ = some (.int .i64 off) ∧ w1.cell? ⟨b2, o2 + ix * 5 + 1, none⟩ = some (.bool sv) ∧ w1.cell? ⟨b2, o2 + ix * 5 + 2, none⟩ = some (.string nm) ∧ w1.cell? ⟨b2, o2 + ix * 5 + 3, none⟩ = some (.slice a' zs.length cap') ∧ w1.cell? ⟨b2, o2 + ix * 5 + 4, none⟩ = some (.int .i64 jump) := ⟨hS.c0, hS.c1, hS.q⟩
    have HS : Hid _ := hS
    have hne : b2 ≠ w.heap.size + 1 := by omega
    clear hS
    go_upto_region 4 with fail
    go_region_held3 (fun w' => w'.cell? ⟨w.heap.size, 0, none⟩ = some (.slice na nodes.length ncap) ∧ w'.cell? ⟨w.heap.size, 1, none⟩ = some (.slice (some ⟨b2, o2, none⟩) answers.length acap) ∧ w'.cell? ⟨b2, o2 + ix * 5, none⟩ = some (.int .i64 off) ∧ w'.cell? ⟨b2, o2 + ix * 5 + 1, none⟩ = some (.bool sv) ∧ w'.cell? ⟨b2, o2 + ix * 5 + 2, none⟩ = some (.string nm) ∧ w'.cell? ⟨b2, o2 + ix * 5 + 3, none⟩ = some (.slice a' zs.length cap') ∧ w'.cell? ⟨b2, o2 + ix * 5 + 4, none⟩ = some (.int .i64 jump)) (first | with_reducible exact hO | (simpa [go_sem, hne] using hO))
      (first
        | (go_at_call 19; refine (HVL.out _ (hf.gr (by repeat (with_reducible first | exact hgr | refine Gr.drew ?_ | refine Gr.drewN ?_ _)))).mono ?_; rintro e w2 ⟨rfl, hg2⟩; have hg2' := (show Gr w1 w2 from Gr.trans (by repeat (with_reducible first | exact Gr.refl _ | refine Gr.drew ?_ | refine Gr.drewN ?_ _)) (Gr.ofGrown hg2)); have S2 := HS.out.gr hg2'; replace hO := S2.all; clear hg2 S2)
        | (go_at_call 18; refine (answerCopy_any _ _ _ _ _ _ _ _ (hok.zs.gr (by exact hgr.trans hg2')) s1').mono ?_; rintro e w5 ⟨a5, cap5, rfl, hcap5, hnew, hz5, hg5⟩; have S5 := (HS.out.gr hg2').gr hg5; replace hO := S5.all; clear S5; obtain ⟨e5, f5⟩ := row_all (((hg2'.trans hg5).block (w.heap.size + 1) (by omega)).trans K2.out)))
    go_wp2
    refine bodyPost_ret (v := .tuple #[.agg #[.int .i64 off, .bool sv, .string nm, .slice a5 zs.length cap5, .int .i64 jump], .int .i64 0]) (by simp [results, Try.results9, go_sem, e5]) rfl ⟨⟨off, sv, nm, a5, cap5, zs, jump⟩, ?_, ?_, ?_, ?_⟩
    · rw [H0.out]; rfl
    · refine ⟨hok.off, hok.jump, hok.nm, hcap5, ?_, hok.wz⟩
      show IntsAt _ a5 zs
      have s3 := hg2'.size
      repeat (with_reducible first | exact hz5 | refine IntsAt.sets ?_ hnew (by show w.heap.size + 1 < _; omega) _)
    · rw [EV.out]; rfl
    · repeat (with_reducible first | exact (hgr.trans hg2').trans hg5 | refine Gr.setCell ?_ (by simp) _)
  · have g0 : (forF F != 0) = true := by simpa using h0
    have EV : Hid _ := evalA_no (t := t) h0
    clear h0
    go_enter Try.func9, Try.ntmps9
    go_wp2_with fail
    refine (Hch.out _ (hf.grown (((Grown.refl _).alloc _ _).alloc _ _))).mono ?_
    rintro e w1 ⟨rfl, hg1⟩
    have k2 := (Grown_block hg1 (w.heap.size + 1) (by simp)).trans (heapC w _ _)
    have hgr : Gr w w1 := (((Gr.refl _).alloc _).alloc _).trans (Gr.ofGrown hg1)
    obtain ⟨c2, f2⟩ := row_all k2
    clear hg1 k2
    go_wp2
    refine bodyPost_ret (v := .tuple #[.agg #[.int .i64 0, .bool false, .string ⟨#[]⟩, .slice none 0 0, .int .i64 0], .int .i64 (forF F)]) (by simp [results, Try.results9, go_sem, c2]) rfl ⟨zeroA, rfl, ?_, ?_, ?_⟩
    · exact ⟨by decide, by decide, by decide, by decide, IntsAt.nil _ _, fun z hz => by cases hz⟩
    · rw [EV.out]
    · repeat (with_reducible first | exact hgr | refine Gr.setCell ?_ (by simp) _)
end Go.Proofs.Ytcpmbjlhblkniaa
