/- Contract: Verify (P5.2, P5.3), by the program. -/
import Derived.Test.YtddamfnoggjkfaaDoorVerF
namespace Go.Proofs.YtddamfnoggjkfaaDoor
open Go.ChangeShapes Go.WideShapes Go.ChangeAt Go.RowKit
set_option linter.unusedVariables false
theorem ret3_tail {R : Int × Int × Int} {v : Value} (h : ret3 R = .returned v) : v = .tuple #[.int .i64 R.1, .int .i64 R.2.1, .int .i64 R.2.2] := by
  unfold ret3 at h
  cases h
  rfl
set_option maxHeartbeats 1600000 in
theorem verify_any (p : Prg) (w : World) (hp : PrgOk w p) (hT : Opr w) :
    Calls Tryd.prog 11 #[.agg p.cells.toArray] w fun e w' => e = ret3 (Ver.verify p) ∧ Gr w w' := by
  have HC : Hid _ := fun W (hW : PrgOk W p) => checkParts_any p W hW
  by_cases h0 : Ver.prgF p = 0
  · have HF : Hid _ := fun W (hW : PrgOk W p) (hT' : Opr W) => follow_any p W hW hT' (Ver.good h0)
    have E : Hid _ := Ver.verify_yes h0
    have g : (Ver.prgF p != 0) = false := by simpa using h0
    obtain ⟨R, hR⟩ : ∃ R, R = Ver.run p.code.length p.code 0 Ver.on0 0 0 := ⟨_, rfl⟩
    rw [E.out, ← hR]
    rw [← hR] at HF
    clear E hR h0
    obtain ⟨ca, ccap, code, pa, pcap, pool, aa, acap, answers⟩ := p
    simp only [Prg.cells] at HC HF ⊢
    go_enter Tryd.func11, Tryd.ntmps11
    go_wp2_with (go_at_call 26; refine (HC.out _ (hp.gr (by exact (Gr.refl _).alloc _))).mono ?_; rintro e w1 ⟨rfl, hg1⟩; have k1 := (hg1.block w.heap.size (by simp)).trans (heapA w _); have c1 := (row_all k1).1; have z1 : w.heap.size < w1.heap.size := by have := hg1.size; simp at this; omega)
    refine (HF.out _ (hp.gr (((Gr.refl _).alloc _).trans hg1)) (hT.gr (((Gr.refl _).alloc _).trans hg1))).mono ?_
    rintro e w2 ⟨rfl, hg2⟩
    simp only [ret3]
    go_wp2
    exact bodyPost_ret (v := .tuple #[.int .i64 R.1, .int .i64 R.2.1, .int .i64 R.2.2]) (by simp [results, Tryd.results11, go_sem]) rfl ⟨rfl, (((Gr.refl _).alloc _).trans hg1).trans hg2⟩
  · have g : (Ver.prgF p != 0) = true := by simpa using h0
    have E : Hid _ := Ver.verify_no h0
    rw [E.out]
    clear E h0
    obtain ⟨F, hF⟩ : ∃ F, F = Ver.prgF p := ⟨_, rfl⟩
    rw [← hF] at HC g ⊢
    clear hF
    obtain ⟨ca, ccap, code, pa, pcap, pool, aa, acap, answers⟩ := p
    simp only [Prg.cells] at HC ⊢
    go_enter Tryd.func11, Tryd.ntmps11
    go_wp2_with (go_at_call 26; refine (HC.out _ (hp.gr (by exact (Gr.refl _).alloc _))).mono ?_; rintro e w1 ⟨rfl, hg1⟩)
    exact bodyPost_ret (v := .tuple #[.int .i64 0, .int .i64 0, .int .i64 F]) (by simp [results, Tryd.results11, go_sem]) rfl ⟨rfl, ((Gr.refl _).alloc _).trans hg1⟩
end Go.Proofs.YtddamfnoggjkfaaDoor
