/- Contracts: what Verify refuses is refused by Run (P5.4) and Encode (P5.5). -/
import Derived.Test.YtepccifohoipeaaDoorVerV
namespace Go.Proofs.YtepccifohoipeaaDoor
open Go.ChangeShapes Go.WideShapes Go.ChangeAt Go.RowKit
set_option linter.unusedVariables false
def zeroAns : Value := .agg #[.int .i64 0, .bool false, .string ⟨#[]⟩, .slice none 0 0, .int .i64 0]
set_option maxHeartbeats 1600000 in
theorem run_no (p : Prg) (t : Int) (w : World) (hp : PrgOk w p) (hT : Opr w) {e0 : Int} (hv : Ver.verify p = (0, 0, e0)) (he : e0 ≠ 0) :
    Calls Tryd.prog 8 #[.agg p.cells.toArray, .int .i64 t] w fun e w' => e = .returned (.tuple #[.agg #[.int .i64 0, .bool false, .string ⟨#[]⟩, .slice none 0 0, .int .i64 0], .int .i64 0, .int .i64 e0]) ∧ Gr w w' := by
  have HV : Hid _ := fun W (hW : PrgOk W p) (hT' : Opr W) => verify_any p W hW hT'
  rw [hv] at HV
  have g : (e0 != 0) = true := by simpa using he
  obtain ⟨ca, ccap, code, pa, pcap, pool, aa, acap, answers⟩ := p
  simp only [Prg.cells] at HV ⊢
  go_enter Tryd.func8, Tryd.ntmps8
  go_wp2_with fail
  refine (HV.out _ (hp.gr (by repeat (with_reducible first | exact Gr.refl _ | refine Gr.alloc ?_ _ | refine Gr.drewN ?_ _))) (hT.gr (by repeat (with_reducible first | exact Gr.refl _ | refine Gr.alloc ?_ _ | refine Gr.drewN ?_ _)))).mono ?_
  rintro e w1 ⟨rfl, hg1⟩
  simp only [ret3]
  have kR := (hg1.block (w.heap.size + 1) (by simp)).trans (heapC w _ _)
  have cR := (row_all kR).1
  have fR := (row_all kR).2
  have c0 := cR 0
  have c1 := cR 1
  have c2 := cR 2
  have c3 := cR 3
  have c4 := cR 4
  simp at c0 c1 c2 c3 c4
  clear cR kR
  go_wp2
  refine bodyPost_ret (v := .tuple #[.agg #[.int .i64 0, .bool false, .string ⟨#[]⟩, .slice none 0 0, .int .i64 0], .int .i64 0, .int .i64 e0]) (by simp [results, Tryd.results8, go_sem, c0, c1, c2, c3, c4]) rfl ⟨rfl, ?_⟩
  have hg : Gr w w1 := (((Gr.refl _).alloc _).alloc _).trans hg1
  repeat (with_reducible first | exact hg | refine Gr.alloc ?_ _ | refine Gr.drewN ?_ _ | refine Gr.drew ?_ | refine Gr.setCell ?_ (by simp) _)
set_option maxHeartbeats 1600000 in
theorem encode_no (p : Prg) (w : World) (hp : PrgOk w p) (hT : Opr w) {e0 : Int} (hv : Ver.verify p = (0, 0, e0)) (he : e0 ≠ 0) :
    Calls Tryd.prog 9 #[.agg p.cells.toArray] w fun e w' => e = .returned (.tuple #[.slice none 0 0, .int .i64 e0]) ∧ Gr w w' := by
  have HV : Hid _ := fun W (hW : PrgOk W p) (hT' : Opr W) => verify_any p W hW hT'
  rw [hv] at HV
  have g : (e0 != 0) = true := by simpa using he
  obtain ⟨ca, ccap, code, pa, pcap, pool, aa, acap, answers⟩ := p
  simp only [Prg.cells] at HV ⊢
  go_enter Tryd.func9, Tryd.ntmps9
  go_wp2_with fail
  refine (HV.out _ (hp.gr (by repeat (with_reducible first | exact Gr.refl _ | refine Gr.alloc ?_ _ | refine Gr.drewN ?_ _))) (hT.gr (by repeat (with_reducible first | exact Gr.refl _ | refine Gr.alloc ?_ _ | refine Gr.drewN ?_ _)))).mono ?_
  rintro e w1 ⟨rfl, hg1⟩
  simp only [ret3]
  go_wp2
  exact bodyPost_ret (v := .tuple #[.slice none 0 0, .int .i64 e0]) (by simp [results, Tryd.results9, go_sem]) rfl ⟨rfl, ((Gr.refl _).alloc _).trans hg1⟩
end Go.Proofs.YtepccifohoipeaaDoor
