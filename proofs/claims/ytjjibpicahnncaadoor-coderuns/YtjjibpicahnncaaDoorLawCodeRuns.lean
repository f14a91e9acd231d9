/- Proved: at every api.Program and number the law CodeRuns returns true: code.Run answers as the document's answer does. The table code.operators holds what its initialiser lays (tied to the program's text by the card). -/
import Derived.Test.YtjjibpicahnncaaDoorCards
import Derived.Test.YtjjibpicahnncaaDoorTie
import Derived.Test.YtjjibpicahnncaaDoorRunR
import Derived.Test.YtjjibpicahnncaaDoorTreK
import Derived.Test.YtjjibpicahnncaaDoorOprL
import Derived.Test.YtjjibpicahnncaaDoorOpnZ
import Derived.Test.YtjjibpicahnncaaDoorOpnP
import Derived.WalkKit
import Derived.ProofKit
import Derived.OpenShut
import Derived.Deep.DeepHandedRow
import Derived.Lib.LaidTab
namespace Go.Proofs.YtjjibpicahnncaaDoor
open Go.ChangeShapes Go.WideShapes Go.ChangeAt Go.RowKit
set_option linter.unusedVariables false
set_option maxHeartbeats 1600000 in
theorem codeRuns_at (p : Prg) (n : Int) (w : World) (hp : PrgOk w p) (wn : (Lit.int .i64 n).wf = true) (hT : Opr w) :
    Calls Tryd.prog 3 #[.agg p.cells.toArray, .int .i64 n] w fun e w' => e = .returned (.bool true) ∧ Gr w w' := by
  have HR : Hid _ := fun t W (hW : PrgOk W p) (hT' : Opr W) => run_any p t W hW hT'
  have HO : Hid _ := fun t W (hW : PrgOk W p) => ranOf_any p t W hW rfl
  have HK : Hid _ := fun W (hW : PrgOk W p) => asked_any p.pa p.pcap p.pool n W hW.pat hW.pok wn
  have ec : p.cells = [.slice p.ca p.code.length p.ccap, .slice p.pa p.pool.length p.pcap, .slice p.aa p.answers.length p.acap] := rfl
  rw [ec] at HR HO ⊢
  have HP : Hid _ := hp
  have HT : Hid _ := hT
  clear hp hT ec
  go_enter Tryd.func3, Tryd.ntmps3
  go_upto_region 2 with (go_at_call 4; refine (HK.out _ (HP.out.gr (by exact (Gr.refl _).alloc _))).mono ?_; rintro e w1 ⟨t, rfl, _, hw1⟩; subst w1)
  obtain ⟨W0, hW0⟩ : ∃ W0, W0 = w.alloc (Obj.cells #[.slice p.ca p.code.length p.ccap, .slice p.pa p.pool.length p.pcap, .slice p.aa p.answers.length p.acap] 26) := ⟨_, rfl⟩
  have g0 : Gr w W0 := by rw [hW0]; exact (Gr.refl _).alloc _
  have k0 : W0.heap[w.heap.size]? = some (.cells #[.slice p.ca p.code.length p.ccap, .slice p.pa p.pool.length p.pcap, .slice p.aa p.answers.length p.acap] 26) := by rw [hW0]; exact heapA w _
  have z0 : w.heap.size < W0.heap.size := by rw [hW0]; simp
  rw [← hW0]
  clear hW0
  have c0 := (row_all k0).1
  go_upto_region 3 with (go_at_call 5; refine (HR.out _ _ (HP.out.gr g0) (HT.out.gr g0)).mono ?_; rintro e w1 ⟨⟨off, sv, nm, a, cap, zs, jump⟩, rfl, hy, hyv, hg1⟩; simp only [Ans.cells])
  have gA : Gr w1 (w1.alloc (Obj.cells #[.int .i64 off, .bool sv, .string nm, .slice a zs.length cap, .int .i64 jump] 31)) := (Gr.refl _).alloc _
  have gw1 := (g0.trans hg1).trans gA
  have k1 := ((hg1.trans gA).block w.heap.size z0).trans k0
  have z1 : w1.heap.size < (w1.alloc (Obj.cells #[.int .i64 off, .bool sv, .string nm, .slice a zs.length cap, .int .i64 jump] 31)).heap.size := by simp
  obtain ⟨W1, hW1⟩ : ∃ W1, W1 = w1.alloc (Obj.cells #[.int .i64 off, .bool sv, .string nm, .slice a zs.length cap, .int .i64 jump] 31) := ⟨_, rfl⟩
  have kA : W1.heap[w1.heap.size]? = some (.cells #[.int .i64 off, .bool sv, .string nm, .slice a zs.length cap, .int .i64 jump] 31) := by rw [hW1]; exact heapA w1 _
  rw [← hW1] at gA gw1 k1 z1 ⊢
  clear hW1 c0 k0 z0 g0
  have hy1 := hy.gr gA
  have c1 := (row_all k1).1
  go_upto_region 4 with (go_at_call 6; refine (HO.out _ _ (HP.out.gr gw1)).mono ?_; rintro e w2 ⟨⟨off2, sv2, nm2, a2, cap2, zs2, jump2⟩, rfl, hy2, hyv2, hg2⟩; simp only [Ans.cells])
  have gB : Gr w2 (w2.alloc (Obj.cells #[.int .i64 off2, .bool sv2, .string nm2, .slice a2 zs2.length cap2, .int .i64 jump2] 31)) := (Gr.refl _).alloc _
  have gw2 := (gw1.trans hg2).trans gB
  have k2 := ((hg2.trans gB).block w1.heap.size z1).trans kA
  obtain ⟨W2, hW2⟩ : ∃ W2, W2 = w2.alloc (Obj.cells #[.int .i64 off2, .bool sv2, .string nm2, .slice a2 zs2.length cap2, .int .i64 jump2] 31) := ⟨_, rfl⟩
  have kB : W2.heap[w2.heap.size]? = some (.cells #[.int .i64 off2, .bool sv2, .string nm2, .slice a2 zs2.length cap2, .int .i64 jump2] 31) := by rw [hW2]; exact heapA w2 _
  rw [← hW2] at gB gw2 k2 ⊢
  have hyA := hy1.gr (hg2.trans gB)
  have hyB := hy2.gr gB
  have Hy2 : Hid _ := same_of_val (hyv.trans hyv2.symm)
  obtain ⟨cA, _⟩ := row_all k2
  obtain ⟨cB, _⟩ := row_all kB
  clear hW2 c1 k1 kA k2 kB z1 hyv hyv2 hy hy1 hy2 hg1 hg2 gA gB HR HO HK
  go_wp2_with (go_at_call 7; refine (sameAnswer_any ⟨off, sv, nm, a, cap, zs, jump⟩ ⟨off2, sv2, nm2, a2, cap2, zs2, jump2⟩ _ hyA hyB).mono ?_; rintro e w4 ⟨rfl, hg4⟩)
  go_ret
  exact ⟨ret_bool Hy2.out, gw2.trans hg4⟩
theorem codeRuns_own : ownKnob Tryd.prog.godebug = none := by kernel_rfl
theorem codeRuns_laidOut : laidOutB Tryd.prog = true := by kernel_rfl
theorem codeRuns_rec : ∀ t ∈ Tryd.f3.params.toList, Tryd.prog.readableRec t = true ∧ t < Tryd.prog.types.size := by
  rw [Tryd.params3]
  intro t ht
  simp only [List.mem_cons, List.not_mem_nil, or_false] at ht
  rcases ht with rfl | rfl
  all_goals exact ⟨by kernel_rfl, of_decide_eq_true (by kernel_rfl)⟩
theorem codeRuns_opr {W : World} (h : laidMetH Tryd.prog Rows.codeRunsRow.laid W) : Opr W := opr_of_laid (rest := []) h
/-- A world for the witness: the settled one, the table holding what its initialiser lays. -/
def laidHeap (w : World) : World := { w with heap := w.heap.modify 0 fun
    | .cells _ t frozen => .cells #[.string ⟨#[97, 114, 103]⟩, .int .i64 0, .int .i64 1, .bool false, .string ⟨#[112, 117, 115, 104]⟩, .int .i64 0, .int .i64 1, .bool true, .string ⟨#[108, 101, 115, 115]⟩, .int .i64 2, .int .i64 1, .bool false, .string ⟨#[115, 107, 105, 112]⟩, .int .i64 1, .int .i64 0, .bool true, .string ⟨#[103, 111]⟩, .int .i64 0, .int .i64 0, .bool true, .string ⟨#[116, 101, 108, 108]⟩, .int .i64 0, .int .i64 0, .bool true] t frozen
    | o => o }
theorem codeRuns_met (os : Os) : laidMet Tryd.prog Rows.codeRunsRow.laid ((laidHeap (World.holding Tryd.prog os ⟨#[], #[], []⟩)).forCall (fun _ _ => 0) ⟨#[], #[.agg #[.slice none 0 0, .slice none 0 0, .slice none 0 0], .int .i64 0], []⟩).memory :=
  laidMet_of_run' 8 (by kernel_rfl) (by kernel_rfl)
theorem codeRuns_reads (os : Os) {H : Type} (enc : TypeId × Value → H) : ∃ places, DataW.whole enc Tryd.prog ((laidHeap (World.holding Tryd.prog os ⟨#[], #[], []⟩)).forCall (fun _ _ => 0) ⟨#[], #[.agg #[.slice none 0 0, .slice none 0 0, .slice none 0 0], .int .i64 0], []⟩).memory Tryd.f3.params.toList Rows.codeRunsSpec.vars false (#[.agg #[.slice none 0 0, .slice none 0 0, .slice none 0 0], .int .i64 0] : Array Value).toList 8 = some ([.agg [.nil, .nil, .nil], .lit (.int .i64 0)], [], places) :=
  ⟨[], by kernel_rfl⟩
theorem codeRuns_contract (H : Type) (enc : TypeId × Value → H) (W : World) (base : Nat) (args : Array Value) (ds gs : List (DataW H)) (before : List MemPlace)
    (hval : ∀ (j : Nat) t v, Tryd.f3.params[j]? = some t → args[j]? = some v → Value.okWide Tryd.prog W .any base t v)
    (hW : DataW.Whole enc Tryd.prog Tryd.f3.params.toList Rows.codeRunsSpec.vars false W args.toList ds gs before) (hL : laidMetH Tryd.prog Rows.codeRunsRow.laid W) :
    Calls Tryd.prog 3 args W fun e W' => ∃ v, e = .returned v ∧ Rows.codeRunsSpec.post enc Tryd.prog Tryd.f3 false true false false W args v W' := by
  have hW' := hW
  obtain ⟨p, q, hA0, hV, rfl, hfz, hnd⟩ := hW
  have hA : DataW.TrodAll enc Tryd.prog W 0 (fun _ => true) true Tryd.f3.params.toList args.toList ds p := hA0
  have hAk := hA
  rw [Tryd.params3] at hA hval
  obtain ⟨v0, vs0, d0, ds0, p0, q0, hargs, rfl, rfl, h0, r0⟩ := trodAll_cons hA
  obtain ⟨v1, vs1, d1, ds1, p1, q1, rfl, rfl, rfl, h1, r1⟩ := trodAll_cons r0
  obtain ⟨rfl, rfl, rfl⟩ := trodAll_nil r1
  obtain rfl : args = #[v0, v1] := by cases args; simp_all
  obtain ⟨rfl, rfl⟩ := trodVars_none hV
  obtain ⟨x0, rfl, f0⟩ := open_program (hval 0 26 v0 rfl rfl) h0
  obtain ⟨x1, rfl, _, _, f1⟩ := open_int Tryd.underlying3 (hval 1 3 v1 rfl rfl) h1
  clear hA0
  refine (codeRuns_at x0 x1 W f0 f1 (codeRuns_opr hL)).mono fun e W' ⟨he, hg⟩ => ?_
  subst he
  refine ⟨_, rfl, _, _, _, [], _, [], hW', ?_, gr_trodAll codeRuns_laidOut hg codeRuns_rec hAk (fun x hx => hW'.lt x (List.mem_append_left _ hx)) (fun x hx => by simpa using hW'.lt x (List.mem_append_left _ hx)), ?_, hg.frame _, fun h => by cases h⟩
  · exact trodAll_cons_mk (shut_bool Tryd.underlying4 _) trodAll_mk0
  · rfl
set_option maxRecDepth 100000 in
theorem codeRuns_lifted (os : Os) (started : os.Started) (H : Type) (enc : TypeId × Value → H) (F : Stop.Interp) :
    ReturnsInHanded {} Tryd.checked os 3 .any ((OpenSpec.ofChange Rows.codeRunsSpec).preRow enc Tryd.prog Tryd.f3 Rows.codeRunsRow.domain false Rows.codeRunsRow.laid) (((OpenSpec.ofChange Rows.codeRunsSpec).at F).post enc Tryd.prog Tryd.f3 false true false false) := by
  obtain ⟨places, hx⟩ := codeRuns_reads os enc
  refine returnsInHanded_of_row (C := Tryd.checked) (s := OpenSpec.ofChange Rows.codeRunsSpec) codeRuns_own started (by kernel_rfl) Tryd.func3
    (witness_row_at (enc := enc) (C := Tryd.checked) false (laidHeap (World.holding Tryd.prog os ⟨#[], #[], []⟩)) #[.agg #[.slice none 0 0, .slice none 0 0, .slice none 0 0], .int .i64 0] rfl (by kernel_rfl) (by kernel_rfl) (by kernel_rfl)
      (OpenSpec.preRow_of_cond 8 hx (by kernel_rfl) (fun k hk => by cases hk) (by kernel_rfl) (codeRuns_met os))) ?_
  intro W base args ds gs before hval hW _ _ _ hL _ _
  exact codeRuns_contract H enc W base args ds gs before hval hW hL
theorem codeRuns_said : Rows.CodeRunsSaid :=
  OpenClaim.holds_of_cond 3 Tryd.f3 rfl rfl rfl rfl rfl rfl rfl ⟨rfl, rfl, rfl, rfl, rfl⟩ rfl rfl rfl rfl rfl (by kernel_rfl) Tryd.func3 (by kernel_rfl)
    (of_decide_eq_true (by kernel_rfl)) (by unfold Func.isWrapper; first | (rw [if_pos (by decide +kernel)]; kernel_rfl) | (rw [if_neg (by decide +kernel)]; exact ⟨rfl, rfl⟩))
    (fun os started H enc _ F => by rw [OpenClaim.pre_eq_preRow]; exact codeRuns_lifted os started H enc F)
theorem codeRuns_plain (f : FuncId) (fn : Func) (hf : Tryd.pinned.checked.prog.funcNamed "sundial/sundiallaw.CodeRuns" = some f) (hfn : Tryd.pinned.checked.prog.funcs[f]? = some fn) :
    false = Tryd.pinned.checked.prog.looks [] ∧ ∀ (j : Nat) t, fn.params[j]? = some t → Tryd.pinned.checked.prog.wantsStandIn t = false := by
  obtain rfl : f = 3 := Option.some.inj ((show Tryd.prog.funcNamed "sundial/sundiallaw.CodeRuns" = some 3 by kernel_rfl).symm.trans hf) |>.symm
  obtain rfl : fn = Tryd.f3 := (Option.some.inj (Tryd.func3.symm.trans hfn)).symm
  refine ⟨by kernel_rfl, fun j t ht => ?_⟩
  rw [Tryd.params3] at ht
  have hm : t = 26 ∨ t = 3 := by have h := Array.mem_of_getElem? ht; simp at h; first | simpa using h | (rcases h with h | h | h | h <;> simp [h]) | (rcases h with h | h | h <;> simp [h])
  rcases hm with rfl | rfl
  · exact (show Tryd.prog.wantsStandIn 26 = false by kernel_rfl)
  · exact (show Tryd.prog.wantsStandIn 3 = false by kernel_rfl)
/-- The card. -/
theorem codeRuns_card : Rows.CodeRunsCardSaid :=
  Claim7.holds_tied_plain_at .later [] _ _ _ _ codeRuns_said (fun _ h => by cases h) (by kernel_rfl) (fun _ h => by cases h) codeRuns_row_tie rfl ⟨rfl, rfl⟩ (by kernel_rfl) rfl codeRuns_plain (by kernel_rfl)
#print axioms codeRuns_card
end Go.Proofs.YtjjibpicahnncaaDoor
