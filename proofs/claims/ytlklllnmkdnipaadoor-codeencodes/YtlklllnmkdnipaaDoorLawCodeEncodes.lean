/- Proved: at every api.Program the law CodeEncodes returns true: code.Encode answers as the document's answer does. The table code.operators holds what its initialiser lays (tied to the program's text by the card). -/
import Derived.Test.YtlklllnmkdnipaaDoorCards
import Derived.Test.YtlklllnmkdnipaaDoorTie
import Derived.Test.YtlklllnmkdnipaaDoorEncR
import Derived.Test.YtlklllnmkdnipaaDoorEncS
import Derived.Test.YtlklllnmkdnipaaDoorOprL
import Derived.Test.YtlklllnmkdnipaaDoorOpnZ
import Derived.Test.YtlklllnmkdnipaaDoorOpnP
import Derived.WalkKit
import Derived.ProofKit
import Derived.OpenShut
import Derived.Deep.DeepHandedRow
import Derived.Lib.LaidTab
namespace Go.Proofs.YtlklllnmkdnipaaDoor
open Go.ChangeShapes Go.WideShapes Go.ChangeAt Go.RowKit
set_option linter.unusedVariables false
set_option maxHeartbeats 1600000 in
theorem codeEncodes_at (p : Prg) (w : World) (hp : PrgOk w p) (hT : Opr w) :
    Calls Tryd.prog 3 #[.agg p.cells.toArray] w fun e w' => e = .returned (.bool true) ∧ Gr w w' := by
  have HE : Hid _ := fun W (hW : PrgOk W p) (hT' : Opr W) => encode_any p W hW hT'
  have HO : Hid _ := fun W (hW : PrgOk W p) => bytesOf_any p W hW
  have ec : p.cells = [.slice p.ca p.code.length p.ccap, .slice p.pa p.pool.length p.pcap, .slice p.aa p.answers.length p.acap] := rfl
  rw [ec] at HE HO ⊢
  have hB := Bytes.encB p
  clear ec
  go_enter Tryd.func3, Tryd.ntmps3
  go_upto_region 2 with (go_at_call 6; refine (HE.out _ (hp.gr (by exact (Gr.refl _).alloc _)) (hT.gr (by exact (Gr.refl _).alloc _))).mono ?_; rintro e w1 ⟨v1, rfl, ho1, hg1⟩)
  have k1 := (hg1.block w.heap.size (by simp)).trans (heapA w _)
  have c1 := (row_all k1).1
  have gw1 : Gr w w1 := ((Gr.refl _).alloc _).trans hg1
  have hP1 := hp.gr gw1
  clear k1
  go_upto_region 3 with (go_at_call 7; refine (HO.out _ hP1).mono ?_; rintro e w2 ⟨v2, rfl, ho2, hg2⟩)
  have r1 := run_bst (ho1.gr hg2) hB
  have r2 := run_bst ho2 hB
  obtain ⟨a1, k1, e1⟩ := OwnX.form (Or.inl ho1)
  obtain ⟨a2, k2, e2⟩ := OwnX.form (Or.inl ho2)
  subst e1
  subst e2
  clear ho1 ho2 HE HO c1
  obtain ⟨ev, hev⟩ : ∃ ev, ev = (Ver.verify p).2.2 := ⟨_, rfl⟩
  rw [← hev]
  obtain ⟨E, hE⟩ : ∃ E, E = bst (encB p) := ⟨_, rfl⟩
  rw [← hE] at r1 r2
  clear hev hE hB
  go_wp2
  go_ret
  exact ⟨ret_bool (by simp), gw1.trans hg2⟩
theorem codeEncodes_own : ownKnob Tryd.prog.godebug = none := by kernel_rfl
theorem codeEncodes_laidOut : laidOutB Tryd.prog = true := by kernel_rfl
theorem codeEncodes_rec : ∀ t ∈ Tryd.f3.params.toList, Tryd.prog.readableRec t = true ∧ t < Tryd.prog.types.size := by
  rw [Tryd.params3]
  intro t ht
  simp only [List.mem_cons, List.not_mem_nil, or_false] at ht
  rcases ht with rfl
  all_goals exact ⟨by kernel_rfl, of_decide_eq_true (by kernel_rfl)⟩
theorem codeEncodes_opr {W : World} (h : laidMetH Tryd.prog Rows.codeEncodesRow.laid W) : Opr W := opr_of_laid (rest := []) h
/-- A world for the witness: the settled one, the table holding what its initialiser lays. -/
def laidHeap (w : World) : World := { w with heap := w.heap.modify 0 fun
    | .cells _ t frozen => .cells #[.string ⟨#[97, 114, 103]⟩, .int .i64 0, .int .i64 1, .bool false, .string ⟨#[112, 117, 115, 104]⟩, .int .i64 0, .int .i64 1, .bool true, .string ⟨#[108, 101, 115, 115]⟩, .int .i64 2, .int .i64 1, .bool false, .string ⟨#[115, 107, 105, 112]⟩, .int .i64 1, .int .i64 0, .bool true, .string ⟨#[103, 111]⟩, .int .i64 0, .int .i64 0, .bool true, .string ⟨#[116, 101, 108, 108]⟩, .int .i64 0, .int .i64 0, .bool true] t frozen
    | o => o }
theorem codeEncodes_met (os : Os) : laidMet Tryd.prog Rows.codeEncodesRow.laid ((laidHeap (World.holding Tryd.prog os ⟨#[], #[], []⟩)).forCall (fun _ _ => 0) ⟨#[], #[.agg #[.slice none 0 0, .slice none 0 0, .slice none 0 0]], []⟩).memory :=
  laidMet_of_run' 8 (by kernel_rfl) (by kernel_rfl)
theorem codeEncodes_reads (os : Os) {H : Type} (enc : TypeId × Value → H) : ∃ places, DataW.whole enc Tryd.prog ((laidHeap (World.holding Tryd.prog os ⟨#[], #[], []⟩)).forCall (fun _ _ => 0) ⟨#[], #[.agg #[.slice none 0 0, .slice none 0 0, .slice none 0 0]], []⟩).memory Tryd.f3.params.toList Rows.codeEncodesSpec.vars false (#[.agg #[.slice none 0 0, .slice none 0 0, .slice none 0 0]] : Array Value).toList 8 = some ([.agg [.nil, .nil, .nil]], [], places) :=
  ⟨[], by kernel_rfl⟩
theorem codeEncodes_contract (H : Type) (enc : TypeId × Value → H) (W : World) (base : Nat) (args : Array Value) (ds gs : List (DataW H)) (before : List MemPlace)
    (hval : ∀ (j : Nat) t v, Tryd.f3.params[j]? = some t → args[j]? = some v → Value.okWide Tryd.prog W .any base t v)
    (hW : DataW.Whole enc Tryd.prog Tryd.f3.params.toList Rows.codeEncodesSpec.vars false W args.toList ds gs before) (hL : laidMetH Tryd.prog Rows.codeEncodesRow.laid W) :
    Calls Tryd.prog 3 args W fun e W' => ∃ v, e = .returned v ∧ Rows.codeEncodesSpec.post enc Tryd.prog Tryd.f3 false true false false W args v W' := by
  have hW' := hW
  obtain ⟨p, q, hA0, hV, rfl, hfz, hnd⟩ := hW
  have hA : DataW.TrodAll enc Tryd.prog W 0 (fun _ => true) true Tryd.f3.params.toList args.toList ds p := hA0
  have hAk := hA
  rw [Tryd.params3] at hA hval
  obtain ⟨v0, vs0, d0, ds0, p0, q0, hargs, rfl, rfl, h0, r0⟩ := trodAll_cons hA
  obtain ⟨rfl, rfl, rfl⟩ := trodAll_nil r0
  obtain rfl : args = #[v0] := by cases args; simp_all
  obtain ⟨rfl, rfl⟩ := trodVars_none hV
  obtain ⟨x0, rfl, f0⟩ := open_program (hval 0 26 v0 rfl rfl) h0
  clear hA0
  refine (codeEncodes_at x0 W f0 (codeEncodes_opr hL)).mono fun e W' ⟨he, hg⟩ => ?_
  subst he
  refine ⟨_, rfl, _, _, _, [], _, [], hW', ?_, gr_trodAll codeEncodes_laidOut hg codeEncodes_rec hAk (fun x hx => hW'.lt x (List.mem_append_left _ hx)) (fun x hx => by simpa using hW'.lt x (List.mem_append_left _ hx)), ?_, hg.frame _, fun h => by cases h⟩
  · exact trodAll_cons_mk (shut_bool Tryd.underlying4 _) trodAll_mk0
  · rfl
set_option maxRecDepth 100000 in
theorem codeEncodes_lifted (os : Os) (started : os.Started) (H : Type) (enc : TypeId × Value → H) (F : Stop.Interp) :
    ReturnsInHanded {} Tryd.checked os 3 .any ((OpenSpec.ofChange Rows.codeEncodesSpec).preRow enc Tryd.prog Tryd.f3 Rows.codeEncodesRow.domain false Rows.codeEncodesRow.laid) (((OpenSpec.ofChange Rows.codeEncodesSpec).at F).post enc Tryd.prog Tryd.f3 false true false false) := by
  obtain ⟨places, hx⟩ := codeEncodes_reads os enc
  refine returnsInHanded_of_row (C := Tryd.checked) (s := OpenSpec.ofChange Rows.codeEncodesSpec) codeEncodes_own started (by kernel_rfl) Tryd.func3
    (witness_row_at (enc := enc) (C := Tryd.checked) false (laidHeap (World.holding Tryd.prog os ⟨#[], #[], []⟩)) #[.agg #[.slice none 0 0, .slice none 0 0, .slice none 0 0]] rfl (by kernel_rfl) (by kernel_rfl) (by kernel_rfl)
      (OpenSpec.preRow_of_cond 8 hx (by kernel_rfl) (fun k hk => by cases hk) (by kernel_rfl) (codeEncodes_met os))) ?_
  intro W base args ds gs before hval hW _ _ _ hL _ _
  exact codeEncodes_contract H enc W base args ds gs before hval hW hL
theorem codeEncodes_said : Rows.CodeEncodesSaid :=
  OpenClaim.holds_of_cond 3 Tryd.f3 rfl rfl rfl rfl rfl rfl rfl ⟨rfl, rfl, rfl, rfl, rfl⟩ rfl rfl rfl rfl rfl (by kernel_rfl) Tryd.func3 (by kernel_rfl)
    (of_decide_eq_true (by kernel_rfl)) (by unfold Func.isWrapper; first | (rw [if_pos (by decide +kernel)]; kernel_rfl) | (rw [if_neg (by decide +kernel)]; exact ⟨rfl, rfl⟩))
    (fun os started H enc _ F => by rw [OpenClaim.pre_eq_preRow]; exact codeEncodes_lifted os started H enc F)
theorem codeEncodes_plain (f : FuncId) (fn : Func) (hf : Tryd.pinned.checked.prog.funcNamed "sundial/sundiallaw.CodeEncodes" = some f) (hfn : Tryd.pinned.checked.prog.funcs[f]? = some fn) :
    false = Tryd.pinned.checked.prog.looks [] ∧ ∀ (j : Nat) t, fn.params[j]? = some t → Tryd.pinned.checked.prog.wantsStandIn t = false := by
  obtain rfl : f = 3 := Option.some.inj ((show Tryd.prog.funcNamed "sundial/sundiallaw.CodeEncodes" = some 3 by kernel_rfl).symm.trans hf) |>.symm
  obtain rfl : fn = Tryd.f3 := (Option.some.inj (Tryd.func3.symm.trans hfn)).symm
  refine ⟨by kernel_rfl, fun j t ht => ?_⟩
  rw [Tryd.params3] at ht
  have hm : t = 26 := by have h := Array.mem_of_getElem? ht; simp at h; first | simpa using h | (rcases h with h | h | h | h <;> simp [h]) | (rcases h with h | h | h <;> simp [h])
  rcases hm with rfl
  exact (show Tryd.prog.wantsStandIn 26 = false by kernel_rfl)
/-- The card. -/
theorem codeEncodes_card : Rows.CodeEncodesCardSaid :=
  Claim7.holds_tied_plain_at .later [] _ _ _ _ codeEncodes_said (fun _ h => by cases h) (by kernel_rfl) (fun _ h => by cases h) codeEncodes_row_tie rfl ⟨rfl, rfl⟩ (by kernel_rfl) rfl codeEncodes_plain (by kernel_rfl)
#print axioms codeEncodes_card
end Go.Proofs.YtlklllnmkdnipaaDoor
