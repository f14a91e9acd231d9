/- Proved: at every api.Forest the law TreeChecks returns true: tree.Check answers as the document's answer does. No condition. -/
import Derived.Test.YtgckfbpmpefcfaaTreN
import Derived.Test.YtgckfbpmpefcfaaTreO
import Derived.Test.YtgckfbpmpefcfaaOpnT
namespace Go.Proofs.Ytgckfbpmpefcfaa
open Go.ChangeShapes Go.WideShapes Go.ChangeAt Go.RowKit
set_option linter.unusedVariables false
theorem treeChecks_walk (x : Fst) (w : World) (hx : FstOk w x) :
    Calls Try.prog 4 #[.agg x.cells.toArray] w fun e w' => e = .returned (.bool true) ∧ Grown w w' := by
  obtain ⟨na, ncap, nodes, aa, acap, answers⟩ := x
  simp only [Fst.cells]
  go_enter Try.func4, Try.ntmps4
  go_wp2_with (first
    | (go_at_call 8; refine (check_any ⟨na, ncap, nodes, aa, acap, answers⟩ _ (hx.grown (by exact (Grown.refl _).alloc _ _))).mono ?_; rintro e w1 ⟨rfl, hg1⟩; obtain ⟨hc1, hz1⟩ := gcell hg1)
    | (go_at_call 9; refine (forestFault_any ⟨na, ncap, nodes, aa, acap, answers⟩ _ (hx.grown (by exact Grown_trans ((Grown.refl _).alloc _ _) hg1))).mono ?_; rintro e w2 ⟨rfl, hg2⟩))
  go_ret
  exact ⟨ret_bool (by simp), Grown_trans (Grown_trans ((Grown.refl _).alloc _ _) hg1) hg2⟩

theorem treeChecks_own : ownKnob Try.prog.godebug = none := by kernel_rfl
theorem treeChecks_laidOut : laidOutB Try.prog = true := by kernel_rfl
theorem treeChecks_rec : ∀ t ∈ Try.f4.params.toList, Try.prog.readableRec t = true ∧ t < Try.prog.types.size := by
  rw [Try.params4]
  intro t ht
  simp only [List.mem_cons, List.not_mem_nil, or_false] at ht
  rcases ht with rfl
  all_goals exact ⟨by kernel_rfl, of_decide_eq_true (by kernel_rfl)⟩
set_option maxRecDepth 100000 in
theorem treeChecks_lifted (os : Os) (started : os.Started) (H : Type) (enc : TypeId × Value → H) :
    ReturnsInHanded {} Try.checked os 4 .any (Rows.treeChecksSpec.pre6 enc Try.prog Try.f4 Rows.treeChecksRow.domain false) (Rows.treeChecksSpec.post enc Try.prog Try.f4 false true false false) := by
  refine returnsInHanded_of_change (C := Try.checked) treeChecks_own started (by kernel_rfl) Try.func4
    (ChangeSpec.witness6 (enc := enc) (C := Try.checked) false ⟨#[], #[.agg #[.slice none 0 0, .slice none 0 0]], []⟩ 8 (by kernel_rfl) (by kernel_rfl) (by kernel_rfl) (by kernel_rfl)) ?_
  intro W base args ds gs before hval0 hW hcnd _
  have hval : ∀ (j : Nat) t v, Try.f4.params[j]? = some t → args[j]? = some v → Value.okWide Try.prog W .any base t v := hval0
  have hW' := hW
  obtain ⟨p, q, hA0, hV, rfl, hfz, hnd⟩ := hW
  have hA : DataW.TrodAll enc Try.prog W 0 (fun _ => true) true Try.f4.params.toList args.toList ds p := hA0
  have hAk := hA
  rw [Try.params4] at hA hval
  obtain ⟨v0, vs0, d0, ds0, p0, q0, hargs, rfl, rfl, h0, r0⟩ := trodAll_cons hA
  obtain ⟨rfl, rfl, rfl⟩ := trodAll_nil r0
  obtain rfl : args = #[v0] := by cases args; simp_all
  obtain ⟨rfl, rfl⟩ := trodVars_none hV
  obtain ⟨x0, rfl, f0⟩ := open_forest (hval 0 33 v0 rfl rfl) h0
  clear hA0 hval0
  refine (treeChecks_walk x0 W f0).mono fun e W' ⟨he, hg⟩ => ?_
  subst he
  exact ⟨_, rfl, post_of_same (pv := []) hW' (fun _ _ _ => (trodAll_cons_mk (shut_bool Try.underlying4 _) trodAll_mk0))
    (fun sp hsp => grown_trodAll treeChecks_laidOut hg treeChecks_rec hAk (fun x hx => hW'.lt x (List.mem_append_left _ hx)) (fun x hx => hsp x (List.mem_append_left _ hx))) (fun _ _ => rfl) rfl
    (hg.frame _) hg.2.1 (ok_one (by kernel_rfl) rfl (okWide_bool_mk Try.underlying4 _))⟩

theorem treeChecks_holds : Rows.TreeChecksSaid :=
  OpenClaim.holds_of_wide 4 Try.f4 rfl rfl rfl rfl rfl rfl rfl ⟨rfl, rfl, rfl, rfl, rfl⟩ rfl rfl rfl rfl rfl (by kernel_rfl) Try.func4 (by kernel_rfl)
    (of_decide_eq_true (by kernel_rfl)) (by unfold Func.isWrapper; first | (rw [if_pos (by decide +kernel)]; kernel_rfl) | (rw [if_neg (by decide +kernel)]; exact ⟨rfl, rfl⟩))
    (fun os started H enc _ => treeChecks_lifted os started H enc)
#print axioms treeChecks_holds
end Go.Proofs.Ytgckfbpmpefcfaa
