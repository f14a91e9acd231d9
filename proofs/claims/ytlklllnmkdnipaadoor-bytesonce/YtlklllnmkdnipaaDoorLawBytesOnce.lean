/- Proved: at every slice of bytes the law BytesOnce returns true: what code.Decode takes is what code.Encode tells of it. The table code.operators holds what its initialiser lays (tied to the program's text by the card). -/
import Derived.Test.YtlklllnmkdnipaaDoorCards
import Derived.Test.YtlklllnmkdnipaaDoorTie
import Derived.Test.YtlklllnmkdnipaaDoorDecD
import Derived.Test.YtlklllnmkdnipaaDoorRndM
import Derived.Test.YtlklllnmkdnipaaDoorOprL
import Derived.Test.YtlklllnmkdnipaaDoorOpnZ
import Derived.Test.YtlklllnmkdnipaaDoorOpnB
import Derived.WalkKit
import Derived.ProofKit
import Derived.OpenShut
import Derived.Deep.DeepHandedRow
import Derived.Lib.LaidTab
namespace Go.Proofs.YtlklllnmkdnipaaDoor
open Go.ChangeShapes Go.WideShapes Go.ChangeAt Go.RowKit
set_option linter.unusedVariables false
theorem ansV_val (x : Ans) : Dec.ansV x.val = Enc.answer x := rfl
theorem progV_val (p : Prg) : Dec.progV p.val = Enc.prog p := by
  unfold Dec.progV Enc.prog Prg.val
  simp only [List.length_map, List.flatMap_map]
  rfl
/-- Bytes that are taken are those of the program that they tell. -/
theorem once {l : List Int} (hb : ∀ z ∈ l, 0 ≤ z ∧ z ≤ 255) {p : Prg} (hp : p.val = decV l) (h : decE l = 0) : (Ver.verify p).2.2 = 0 ∧ encB p = l := by
  have hl : ¬ 200000 < l.length := fun hh => by rw [decE_long hh] at h; cases h
  have hd : (Dec.prog l).2.2 = 0 := by
    by_cases hh : (Dec.prog l).2.2 = 0
    · exact hh
    · rw [decE_bad hl hh] at h; exact h
  have hv : decV l = (Dec.prog l).1 := if_pos h
  rw [decE_ok hl hd, ← hv, ← hp, verify_val] at h
  refine ⟨h, ?_⟩
  rw [encB, if_pos h, ← progV_val, hp, hv]
  exact (Dec.prog_bk hb hd).symm
theorem bst_same (l : List Int) : Dec.bst l = bst l := rfl
set_option maxHeartbeats 1600000 in
theorem bytesOnce_at (x : Bya) (w : World) (hx : ByaOk w x) (hT : Opr w) :
    Calls Tryd.prog 5 #[.slice x.a x.l.length x.cap] w fun e w' => e = .returned (.bool true) ∧ Gr w w' := by
  obtain ⟨a, cap, l⟩ := x
  have h1 := hx.cap
  have h2 := hx.cap2
  have h3 := hx.at_
  have h4 := hx.byt
  simp only at h1 h2 h3 h4 ⊢
  have HD : Hid _ := fun (_ : Unit) => decode_any l a cap w h3 h4 h1 h2 hT
  have HO : Hid _ := fun p (hp : Prg.val p = decV l) (h : decE l = 0) => once h4 hp h
  have HV : Hid (decE l ≠ 0 → decV l = ([], [], [])) := fun h => if_neg h
  clear hx
  go_enter Tryd.func5, Tryd.ntmps5
  go_upto_region 2 with (go_at_call 8; refine (HD.out ()).mono ?_; rintro en w1 ⟨⟨⟨ca, ccap, code, pa, pcap, pool, aa, acap, ans⟩, rfl, hp1, hpv⟩, hg1⟩; simp only [Prg.cells])
  clear HD
  obtain ⟨X, hX⟩ : ∃ X, X = w1.alloc (Obj.cells #[.slice ca code.length ccap, .slice pa pool.length pcap, .slice aa ans.length acap] 26) := ⟨_, rfl⟩
  have gX : Gr w1 X := by rw [hX]; exact (Gr.refl _).alloc _
  have kX : X.heap[w1.heap.size]? = some (.cells #[.slice ca code.length ccap, .slice pa pool.length pcap, .slice aa ans.length acap] 26) := by rw [hX]; exact heapA _ _
  have gwX := hg1.trans gX
  have hPX := hp1.gr gX
  rw [← hX]
  obtain ⟨cx, fx⟩ := row_all kX
  clear hX kX gX hp1 hg1
  by_cases he : decE l = 0
  · obtain ⟨hv1, hv2⟩ := HO.out _ hpv he
    have HE : Hid _ := fun W' (hW : PrgOk W' ⟨ca, ccap, code, pa, pcap, pool, aa, acap, ans⟩) (ht : Opr W') => encode_any ⟨ca, ccap, code, pa, pcap, pool, aa, acap, ans⟩ W' hW ht
    have r1 := fun W' (hg : Gr w W') => run_bstA (cap := cap) h3 hg h4
    have hTX := hT.gr gwX
    have hby : Bytes l := ⟨h4⟩
    simp only [Prg.cells] at HE
    clear HO HV hpv
    go_upto_region 5 with (go_at_call 6; refine (HE.out _ hPX hTX).mono ?_; rintro en w2 ⟨v2, rfl, ho2, hg2⟩)
    rw [hv2] at ho2
    have r2 := run_bst ho2 hby
    have r1' := r1 w2 (gwX.trans hg2)
    rw [bst_same] at r1'
    obtain ⟨a2, k2, e2⟩ := OwnX.form (Or.inl ho2)
    subst e2
    obtain ⟨E, hE⟩ : ∃ E, E = bst l := ⟨_, rfl⟩
    rw [← hE] at r1' r2
    clear r1 HE hE hby ho2 cx fx h3 h4 hv2
    go_wp2
    go_ret
    exact ⟨ret_bool (by simp), gwX.trans hg2⟩
  · have hcd : code = [] := by
      have := hpv.trans (HV.out he)
      simp only [Prg.val, Prod.mk.injEq] at this
      exact this.1
    subst hcd
    have g1 : (decE l != 0) = true := by simpa using he
    clear HO HV hpv
    go_wp2
    go_ret
    exact ⟨ret_bool (by simp), gwX⟩
theorem bytesOnce_own : ownKnob Tryd.prog.godebug = none := by kernel_rfl
theorem bytesOnce_laidOut : laidOutB Tryd.prog = true := by kernel_rfl
theorem bytesOnce_rec : ∀ t ∈ Tryd.f5.params.toList, Tryd.prog.readableRec t = true ∧ t < Tryd.prog.types.size := by
  rw [Tryd.params5]
  intro t ht
  simp only [List.mem_cons, List.not_mem_nil, or_false] at ht
  rcases ht with rfl
  all_goals exact ⟨by kernel_rfl, of_decide_eq_true (by kernel_rfl)⟩
theorem bytesOnce_opr {W : World} (h : laidMetH Tryd.prog Rows.bytesOnceRow.laid W) : Opr W := opr_of_laid (rest := []) h
/-- A world for the witness: the settled one, the table holding what its initialiser lays. -/
def laidHeap (w : World) : World := { w with heap := w.heap.modify 0 fun
    | .cells _ t frozen => .cells #[.string ⟨#[97, 114, 103]⟩, .int .i64 0, .int .i64 1, .bool false, .string ⟨#[112, 117, 115, 104]⟩, .int .i64 0, .int .i64 1, .bool true, .string ⟨#[108, 101, 115, 115]⟩, .int .i64 2, .int .i64 1, .bool false, .string ⟨#[115, 107, 105, 112]⟩, .int .i64 1, .int .i64 0, .bool true, .string ⟨#[103, 111]⟩, .int .i64 0, .int .i64 0, .bool true, .string ⟨#[116, 101, 108, 108]⟩, .int .i64 0, .int .i64 0, .bool true] t frozen
    | o => o }
theorem bytesOnce_met (os : Os) : laidMet Tryd.prog Rows.bytesOnceRow.laid ((laidHeap (World.holding Tryd.prog os ⟨#[], #[], []⟩)).forCall (fun _ _ => 0) ⟨#[], #[.slice none 0 0], []⟩).memory :=
  laidMet_of_run' 8 (by kernel_rfl) (by kernel_rfl)
theorem bytesOnce_reads (os : Os) {H : Type} (enc : TypeId × Value → H) : ∃ places, DataW.whole enc Tryd.prog ((laidHeap (World.holding Tryd.prog os ⟨#[], #[], []⟩)).forCall (fun _ _ => 0) ⟨#[], #[.slice none 0 0], []⟩).memory Tryd.f5.params.toList Rows.bytesOnceSpec.vars false (#[.slice none 0 0] : Array Value).toList 8 = some ([.nil], [], places) :=
  ⟨[], by kernel_rfl⟩
theorem bytesOnce_contract (H : Type) (enc : TypeId × Value → H) (W : World) (base : Nat) (args : Array Value) (ds gs : List (DataW H)) (before : List MemPlace)
    (hval : ∀ (j : Nat) t v, Tryd.f5.params[j]? = some t → args[j]? = some v → Value.okWide Tryd.prog W .any base t v)
    (hW : DataW.Whole enc Tryd.prog Tryd.f5.params.toList Rows.bytesOnceSpec.vars false W args.toList ds gs before) (hL : laidMetH Tryd.prog Rows.bytesOnceRow.laid W) :
    Calls Tryd.prog 5 args W fun e W' => ∃ v, e = .returned v ∧ Rows.bytesOnceSpec.post enc Tryd.prog Tryd.f5 false true false false W args v W' := by
  have hW' := hW
  obtain ⟨p, q, hA0, hV, rfl, hfz, hnd⟩ := hW
  have hA : DataW.TrodAll enc Tryd.prog W 0 (fun _ => true) true Tryd.f5.params.toList args.toList ds p := hA0
  have hAk := hA
  rw [Tryd.params5] at hA hval
  obtain ⟨v0, vs0, d0, ds0, p0, q0, hargs, rfl, rfl, h0, r0⟩ := trodAll_cons hA
  obtain ⟨rfl, rfl, rfl⟩ := trodAll_nil r0
  obtain rfl : args = #[v0] := by cases args; simp_all
  obtain ⟨rfl, rfl⟩ := trodVars_none hV
  obtain ⟨x0, rfl, f0⟩ := open_bytes (hval 0 27 v0 rfl rfl) h0
  clear hA0
  refine (bytesOnce_at x0 W f0 (bytesOnce_opr hL)).mono fun e W' ⟨he, hg⟩ => ?_
  subst he
  refine ⟨_, rfl, _, _, _, [], _, [], hW', ?_, gr_trodAll bytesOnce_laidOut hg bytesOnce_rec hAk (fun x hx => hW'.lt x (List.mem_append_left _ hx)) (fun x hx => by simpa using hW'.lt x (List.mem_append_left _ hx)), ?_, hg.frame _, fun h => by cases h⟩
  · exact trodAll_cons_mk (shut_bool Tryd.underlying4 _) trodAll_mk0
  · rfl
set_option maxRecDepth 100000 in
theorem bytesOnce_lifted (os : Os) (started : os.Started) (H : Type) (enc : TypeId × Value → H) (F : Stop.Interp) :
    ReturnsInHanded {} Tryd.checked os 5 .any ((OpenSpec.ofChange Rows.bytesOnceSpec).preRow enc Tryd.prog Tryd.f5 Rows.bytesOnceRow.domain false Rows.bytesOnceRow.laid) (((OpenSpec.ofChange Rows.bytesOnceSpec).at F).post enc Tryd.prog Tryd.f5 false true false false) := by
  obtain ⟨places, hx⟩ := bytesOnce_reads os enc
  refine returnsInHanded_of_row (C := Tryd.checked) (s := OpenSpec.ofChange Rows.bytesOnceSpec) bytesOnce_own started (by kernel_rfl) Tryd.func5
    (witness_row_at (enc := enc) (C := Tryd.checked) false (laidHeap (World.holding Tryd.prog os ⟨#[], #[], []⟩)) #[.slice none 0 0] rfl (by kernel_rfl) (by kernel_rfl) (by kernel_rfl)
      (OpenSpec.preRow_of_cond 8 hx (by kernel_rfl) (fun k hk => by cases hk) (by kernel_rfl) (bytesOnce_met os))) ?_
  intro W base args ds gs before hval hW _ _ _ hL _ _
  exact bytesOnce_contract H enc W base args ds gs before hval hW hL
theorem bytesOnce_said : Rows.BytesOnceSaid :=
  OpenClaim.holds_of_cond 5 Tryd.f5 rfl rfl rfl rfl rfl rfl rfl ⟨rfl, rfl, rfl, rfl, rfl⟩ rfl rfl rfl rfl rfl (by kernel_rfl) Tryd.func5 (by kernel_rfl)
    (of_decide_eq_true (by kernel_rfl)) (by unfold Func.isWrapper; first | (rw [if_pos (by decide +kernel)]; kernel_rfl) | (rw [if_neg (by decide +kernel)]; exact ⟨rfl, rfl⟩))
    (fun os started H enc _ F => by rw [OpenClaim.pre_eq_preRow]; exact bytesOnce_lifted os started H enc F)
theorem bytesOnce_plain (f : FuncId) (fn : Func) (hf : Tryd.pinned.checked.prog.funcNamed "sundial/sundialkeep.BytesOnce" = some f) (hfn : Tryd.pinned.checked.prog.funcs[f]? = some fn) :
    false = Tryd.pinned.checked.prog.looks [] ∧ ∀ (j : Nat) t, fn.params[j]? = some t → Tryd.pinned.checked.prog.wantsStandIn t = false := by
  obtain rfl : f = 5 := Option.some.inj ((show Tryd.prog.funcNamed "sundial/sundialkeep.BytesOnce" = some 5 by kernel_rfl).symm.trans hf) |>.symm
  obtain rfl : fn = Tryd.f5 := (Option.some.inj (Tryd.func5.symm.trans hfn)).symm
  refine ⟨by kernel_rfl, fun j t ht => ?_⟩
  rw [Tryd.params5] at ht
  have hm : t = 27 := by have h := Array.mem_of_getElem? ht; simp at h; first | simpa using h | (rcases h with h | h | h | h <;> simp [h]) | (rcases h with h | h | h <;> simp [h])
  rcases hm with rfl
  exact (show Tryd.prog.wantsStandIn 27 = false by kernel_rfl)
/-- The card. -/
theorem bytesOnce_card : Rows.BytesOnceCardSaid :=
  Claim7.holds_tied_plain_at .later [] _ _ _ _ bytesOnce_said (fun _ h => by cases h) (by kernel_rfl) (fun _ h => by cases h) bytesOnce_row_tie rfl ⟨rfl, rfl⟩ (by kernel_rfl) rfl bytesOnce_plain (by kernel_rfl)
#print axioms bytesOnce_card
end Go.Proofs.YtlklllnmkdnipaaDoor
