/- Proved: at every slice of bytes the law CodeDecodes returns true: code.Decode answers as the document's answer does. The table code.operators holds what its initialiser lays (tied to the program's text by the card). -/
import Derived.Test.YtddamfnoggjkfaaDoorCards
import Derived.Test.YtddamfnoggjkfaaDoorTie
import Derived.Test.YtddamfnoggjkfaaDoorDecD
import Derived.Test.YtddamfnoggjkfaaDoorSpoV
import Derived.Test.YtddamfnoggjkfaaDoorSamP
import Derived.Test.YtddamfnoggjkfaaDoorOprL
import Derived.Test.YtddamfnoggjkfaaDoorOpnC
import Derived.WalkKit
import Derived.ProofKit
import Derived.OpenShut
import Derived.Deep.DeepHandedRow
import Derived.Lib.LaidTab
namespace Go.Proofs.YtddamfnoggjkfaaDoor
open Go.ChangeShapes Go.WideShapes Go.ChangeAt Go.RowKit
set_option linter.unusedVariables false
theorem programOf_any (l : List Int) (a : Option Addr) (cap : Nat) (w : World) (hb : BysAt w a l) (hby : ∀ z ∈ l, 0 ≤ z ∧ z ≤ 255) (hc : l.length ≤ cap) (hc2 : cap ≤ 9223372036854775807) :
    Calls Tryd.prog 9 #[.slice a l.length cap] w (DecPost l w) := by
  by_cases h1 : 200000 < l.length
  · exact programOf_no l a cap w hb hby hc hc2 (Or.inl h1)
  · by_cases h2 : l.length < 3
    · exact programOf_no l a cap w hb hby hc hc2 (Or.inr (Or.inl h2))
    · by_cases h3 : l.take 3 = [115, 100, 49]
      · exact programOf_main l a cap w hb hby hc hc2 h1 h2 h3
      · exact programOf_no l a cap w hb hby hc hc2 (Or.inr (Or.inr h3))
set_option maxHeartbeats 1600000 in
theorem codeDecodes_at (x : Bya) (w : World) (hx : ByaOk w x) (hT : Opr w) (hr : x.l.length ≤ 140737488351232) :
    Calls Tryd.prog 4 #[.slice x.a x.l.length x.cap] w fun e w' => e = .returned (.bool true) ∧ Gr w w' := by
  obtain ⟨a, cap, l⟩ := x
  have h1 := hx.cap
  have h2 := hx.cap2
  have h3 := hx.at_
  have h4 := hx.byt
  simp only at h1 h2 h3 h4 hr ⊢
  have HD : Hid _ := fun W' a' cap' (hb : BysAt W' a' l) (hc : l.length ≤ cap') (hc2 : cap' ≤ 9223372036854775807) (ht : Opr W') => decode_any l a' cap' W' hb h4 hc hc2 ht
  have HP : Hid _ := fun W' (hb : BysAt W' a l) => programOf_any l a cap W' hb h4 h1 h2
  have HS : Hid _ := fun (p q : Prg) W' (hp : PrgOk W' p) (hq : PrgOk W' q) (hv : p.val = q.val) => sameProgram_yes p q W' hp hq hv
  obtain ⟨E, hE⟩ : ∃ E, decE l = E := ⟨_, rfl⟩
  clear hx
  cases hl : l with
  | nil =>
    subst hl
    cases a with
    | none =>
      have gw1 : Gr w w := Gr.refl _
      have HC1 : Hid _ := And.intro (BysAt.nil w none) hT
      go_enter Tryd.func4, Tryd.ntmps4
      go_upto_region 2 with (first | (simp only [Sem.run_pure, Result.andThen_ok]) | (go_at_call 8; refine (HD.out w none 0 HC1.out.1 (Nat.le_refl _) (by decide) HC1.out.2).mono ?_; rintro en w2 ⟨⟨⟨ca, ccap, code, pa, pcap, pool, aa, acap, ans⟩, rfl, hp1, hpv⟩, hg1⟩; simp only [Prg.cells]))
      obtain ⟨X, hX⟩ : ∃ X, X = w2.alloc (Obj.cells #[.slice ca code.length ccap, .slice pa pool.length pcap, .slice aa ans.length acap] 26) := ⟨_, rfl⟩
      have gX : Gr w2 X := by rw [hX]; exact (Gr.refl _).alloc _
      have kX : X.heap[w2.heap.size]? = some (.cells #[.slice ca code.length ccap, .slice pa pool.length pcap, .slice aa ans.length acap] 26) := by rw [hX]; exact heapA _ _
      have gwX := (gw1.trans hg1).trans gX
      have hPX := hp1.gr gX
      have zX := lt_of_someE kX
      rw [← hX]
      have KX : Hid _ := kX
      have HB2 : Hid _ := h3.gr gwX
      have HV1 : Hid _ := hpv
      clear hX kX gX hp1 hg1 hpv HD
      rw [hE]
      go_upto_region 3 with (go_at_call 9; refine (HP.out _ HB2.out).mono ?_; rintro en w3 ⟨⟨⟨ca2, ccap2, code2, pa2, pcap2, pool2, aa2, acap2, ans2⟩, rfl, hp2, hpv2⟩, hg2⟩; simp only [Prg.cells]; rw [hE])
      obtain ⟨Y, hY⟩ : ∃ Y, Y = w3.alloc (Obj.cells #[.slice ca2 code2.length ccap2, .slice pa2 pool2.length pcap2, .slice aa2 ans2.length acap2] 26) := ⟨_, rfl⟩
      have gY : Gr w3 Y := by rw [hY]; exact (Gr.refl _).alloc _
      have kY : Y.heap[w3.heap.size]? = some (.cells #[.slice ca2 code2.length ccap2, .slice pa2 pool2.length pcap2, .slice aa2 ans2.length acap2] 26) := by rw [hY]; exact heapA _ _
      have gwY := (gwX.trans hg2).trans gY
      have kXY := ((hg2.trans gY).block _ zX).trans KX.out
      obtain ⟨cx, fx⟩ := row_all kXY
      obtain ⟨cy, fy⟩ := row_all kY
      have HCL : Hid _ := fun (_ : Unit) => HS.out ⟨ca, ccap, code, pa, pcap, pool, aa, acap, ans⟩ ⟨ca2, ccap2, code2, pa2, pcap2, pool2, aa2, acap2, ans2⟩ Y (hPX.gr (hg2.trans gY)) (hp2.gr gY) (HV1.out.trans hpv2.symm)
      simp only [Prg.cells] at HCL
      rw [← hY]
      clear hY kY gY kXY hp2 hg2 hpv2 HS HP hPX KX HB2 HV1
      go_wp2_with (go_at_call 10; refine (HCL.out ()).mono ?_; rintro en w5 ⟨rfl, hg5⟩)
      go_ret
      exact ⟨ret_bool (by simp), gwY.trans hg5⟩
    | some ad =>
      obtain ⟨i0, hi, hi1, hi2, hi3⟩ := Tryd.infoByte
      go_enter Tryd.func4, Tryd.ntmps4
      go_upto_region 2 with (first | (at_builtin; refine wpList_append_own _ rfl _ _ _ rfl w.heap.size 5 i0 _ 1 1 Tryd.underlying27 hi hi1 hi2 hi3 rfl (by decide) (.slice none 0 0) 0 [] (by rfl) ⟨by simp, Or.inl ⟨rfl, rfl⟩⟩ ad 0 cap [] (by rfl) (by simp) (fun j u hu => by simp at hu) (fun u hu => by cases hu) (by decide) (by decide) (Nat.le_refl _) ?_; intro v1 w1 hown hgrow hiff; have gw1 : Gr w w1 := (Gr.refl w).by_ hgrow (fun k hk => by simp [Value.ownBlock] at hk); have hv1 := hiff.2 ⟨rfl, rfl⟩; subst hv1; have HC1 : Hid _ := And.intro (BysAt.nil w1 none) (hT.gr gw1); clear hown hgrow hiff) | (go_at_call 8; refine (HD.out w1 none 0 HC1.out.1 (Nat.le_refl _) (by decide) HC1.out.2).mono ?_; rintro en w2 ⟨⟨⟨ca, ccap, code, pa, pcap, pool, aa, acap, ans⟩, rfl, hp1, hpv⟩, hg1⟩; simp only [Prg.cells]))
      obtain ⟨X, hX⟩ : ∃ X, X = w2.alloc (Obj.cells #[.slice ca code.length ccap, .slice pa pool.length pcap, .slice aa ans.length acap] 26) := ⟨_, rfl⟩
      have gX : Gr w2 X := by rw [hX]; exact (Gr.refl _).alloc _
      have kX : X.heap[w2.heap.size]? = some (.cells #[.slice ca code.length ccap, .slice pa pool.length pcap, .slice aa ans.length acap] 26) := by rw [hX]; exact heapA _ _
      have gwX := (gw1.trans hg1).trans gX
      have hPX := hp1.gr gX
      have zX := lt_of_someE kX
      rw [← hX]
      have KX : Hid _ := kX
      have HB2 : Hid _ := h3.gr gwX
      have HV1 : Hid _ := hpv
      clear hX kX gX hp1 hg1 hpv HD
      rw [hE]
      go_upto_region 3 with (go_at_call 9; refine (HP.out _ HB2.out).mono ?_; rintro en w3 ⟨⟨⟨ca2, ccap2, code2, pa2, pcap2, pool2, aa2, acap2, ans2⟩, rfl, hp2, hpv2⟩, hg2⟩; simp only [Prg.cells]; rw [hE])
      obtain ⟨Y, hY⟩ : ∃ Y, Y = w3.alloc (Obj.cells #[.slice ca2 code2.length ccap2, .slice pa2 pool2.length pcap2, .slice aa2 ans2.length acap2] 26) := ⟨_, rfl⟩
      have gY : Gr w3 Y := by rw [hY]; exact (Gr.refl _).alloc _
      have kY : Y.heap[w3.heap.size]? = some (.cells #[.slice ca2 code2.length ccap2, .slice pa2 pool2.length pcap2, .slice aa2 ans2.length acap2] 26) := by rw [hY]; exact heapA _ _
      have gwY := (gwX.trans hg2).trans gY
      have kXY := ((hg2.trans gY).block _ zX).trans KX.out
      obtain ⟨cx, fx⟩ := row_all kXY
      obtain ⟨cy, fy⟩ := row_all kY
      have HCL : Hid _ := fun (_ : Unit) => HS.out ⟨ca, ccap, code, pa, pcap, pool, aa, acap, ans⟩ ⟨ca2, ccap2, code2, pa2, pcap2, pool2, aa2, acap2, ans2⟩ Y (hPX.gr (hg2.trans gY)) (hp2.gr gY) (HV1.out.trans hpv2.symm)
      simp only [Prg.cells] at HCL
      rw [← hY]
      clear hY kY gY kXY hp2 hg2 hpv2 HS HP hPX KX HB2 HV1
      go_wp2_with (go_at_call 10; refine (HCL.out ()).mono ?_; rintro en w5 ⟨rfl, hg5⟩)
      go_ret
      exact ⟨ret_bool (by simp), gwY.trans hg5⟩
  | cons z0 r0 =>
    obtain ⟨b, o, rfl, hbb, _⟩ := h3.cell 0 z0 (by rw [hl]; rfl)
    rw [← hl]
    have hpos : 0 < l.length := by rw [hl]; simp
    have hnews : ∀ j u, (bys l)[j]? = some u → w.cell? ((⟨b, o, none⟩ : Addr).add j) = some u := fun j u hu => by
      simp only [bys, List.getElem?_map, Option.map_eq_some_iff] at hu
      obtain ⟨z, hz, rfl⟩ := hu
      obtain ⟨b', o', e, _, hc⟩ := h3.cell j z hz
      cases e
      rw [show (⟨b, o, none⟩ : Addr).add j = ⟨b, o + j, none⟩ from Go.WideShapes.add_plain ..]
      exact hc
    obtain ⟨i0, hi, hi1, hi2, hi3⟩ := Tryd.infoByte
    have HN : Hid _ := hnews
    clear hl hnews
    go_enter Tryd.func4, Tryd.ntmps4
    go_upto_region 2 with (first | (at_builtin; refine wpList_append_lies _ rfl _ _ _ rfl w.heap.size 5 i0 _ 1 1 Tryd.underlying27 hi hi1 hi2 hi3 rfl (by decide) (.slice none 0 0) 0 [] (by rfl) ⟨by simp, Or.inl ⟨rfl, rfl⟩⟩ ⟨b, o, none⟩ l.length cap (bys l) (by rfl) (by simp [bys]) HN.out (one_byte _) hpos (by unfold maxLen; omega) (by omega) (Nat.le_refl _) _ rfl ?_; intro g c1 w1 hown hgrow hat hlt; have gw1 : Gr w w1 := (Gr.refl w).by_ hgrow (fun k hk => by simp [Value.ownBlock] at hk); obtain ⟨a1, k1, hv1, hk1, hk2, hby1⟩ := owns_bys (l := l) (by simp) hown; simp only [Value.slice.injEq, Nat.zero_add] at hv1; obtain ⟨ha1, _, hc1⟩ := hv1; have hT1 := hT.gr gw1; rw [← ha1] at hby1; rw [← hc1] at hk1 hk2; rw [Nat.zero_add]; have HC1 : Hid _ := And.intro hby1 (And.intro hk1 (And.intro hk2 hT1)); clear hown hgrow hat ha1 hc1 hby1 hk1 hk2 hT1) | (go_at_call 8; refine (HD.out _ _ _ HC1.out.1 HC1.out.2.1 HC1.out.2.2.1 HC1.out.2.2.2).mono ?_; rintro en w2 ⟨⟨⟨ca, ccap, code, pa, pcap, pool, aa, acap, ans⟩, rfl, hp1, hpv⟩, hg1⟩; simp only [Prg.cells]))
    obtain ⟨X, hX⟩ : ∃ X, X = w2.alloc (Obj.cells #[.slice ca code.length ccap, .slice pa pool.length pcap, .slice aa ans.length acap] 26) := ⟨_, rfl⟩
    have gX : Gr w2 X := by rw [hX]; exact (Gr.refl _).alloc _
    have kX : X.heap[w2.heap.size]? = some (.cells #[.slice ca code.length ccap, .slice pa pool.length pcap, .slice aa ans.length acap] 26) := by rw [hX]; exact heapA _ _
    have gwX := (gw1.trans hg1).trans gX
    have hPX := hp1.gr gX
    have zX := lt_of_someE kX
    rw [← hX]
    have KX : Hid _ := kX
    have HB2 : Hid _ := h3.gr gwX
    have HV1 : Hid _ := hpv
    clear hX kX gX hp1 hg1 hpv HD HN
    rw [hE]
    go_upto_region 3 with (go_at_call 9; refine (HP.out _ HB2.out).mono ?_; rintro en w3 ⟨⟨⟨ca2, ccap2, code2, pa2, pcap2, pool2, aa2, acap2, ans2⟩, rfl, hp2, hpv2⟩, hg2⟩; simp only [Prg.cells]; rw [hE])
    obtain ⟨Y, hY⟩ : ∃ Y, Y = w3.alloc (Obj.cells #[.slice ca2 code2.length ccap2, .slice pa2 pool2.length pcap2, .slice aa2 ans2.length acap2] 26) := ⟨_, rfl⟩
    have gY : Gr w3 Y := by rw [hY]; exact (Gr.refl _).alloc _
    have kY : Y.heap[w3.heap.size]? = some (.cells #[.slice ca2 code2.length ccap2, .slice pa2 pool2.length pcap2, .slice aa2 ans2.length acap2] 26) := by rw [hY]; exact heapA _ _
    have gwY := (gwX.trans hg2).trans gY
    have kXY := ((hg2.trans gY).block _ zX).trans KX.out
    obtain ⟨cx, fx⟩ := row_all kXY
    obtain ⟨cy, fy⟩ := row_all kY
    have HCL : Hid _ := fun (_ : Unit) => HS.out ⟨ca, ccap, code, pa, pcap, pool, aa, acap, ans⟩ ⟨ca2, ccap2, code2, pa2, pcap2, pool2, aa2, acap2, ans2⟩ Y (hPX.gr (hg2.trans gY)) (hp2.gr gY) (HV1.out.trans hpv2.symm)
    simp only [Prg.cells] at HCL
    rw [← hY]
    clear hY kY gY kXY hp2 hg2 hpv2 HS HP hPX KX HB2 HV1
    go_wp2_with (go_at_call 10; refine (HCL.out ()).mono ?_; rintro en w5 ⟨rfl, hg5⟩)
    go_ret
    exact ⟨ret_bool (by simp), gwY.trans hg5⟩
theorem codeDecodes_own : ownKnob Tryd.prog.godebug = none := by kernel_rfl
theorem codeDecodes_laidOut : laidOutB Tryd.prog = true := by kernel_rfl
theorem codeDecodes_rec : ∀ t ∈ Tryd.f4.params.toList, Tryd.prog.readableRec t = true ∧ t < Tryd.prog.types.size := by
  rw [Tryd.params4]
  intro t ht
  simp only [List.mem_cons, List.not_mem_nil, or_false] at ht
  rcases ht with rfl
  all_goals exact ⟨by kernel_rfl, of_decide_eq_true (by kernel_rfl)⟩
theorem codeDecodes_opr {W : World} (h : laidMetH Tryd.prog Rows.codeDecodesRow.laid W) : Opr W := opr_of_laid (rest := []) h
/-- A world for the witness: the settled one, the table holding what its initialiser lays. -/
def laidHeap (w : World) : World := { w with heap := w.heap.modify 0 fun
    | .cells _ t frozen => .cells #[.string ⟨#[97, 114, 103]⟩, .int .i64 0, .int .i64 1, .bool false, .string ⟨#[112, 117, 115, 104]⟩, .int .i64 0, .int .i64 1, .bool true, .string ⟨#[108, 101, 115, 115]⟩, .int .i64 2, .int .i64 1, .bool false, .string ⟨#[115, 107, 105, 112]⟩, .int .i64 1, .int .i64 0, .bool true, .string ⟨#[103, 111]⟩, .int .i64 0, .int .i64 0, .bool true, .string ⟨#[116, 101, 108, 108]⟩, .int .i64 0, .int .i64 0, .bool true] t frozen
    | o => o }
theorem codeDecodes_met (os : Os) : laidMet Tryd.prog Rows.codeDecodesRow.laid ((laidHeap (World.holding Tryd.prog os ⟨#[], #[], []⟩)).forCall (fun _ _ => 0) ⟨#[], #[.slice none 0 0], []⟩).memory :=
  laidMet_of_run' 8 (by kernel_rfl) (by kernel_rfl)
theorem codeDecodes_reads (os : Os) {H : Type} (enc : TypeId × Value → H) : ∃ places, DataW.whole enc Tryd.prog ((laidHeap (World.holding Tryd.prog os ⟨#[], #[], []⟩)).forCall (fun _ _ => 0) ⟨#[], #[.slice none 0 0], []⟩).memory Tryd.f4.params.toList Rows.codeDecodesSpec.vars false (#[.slice none 0 0] : Array Value).toList 8 = some ([.nil], [], places) :=
  ⟨[], by kernel_rfl⟩
theorem codeDecodes_contract (H : Type) (enc : TypeId × Value → H) (W : World) (base : Nat) (args : Array Value) (ds gs : List (DataW H)) (before : List MemPlace)
    (hval : ∀ (j : Nat) t v, Tryd.f4.params[j]? = some t → args[j]? = some v → Value.okWide Tryd.prog W .any base t v)
    (hW : DataW.Whole enc Tryd.prog Tryd.f4.params.toList Rows.codeDecodesSpec.vars false W args.toList ds gs before) (hL : laidMetH Tryd.prog Rows.codeDecodesRow.laid W) (hsz0 : (DataW.weightsEach Tryd.prog (Tryd.f4.params.toList ++ (OpenSpec.ofChange Rows.codeDecodesSpec).bare.plain.varTypes Tryd.prog) (ds ++ gs)).all (· ≤ reachBytes) = true) :
    Calls Tryd.prog 4 args W fun e W' => ∃ v, e = .returned v ∧ Rows.codeDecodesSpec.post enc Tryd.prog Tryd.f4 false true false false W args v W' := by
  have hW' := hW
  obtain ⟨p, q, hA0, hV, rfl, hfz, hnd⟩ := hW
  have hA : DataW.TrodAll enc Tryd.prog W 0 (fun _ => true) true Tryd.f4.params.toList args.toList ds p := hA0
  have hAk := hA
  have hsz : (DataW.weightsEach Tryd.prog (Tryd.f4.params.toList ++ Rows.codeDecodesSpec.plain.varTypes Tryd.prog) (ds ++ gs)).all (· ≤ reachBytes) = true := hsz0
  rw [Tryd.params4] at hA hval hsz
  obtain ⟨v0, vs0, d0, ds0, p0, q0, hargs, rfl, rfl, h0, r0⟩ := trodAll_cons hA
  obtain ⟨rfl, rfl, rfl⟩ := trodAll_nil r0
  obtain rfl : args = #[v0] := by cases args; simp_all
  obtain ⟨rfl, rfl⟩ := trodVars_none hV
  obtain ⟨x0, rfl, f0⟩ := open_bytes (hval 0 27 v0 rfl rfl) h0
  have z0 := bytes_reach h0 (fun k hk => by simpa using List.all_eq_true.1 hsz k (DataW.weights_mem_each (j := 0) (t := 27) rfl rfl k hk))
  clear hA0 hsz0
  refine (codeDecodes_at x0 W f0 (codeDecodes_opr hL) z0).mono fun e W' ⟨he, hg⟩ => ?_
  subst he
  refine ⟨_, rfl, _, _, _, [], _, [], hW', ?_, gr_trodAll codeDecodes_laidOut hg codeDecodes_rec hAk (fun x hx => hW'.lt x (List.mem_append_left _ hx)) (fun x hx => by simpa using hW'.lt x (List.mem_append_left _ hx)), ?_, hg.frame _, fun h => by cases h⟩
  · exact trodAll_cons_mk (shut_bool Tryd.underlying4 _) trodAll_mk0
  · rfl
set_option maxRecDepth 100000 in
theorem codeDecodes_lifted (os : Os) (started : os.Started) (H : Type) (enc : TypeId × Value → H) (F : Stop.Interp) :
    ReturnsInHanded {} Tryd.checked os 4 .any ((OpenSpec.ofChange Rows.codeDecodesSpec).preRow enc Tryd.prog Tryd.f4 Rows.codeDecodesRow.domain false Rows.codeDecodesRow.laid) (((OpenSpec.ofChange Rows.codeDecodesSpec).at F).post enc Tryd.prog Tryd.f4 false true false false) := by
  obtain ⟨places, hx⟩ := codeDecodes_reads os enc
  refine returnsInHanded_of_row (C := Tryd.checked) (s := OpenSpec.ofChange Rows.codeDecodesSpec) codeDecodes_own started (by kernel_rfl) Tryd.func4
    (witness_row_at (enc := enc) (C := Tryd.checked) false (laidHeap (World.holding Tryd.prog os ⟨#[], #[], []⟩)) #[.slice none 0 0] rfl (by kernel_rfl) (by kernel_rfl) (by kernel_rfl)
      (OpenSpec.preRow_of_cond 8 hx (by kernel_rfl) (fun k hk => by cases hk) (by kernel_rfl) (codeDecodes_met os))) ?_
  intro W base args ds gs before hval hW _ _ hsz0 hL _ _
  exact codeDecodes_contract H enc W base args ds gs before hval hW hL hsz0
theorem codeDecodes_said : Rows.CodeDecodesSaid :=
  OpenClaim.holds_of_cond 4 Tryd.f4 rfl rfl rfl rfl rfl rfl rfl ⟨rfl, rfl, rfl, rfl, rfl⟩ rfl rfl rfl rfl rfl (by kernel_rfl) Tryd.func4 (by kernel_rfl)
    (of_decide_eq_true (by kernel_rfl)) (by unfold Func.isWrapper; first | (rw [if_pos (by decide +kernel)]; kernel_rfl) | (rw [if_neg (by decide +kernel)]; exact ⟨rfl, rfl⟩))
    (fun os started H enc _ F => by rw [OpenClaim.pre_eq_preRow]; exact codeDecodes_lifted os started H enc F)
theorem codeDecodes_plain (f : FuncId) (fn : Func) (hf : Tryd.pinned.checked.prog.funcNamed "sundial/sundiallaw.CodeDecodes" = some f) (hfn : Tryd.pinned.checked.prog.funcs[f]? = some fn) :
    false = Tryd.pinned.checked.prog.looks [] ∧ ∀ (j : Nat) t, fn.params[j]? = some t → Tryd.pinned.checked.prog.wantsStandIn t = false := by
  obtain rfl : f = 4 := Option.some.inj ((show Tryd.prog.funcNamed "sundial/sundiallaw.CodeDecodes" = some 4 by kernel_rfl).symm.trans hf) |>.symm
  obtain rfl : fn = Tryd.f4 := (Option.some.inj (Tryd.func4.symm.trans hfn)).symm
  refine ⟨by kernel_rfl, fun j t ht => ?_⟩
  rw [Tryd.params4] at ht
  have hm : t = 27 := by have h := Array.mem_of_getElem? ht; simp at h; first | simpa using h | (rcases h with h | h | h | h <;> simp [h]) | (rcases h with h | h | h <;> simp [h])
  rcases hm with rfl
  exact (show Tryd.prog.wantsStandIn 27 = false by kernel_rfl)
/-- The card. -/
theorem codeDecodes_card : Rows.CodeDecodesCardSaid :=
  Claim7.holds_tied_plain_at .later [] _ _ _ _ codeDecodes_said (fun _ h => by cases h) (by kernel_rfl) (fun _ h => by cases h) codeDecodes_row_tie rfl ⟨rfl, rfl⟩ (by kernel_rfl) rfl codeDecodes_plain (by kernel_rfl)
#print axioms codeDecodes_card
end Go.Proofs.YtddamfnoggjkfaaDoor
