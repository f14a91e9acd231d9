/- Contract: ProgramOf (P5.6), by the document. -/
import Derived.Test.YtddamfnoggjkfaaDoorSpoVp
import Derived.Deep.DeepCutAuto
import Derived.Deep.CutBlock
import Derived.Deep.Light
namespace Go.Proofs.YtddamfnoggjkfaaDoor
open Go.ChangeShapes Go.WideShapes Go.ChangeAt Go.RowKit
set_option linter.unusedVariables false
set_option maxRecDepth 100000 in
set_option maxHeartbeats 6400000 in
theorem programOf_main (l : List Int) (a : Option Addr) (cap : Nat) (w : World) (hb : BysAt w a l) (hby : ∀ z ∈ l, 0 ≤ z ∧ z ≤ 255) (hc : l.length ≤ cap) (hc2 : cap ≤ 9223372036854775807) (hlong : ¬ 200000 < l.length) (hs : ¬ l.length < 3) (hh : l.take 3 = [115, 100, 49]) :
    Calls Tryd.prog 9 #[.slice a l.length cap] w (DecPost l w) := by
  have g : decide (200000 < ((l.length : Nat) : Int)) = false := by rw [decide_eq_false_iff_not]; omega
  have g2 : decide (((l.length : Nat) : Int) < 3) = false := by rw [decide_eq_false_iff_not]; omega
  have hst : ((Dec.bst (l.take 3)).toList == [115, 100, 49]) = true := by rw [hh, Dec.bst, ByteArray.toList_mk]; rfl
  obtain ⟨N3, hN3⟩ : ∃ N, Dec.count 8000 (l.drop 3) 0 = N := ⟨_, rfl⟩
  have HF : Fine l := ⟨hlong, hs, hh⟩
  have HE3 : Hid _ := fun e h4 he => HF.e1 (e := e) hN3 h4 he
  have HE0 : Hid _ := fun code l1 h4 => (⟨⟨N3, hN3, h4⟩⟩ : St1 l code l1)
  have hb3 := Dec.count_bd (most := 8000) (by decide) (l := l.drop 3) (e := 0)
  obtain ⟨z, hz⟩ : ∃ z, l[0]? = some z := ⟨_, List.getElem?_eq_getElem (by omega)⟩
  obtain ⟨ab, ao, rfl, _, _⟩ := hb.cell 0 z hz
  obtain ⟨W, hW⟩ : ∃ W, W = w.alloc (Obj.cells #[.slice none 0 0, .slice none 0 0, .slice none 0 0] 26) := ⟨_, rfl⟩
  have gW : Gr w W := by rw [hW]; exact (Gr.refl _).alloc _
  have zW : W.heap.size = w.heap.size + 1 := by rw [hW]; simp
  have kW : W.heap[w.heap.size]? = some (.cells #[.slice none 0 0, .slice none 0 0, .slice none 0 0] 26) := by rw [hW]; exact heapA _ _
  have hcw := fun (c : Nat) => run_bstA (cap := c) (hb.take 3) gW (fun x hx => hby x (List.mem_of_mem_take hx))
  rw [take3 (by omega)] at hcw
  rw [hW] at hcw
  have i1 : (3 : Int) ≤ (cap : Int) := by omega
  have i2 : 3 ≤ cap := by omega
  rw [hN3] at hb3
  have hSp : ∀ X, Gr (W.alloc (Obj.cells #[.slice (some ⟨ab, ao, none⟩) l.length cap, .int .i64 3, .int .i64 0] 55)) X → Sp W X (w.heap.size + 1) l (l.drop 3) 0 := fun X hg => ⟨((Gr.refl W).alloc _).trans hg, by omega, hby, by omega, some ⟨ab, ao, none⟩, cap, 3, by rw [← zW]; exact (hg.block _ (by simp)).trans (heapA _ _), hb.gr gW, by omega, rfl⟩
  obtain ⟨z3, l3, e3⟩ := N3
  simp only at hb3
  obtain ⟨n3, rfl⟩ : ∃ n : Nat, z3 = n := ⟨z3.toNat, by omega⟩
  simp only [Int.toNat_natCast] at HE3 HE0
  have H9 : Hid _ := fun X (h : Sp W X (w.heap.size + 1) l (l.drop 3) 0) => countIn_any 8000 W X (w.heap.size + 1) l (l.drop 3) 0 h (by decide)
  rw [hN3] at H9
  have HBB : Hid _ := hb
  obtain ⟨i0, hi, hi1, hi2, hi3⟩ := Tryd.infoIns
  obtain ⟨j0, hj, hj1, hj2, hj3⟩ := Tryd.infoIntD
  clear hN3 hz hb hh
  go_enter Tryd.func9, Tryd.ntmps9
  go_upto_region 9 with fail
  rw [← hW]
  obtain ⟨X0, hX0⟩ : ∃ X0, X0 = (W.alloc (Obj.cells #[.slice (some ⟨ab, ao, none⟩) l.length cap, .int .i64 3, .int .i64 0] 55)).alloc (Obj.cells #[.slice none 0 0, .slice none 0 0, .slice none 0 0] 26) := ⟨_, rfl⟩
  have S0 : Sp W X0 (w.heap.size + 1) l (l.drop 3) 0 := hSp X0 (by rw [hX0]; exact (Gr.refl _).alloc _)
  have P0 : PrS W w X0 (w.heap.size + 1) (w.heap.size + 1 + 1) l (.slice none 0 0) (.slice none 0 0) (.slice none 0 0) [] [] [] (l.drop 3) 0 := ⟨S0, by rw [hX0]; exact gW.trans (((Gr.refl _).alloc _).alloc _), by omega, by omega, by rw [hX0]; exact (Below.heap_alloc _ _ _ (by simp; omega)).trans ((Below.heap_alloc _ _ _ (by omega)).trans kW), by rw [hX0, ← zW]; exact heapC _ _ _, ⟨rfl, Or.inl ⟨rfl, rfl⟩⟩, ⟨rfl, Or.inl ⟨rfl, rfl⟩⟩, ⟨rfl, Or.inl ⟨rfl, rfl⟩⟩, (fun x hx => by cases hx), (fun x hx => by cases hx), fun x hx => by cases hx⟩
  have HBB' : Hid _ := HBB.out.gr gW
  rw [← hX0]
  have PH : Hid _ := P0
  clear hX0 hW kW gW zW hcw hSp S0 P0 hst g g2
  go_upto_block 0 with (go_at_call 20; refine (H9.out _ PH.out.sp).mono ?_; rintro en w4 ⟨rfl, hS4, hB4⟩)
  have A0 : PrS W w w4 (w.heap.size + 1) (w.heap.size + 1 + 1) l (.slice none 0 0) (.slice none 0 0) (.slice none 0 0) [] [] [] l3 e3 := PH.out.call hB4 hS4
  clear PH hS4 hB4 H9
  go_cut [] (fun wx => ∃ (cv : Value) (code : List Ins) (l1 : List Int) (e1 : Int), PrS W w wx (w.heap.size + 1) (w.heap.size + 1 + 1) l cv (.slice none 0 0) (.slice none 0 0) code [] [] l1 e1 ∧ Sg1 l code l1 e1)
  case first =>
    go_wp2_with fail
    go_loopw [7] (fun t wr => ∃ (k : Nat) (cv : Value) (code : List Ins) (l1 : List Int) (e1 : Int), k ≤ n3 ∧ t = .int .i64 k ∧ PrS W w wr (w.heap.size + 1) (w.heap.size + 1 + 1) l cv (.slice none 0 0) (.slice none 0 0) code [] [] l1 e1 ∧ (e1 = 0 → Dec.times Dec.instruction k l3 e3 = (code, l1, 0)) ∧ (e1 ≠ 0 → (Dec.times Dec.instruction n3 l3 e3).2.2 = e1)) (fun t _ => n3 - (intOf t).toNat)
    case atStart => exact ⟨0, _, _, _, _, Nat.zero_le _, rfl, A0, fun h => by rw [h]; rfl, fun h => (Dec.times_sy Dec.instruction_sy n3).st _ _ h⟩
    case round =>
      obtain ⟨k, cv, code, l1, e1, hk, rfl, hP, hOK, hER⟩ := hrel
      clear A0
      obtain ⟨ra, rcap, ri, q1, q2, q3, q4⟩ := hP.sp.ex
      obtain ⟨cs, fs⟩ := row_all q1
      have PR : Hid _ := hP
      by_cases he : e1 = 0
      · subst he
        have hTK := hOK rfl
        clear hOK hER
        by_cases hlt : k < n3
        · have g3 : decide ((k : Int) < (n3 : Int)) = true := by rw [decide_eq_true_iff]; omega
          have hL2 := hP.sp.len
          have hslt := hP.sp.lt
          have HTS : Hid _ := Dec.times_snoc Dec.instruction k l3 e3
          have HCL : Hid (code.length = k) := by have := Dec.times_len Dec.instruction k l3 e3; rw [hTK] at this; exact this
          rw [hTK] at HTS
          have HMO : Hid _ := fun h => Dec.times_more (k := k + 1) (n := n3) Dec.instruction_sy (by omega) (l := l3) (e := e3) h
          cases l1 with
          | nil =>
            have hi : ri = l.length := by
              have := congrArg List.length q4
              rw [List.length_drop] at this
              simp at this
              omega
            have h5 : (Dec.times Dec.instruction (k + 1) l3 e3).2.2 = 5 := by rw [HTS.out]; rfl
            have HEE : Hid _ := HE3.out 5 ((HMO.out (by rw [h5]; decide)).trans h5) (by decide)
            have PW : Hid _ := hP.call ((Bg.ofGr (Gr.refl wr)).setCell 2 (.int .i64 5)) (hP.sp.wrong 5)
            subst hi
            clear hP q1 q2 q3 q4 hTK HTS HMO h5 HE3 PR
            go_wp2_with fail
            go_meet
            case rel => exact ⟨_, _, _, _, PW.out, ⟨Or.inr ⟨by decide, HEE.out⟩⟩⟩
          | cons b r =>
            obtain ⟨b0, b1⟩ := hP.sp.bytl b List.mem_cons_self
            have hri : ri < l.length := by
              rcases Nat.lt_or_ge ri l.length with g | g
              · exact g
              · rw [List.drop_of_length_le g] at q4; cases q4
            have hLi : l[ri]? = some b := by
              have := congrArg (fun x => x[0]?) q4
              simp only [List.getElem?_cons_zero, List.getElem?_drop, Nat.add_zero] at this
              exact this.symm
            obtain ⟨ab', ao', eab, hab, hac⟩ := HBB.out.cell ri b hLi
            cases eab
            have hbc := (hP.gr.cell ab _ hab).trans hac
            have zab : ab < wr.heap.size := Nat.lt_of_lt_of_le hab hP.gr.size
            have hge : ¬ ((l.length : Nat) : Int) ≤ (ri : Int) := by omega
            have x3 : IntKind.i64.wrap b = b := by simp [IntKind.wrap, IntKind.signed, IntKind.bits]; omega
            have hnx := hP.sp.next q1 q2 q3 q4
            have hp2 := (hP.call ((Bg.ofGr (Gr.refl _)).setCell 1 (.int .i64 ((ri : Int) + 1))) hnx).more ((Gr.refl _).alloc (Obj.cells #[.int .i64 b, .int .i64 0] 48))
            have hp1 := hP.call ((Bg.ofGr (Gr.refl _)).setCell 1 (.int .i64 ((ri : Int) + 1))) hnx
            have hB45 : Bg (w.heap.size + 1) (wr.setCell ⟨w.heap.size + 1, 1, none⟩ (.int .i64 ((ri : Int) + 1))) ((wr.setCell ⟨w.heap.size + 1, 1, none⟩ (.int .i64 ((ri : Int) + 1))).alloc (Obj.cells #[.int .i64 b, .int .i64 0] 48)) := Bg.ofGr ((Gr.refl _).alloc _)
            have zX4 : (wr.setCell ⟨w.heap.size + 1, 1, none⟩ (.int .i64 ((ri : Int) + 1))).heap.size = wr.heap.size := by simp [World.setCell]
            have kx : ((wr.setCell ⟨w.heap.size + 1, 1, none⟩ (.int .i64 ((ri : Int) + 1))).alloc (Obj.cells #[.int .i64 b, .int .i64 0] 48)).heap[wr.heap.size]? = some (Obj.cells #[.int .i64 b, .int .i64 0] 48) := by
              have := heapA (wr.setCell ⟨w.heap.size + 1, 1, none⟩ (.int .i64 ((ri : Int) + 1))) (Obj.cells #[.int .i64 b, .int .i64 0] 48)
              rw [show (wr.setCell ⟨w.heap.size + 1, 1, none⟩ (.int .i64 ((ri : Int) + 1))).heap.size = wr.heap.size by simp [World.setCell]] at this
              exact this
            have hne3 : w.heap.size + 1 ≠ wr.heap.size := by omega
            have H1 : Hid _ := fun (_ : Unit) => @ins_no (b :: r) 0 _ (Dec.byte_cons b r)
            have H2 : Hid _ := fun (_ : Unit) => @ins_plain (b :: r) 0 _ (Dec.byte_cons b r)
            have H3 : Hid _ := fun N => @ins_num (b :: r) 0 _ N (Dec.byte_cons b r)
            clear hP q1 q2 q3 q4 hnx PR hac hLi hTK
            go_upto_region 17 with fail
            obtain ⟨X5, hX5⟩ : ∃ X, X = (wr.setCell ⟨w.heap.size + 1, 1, none⟩ (.int .i64 ((ri : Int) + 1))).alloc (Obj.cells #[.int .i64 b, .int .i64 0] 48) := ⟨_, rfl⟩
            rw [← hX5] at hp2 kx hB45 ⊢
            obtain ⟨X4, hX4⟩ : ∃ X, X = wr.setCell ⟨w.heap.size + 1, 1, none⟩ (.int .i64 ((ri : Int) + 1)) := ⟨_, rfl⟩
            rw [← hX4] at hp1 hB45 zX4
            have P4 : Hid _ := And.intro hp1 hB45
            have zX5 : wr.heap.size < X5.heap.size := lt_of_someE kx
            obtain ⟨cx, fx⟩ := row_all kx
            have KX : Hid _ := kx
            have PX : Hid _ := hp2
            clear hX5 hX4 hp1 hB45 hp2 kx cs fs hbc
            cases ho : Ver.isOp b with
            | false =>
              have hdo : decide (1 ≤ b ∧ b ≤ 6) = false := ho
              have h5 : (Dec.times Dec.instruction (k + 1) l3 e3).2.2 = 3 := by rw [HTS.out]; show (Dec.instruction (b :: r) 0).2.2 = 3; rw [H1.out () ho]; rfl
              have HEE : Hid _ := HE3.out 3 ((HMO.out (by rw [h5]; decide)).trans h5) (by decide)
              obtain ⟨sa, scap, si, s1, s2⟩ := PX.out.sp.ex
              obtain ⟨cs, fs⟩ := row_all s1
              have PR : Hid _ := PX.out.call ((Bg.ofGr (Gr.refl X5)).setCell 2 (.int .i64 3)) (PX.out.sp.wrong 3)
              clear HTS HMO h5 HE3 H1 H2 H3 s1 s2 KX PX
              go_wp2_with (go_at_call 21; refine (inOf_any b 1 6 _).mono ?_; rintro en w6 ⟨rfl, hw6⟩; subst w6; rw [hdo])
              go_meet
              case rel => exact ⟨_, _, _, _, PR.out, ⟨Or.inr ⟨by decide, HEE.out⟩⟩⟩
            | true =>
              have hdo : decide (1 ≤ b ∧ b ≤ 6) = true := ho
              have wb : (Lit.int .i64 b).wf = true := Enc.wf_small (by omega) (by omega)
              obtain ⟨va, vcap, hv⟩ := owns_formK PX.out.ownC
              rw [HCL.out] at hv
              subst hv
              cases hn : numbered b with
              | false =>
                have h5 : Dec.times Dec.instruction (k + 1) l3 e3 = (code ++ [⟨b, 0⟩], r, 0) := by rw [HTS.out]; show (code ++ [(Dec.instruction (b :: r) 0).1], (Dec.instruction (b :: r) 0).2) = _; rw [H2.out () ho hn]
                have H5 : Hid _ := h5
                have hpo := PX.out.ownC
                rw [HCL.out] at hpo
                have POW : Hid _ := fun (_ : Unit) => hpo
                have PPB : Hid _ := PX.out.pbox
                have zp := lt_of_someE PX.out.pbox
                obtain ⟨cq, fq⟩ := row_all PX.out.pbox
                clear HTS HMO h5 H1 H2 H3 hpo
                go_upto_region 19 with (go_at_call 21; refine (inOf_any b 1 6 _).mono ?_; rintro en w6 ⟨rfl, hw6⟩; subst w6; rw [hdo])
                go_upto_region 21 with (go_at_call 18; refine (hasNumber_any b _).mono ?_; rintro en w6 ⟨rfl, hw6⟩; subst w6; rw [hn])
                go_wp2_with (at_builtin; (refine wpList_append_lies _ rfl _ _ _ rfl (w.heap.size + 1 + 1 + 1) 48 i0 _ 2 16 Tryd.underlying22 hi hi1 hi2 hi3 rfl (by decide) (.slice va k vcap) k (insC code) (by rfl) (owns_gr (POW.out ()) (by exact (Gr.refl _).alloc _)) ⟨_, 0, none⟩ 1 1 [.int .i64 b, .int .i64 0] (by rfl) (by rfl) (World.news_of_block (cs := #[.int .i64 b, .int .i64 0]) (heapA _ _)) (by simp [Value.oneCell']) (by omega) (by unfold maxLen; omega) (by omega) (by simp; omega) _ rfl ?_; intro g7 cap7 w7 hown7 hgrow7 hat7 hlt7; have kp7 := (hgrow7.block (w.heap.size + 1 + 1) (by simp; omega) (fun e => by have := (owns_lt (POW.out ()) e.symm).1; omega)).trans ((Below.heap_alloc _ _ _ (by omega)).trans PPB.out); have c7 := (row_all kp7).1; have f7 := (row_all kp7).2))
                have Hend : Hid _ := PX.out.stepC (x := ⟨b, 0⟩) ((Gr.refl _).alloc _) ⟨wb, by show (Lit.int .i64 0).wf = true; decide⟩ hgrow7 (by rw [HCL.out]; exact hown7)
                clear hown7 hgrow7 hat7 kp7 cq fq cx fx
                go_wp2
                refine ⟨⟨k + 1, .slice (some ⟨g7, 0, none⟩) (k + 1) cap7, code ++ [⟨b, 0⟩], r, 0, by omega, by go_num, Hend.out, fun _ => H5.out, fun h => absurd rfl h⟩, by simp [intOf]; omega⟩
              | true =>
                obtain ⟨N, hN⟩ : ∃ N, Dec.number r 0 = N := ⟨_, rfl⟩
                have HNU : Hid _ := fun X (h : Sp W X (w.heap.size + 1) l r 0) => numberIn_any W X (w.heap.size + 1) l r 0 h
                have HWF : Hid _ := Dec.number_wf (e := 0) (l := r) PX.out.sp.bytl
                have h5 : Dec.times Dec.instruction (k + 1) l3 e3 = (code ++ [⟨b, N.1⟩], N.2) := by rw [HTS.out]; show (code ++ [(Dec.instruction (b :: r) 0).1], (Dec.instruction (b :: r) 0).2) = _; rw [H3.out N ho hn hN]
                rw [hN] at HNU HWF
                obtain ⟨z, l5, e5⟩ := N
                have H5 : Hid _ := h5
                have HM5 : Hid (e5 ≠ 0 → (Dec.times Dec.instruction n3 l3 e3).2.2 = e5) := fun h => by have := HMO.out (by rw [h5]; exact h); rw [this, h5]
                have zp := lt_of_someE PX.out.pbox
                have HNE : Hid (w.heap.size + 1 ≠ wr.heap.size ∧ w.heap.size + 1 + 1 ≠ wr.heap.size) := ⟨hne3, fun e => by have h1 := PX.out.pbox; rw [e, KX.out] at h1; simp at h1⟩
                clear HTS HMO h5 H1 H2 H3 hN
                go_upto_region 19 with (go_at_call 21; refine (inOf_any b 1 6 _).mono ?_; rintro en w6 ⟨rfl, hw6⟩; subst w6; rw [hdo])
                go_upto_region 21 with (first | (go_at_call 18; refine (hasNumber_any b _).mono ?_; rintro en w6 ⟨rfl, hw6⟩; subst w6; rw [hn]) | (go_at_call 22; refine (HNU.out _ PX.out.sp).mono ?_; rintro en w8 ⟨rfl, hS8, hB8⟩; obtain ⟨cx8, fx8⟩ := row_all (hB8.row KX.out (by omega))))
                have KY := five_set (hB8.row KX.out (by omega)) 1 (.int .i64 z)
                have hS9 := hS8.set (p := ⟨wr.heap.size, 1, none⟩) (by simp; omega) (.int .i64 z)
                have hB9 := (P4.out.2.trans hB8).setNew (p := ⟨wr.heap.size, 1, none⟩) (by simp; omega) (.int .i64 z)
                have zX9 := lt_of_someE KY
                clear cx fx cx8 fx8 hS8 hB8
                obtain ⟨X9, hX9⟩ : ∃ X, X = w8.setCell ⟨wr.heap.size, 1, none⟩ (.int .i64 z) := ⟨_, rfl⟩
                rw [← hX9] at KY hS9 hB9 zX9 ⊢
                have PY : Hid _ := P4.out.1.call hB9 hS9
                have hpo := PY.out.ownC
                rw [HCL.out] at hpo
                have POW : Hid _ := fun (_ : Unit) => hpo
                have PPB : Hid _ := PY.out.pbox
                obtain ⟨cx, fx⟩ := row_all KY
                obtain ⟨cq, fq⟩ := row_all PY.out.pbox
                have zp9 := lt_of_someE PY.out.pbox
                clear hX9 KY hS9 hB9 hpo KX PX
                go_wp2_with (at_builtin; (refine wpList_append_lies _ rfl _ _ _ rfl (w.heap.size + 1 + 1 + 1) 48 i0 _ 2 16 Tryd.underlying22 hi hi1 hi2 hi3 rfl (by decide) (.slice va k vcap) k (insC code) (by rfl) (owns_gr (POW.out ()) (by exact (Gr.refl _).alloc _)) ⟨_, 0, none⟩ 1 1 [.int .i64 b, .int .i64 z] (by rfl) (by rfl) (World.news_of_block (cs := #[.int .i64 b, .int .i64 z]) (heapA _ _)) (by simp [Value.oneCell']) (by omega) (by unfold maxLen; omega) (by omega) (by simp; omega) _ rfl ?_; intro g7 cap7 w7 hown7 hgrow7 hat7 hlt7; have kp7 := (hgrow7.block (w.heap.size + 1 + 1) (by simp; omega) (fun e => by have := (owns_lt (POW.out ()) e.symm).1; omega)).trans ((Below.heap_alloc _ _ _ (by omega)).trans PPB.out); have c7 := (row_all kp7).1; have f7 := (row_all kp7).2))
                have Hend : Hid _ := PY.out.stepC (x := ⟨b, z⟩) ((Gr.refl _).alloc _) ⟨wb, HWF.out⟩ hgrow7 (by rw [HCL.out]; exact hown7)
                clear hown7 hgrow7 hat7 kp7 cq fq cx fx
                go_wp2
                refine ⟨⟨k + 1, .slice (some ⟨g7, 0, none⟩) (k + 1) cap7, code ++ [⟨b, z⟩], l5, e5, by omega, by go_num, Hend.out, fun h => by rw [H5.out, h], HM5.out⟩, by simp [intOf]; omega⟩
        · have g3 : decide ((k : Int) < (n3 : Int)) = false := by rw [decide_eq_false_iff_not]; omega
          have HK : Hid (k = n3) := by show k = n3; omega
          have HTK : Hid _ := hTK
          clear hTK hP q1 q2 q3 q4
          go_wp2_with fail
          go_meet
          case rel => exact ⟨_, _, _, _, PR.out, ⟨Or.inl ⟨rfl, HE0.out _ _ (by rw [← HK.out]; exact HTK.out)⟩⟩⟩
      · have g1 : (e1 == 0) = false := by simpa using he
        have HEE : Hid _ := HE3.out e1 (hER he) he
        clear hOK hER hP HE3
        by_cases hlt : k < n3
        · have g3 : decide ((k : Int) < (n3 : Int)) = true := by rw [decide_eq_true_iff]; omega
          go_wp2_with fail
          go_meet
          case rel => exact ⟨_, _, _, _, PR.out, ⟨Or.inr ⟨he, HEE.out⟩⟩⟩
        · have g3 : decide ((k : Int) < (n3 : Int)) = false := by rw [decide_eq_false_iff_not]; omega
          go_wp2_with fail
          go_meet
          case rel => exact ⟨_, _, _, _, PR.out, ⟨Or.inr ⟨he, HEE.out⟩⟩⟩
  case rest =>
    obtain ⟨cv, code, l1, e1, hP1, hG1⟩ := hcut
    rename_i K hK
    exact hK _ _ (rest1 HF HBB'.out hc hc2 hP1 hG1 _ rfl)
end Go.Proofs.YtddamfnoggjkfaaDoor
