/- Contract: an instruction of a line (P5.8), by the program. -/
import Derived.Test.YtoolimfdadpmpaaDoorPrsC
namespace Go.Proofs.YtoolimfdadpmpaaDoor
open Go.ChangeShapes Go.WideShapes Go.ChangeAt Go.RowKit
set_option linter.unusedVariables false
def insR : Except Int Ins → Ins × Int
  | .error e => (⟨0, 0⟩, e)
  | .ok x => (x, 0)
structure InsTPost (w : World) (R : Ins × Int) (en : Ending) (w' : World) : Prop where
  en : en = .returned (.tuple #[.agg #[.int .i64 R.1.op, .int .i64 R.1.n], .int .i64 R.2])
  gr : Gr w w'
set_option maxHeartbeats 3200000 in
theorem insT_plain (t : List UInt8) (w : World) (hl : t.length ≤ 200000) (hT : Opr w) (hP : Po w) (hE : Er w) (hb : (32 : UInt8) ∉ t) (hc : Lib.cut t [32] = (t, [], false)) :
    Calls Tryd.prog 19 #[.string ⟨t.toArray⟩] w (InsTPost w (insR (Prs.insW (Prs.opOf t) []))) := by
  have h6 := Prs.opOf_in t
  obtain ⟨W0, hW0⟩ : ∃ W0, W0 = w.alloc (Obj.cells #[.int .i64 0, .int .i64 0] 36) := ⟨_, rfl⟩
  have g0 : Gr w W0 := by rw [hW0]; exact (Gr.refl _).alloc _
  have kb : W0.heap[w.heap.size]? = some (.cells #[.int .i64 0, .int .i64 0] 36) := by rw [hW0]; exact heapA _ _
  have HC : Hid _ := fun (_ : Unit) => cut_gr t 32 t [] false W0 (hE.gr g0) hl hc
  have HN : Hid _ := fun W (h : Gr w W) => named_any t W (hT.gr h)
  obtain ⟨op, hop⟩ : ∃ op, Prs.opOf t = op := ⟨_, rfl⟩
  simp only [hop] at HN
  rw [hop] at h6 ⊢
  obtain ⟨q, hq⟩ : ∃ q, decide (op ≠ 0) = q := ⟨_, rfl⟩
  simp only [hq] at HN
  have HQ : Hid _ := hq
  clear hq
  clear hop hc
  go_enter Tryd.func19, Tryd.ntmps19
  go_upto_region 2 with (rw [← hW0]; go_at_call 18; refine (HC.out ()).mono ?_; rintro e w1 ⟨rfl, hg1⟩)
  go_upto_region 3 with (go_at_call 27; refine (HN.out _ (g0.trans hg1)).mono ?_; rintro e w2 ⟨rfl, hg2⟩)
  have G2 : Gr w w2 := g0.trans (hg1.trans hg2)
  have kb2 := ((hg1.trans hg2).block _ (lt_of_someE kb)).trans kb
  clear hW0 HC HN hg1 hg2 g0 kb
  by_cases h0 : op = 0
  · subst h0
    obtain ⟨c3, f3⟩ := row_all kb2
    have hd : q = false := HQ.out.symm
    subst hd
    go_wp2
    refine bodyPost_ret (v := .tuple #[.agg #[.int .i64 0, .int .i64 0], .int .i64 3]) (by simp [results, Tryd.results19, go_sem, c3]) rfl ?_
    exact ⟨rfl, by repeat (with_reducible first | exact G2 | refine Gr.setCell ?_ (by exact Nat.le_refl _) _)⟩
  · have hd : q = true := by rw [← HQ.out]; simpa using h0
    subst hd
    clear HQ
    have HO : Hid _ := fun (_ : Unit) => operatorOf_any op w2 (hT.gr G2) (by omega) (by omega)
    cases hn : numbered op with
    | true =>
      have E : Hid (Prs.insW op [] = .error 4) := Prs.insW_k h0 hn (by simp)
      have hf := fun (s : ByteArray) (A B : Int) (W : World) => field_num s A B true W
      go_upto_region 6 with (go_at_call 23; refine (HO.out ()).mono ?_; rintro e w3 ⟨rfl, hg3⟩; rw [hn])
      obtain ⟨c3, f3⟩ := row_all ((hg3.block _ (lt_of_someE kb2)).trans kb2)
      have G3 := G2.trans hg3
      clear hg3 kb2
      go_wp2
      refine bodyPost_ret (v := .tuple #[.agg #[.int .i64 0, .int .i64 0], .int .i64 4]) (by simp [results, Tryd.results19, go_sem, c3]) rfl ?_
      rw [E.out]
      exact ⟨rfl, by repeat (with_reducible first | exact G3 | refine Gr.setCell ?_ (by exact Nat.le_refl _) _)⟩
    | false =>
      have E : Hid (Prs.insW op [] = .ok ⟨op, 0⟩) := Prs.insW_p h0 hn
      have hf := fun (s : ByteArray) (A B : Int) (W : World) => field_num s A B false W
      go_upto_region 7 with (go_at_call 23; refine (HO.out ()).mono ?_; rintro e w3 ⟨rfl, hg3⟩; rw [hn])
      obtain ⟨c3, f3⟩ := row_all ((hg3.block _ (lt_of_someE kb2)).trans kb2)
      have G3 := G2.trans hg3
      clear hg3 kb2
      go_wp2
      refine bodyPost_ret (v := .tuple #[.agg #[.int .i64 op, .int .i64 0], .int .i64 0]) (by simp [results, Tryd.results19, go_sem, c3]) rfl ?_
      rw [E.out]
      exact ⟨rfl, by repeat (with_reducible first | exact G3 | refine Gr.setCell ?_ (by exact Nat.le_refl _) _)⟩
set_option maxHeartbeats 3200000 in
theorem insT_blank (t a d : List UInt8) (w : World) (hl : t.length ≤ 200000) (hld : d.length ≤ 200000) (hT : Opr w) (hP : Po w) (hE : Er w) (hc : Lib.cut t [32] = (a, d, true)) :
    Calls Tryd.prog 19 #[.string ⟨t.toArray⟩] w (InsTPost w (insR (Prs.insW (Prs.opOf a) (Prs.parts 32 d)))) := by
  have h6 := Prs.opOf_in a
  obtain ⟨W0, hW0⟩ : ∃ W0, W0 = w.alloc (Obj.cells #[.int .i64 0, .int .i64 0] 36) := ⟨_, rfl⟩
  have g0 : Gr w W0 := by rw [hW0]; exact (Gr.refl _).alloc _
  have kb : W0.heap[w.heap.size]? = some (.cells #[.int .i64 0, .int .i64 0] 36) := by rw [hW0]; exact heapA _ _
  have HC : Hid _ := fun (_ : Unit) => cut_gr t 32 a d true W0 (hE.gr g0) hl hc
  have HN : Hid _ := fun W (h : Gr w W) => named_any a W (hT.gr h)
  obtain ⟨op, hop⟩ : ∃ op, Prs.opOf a = op := ⟨_, rfl⟩
  simp only [hop] at HN
  rw [hop] at h6 ⊢
  obtain ⟨q, hq⟩ : ∃ q, decide (op ≠ 0) = q := ⟨_, rfl⟩
  simp only [hq] at HN
  have HQ : Hid _ := hq
  clear hq
  clear hop hc
  go_enter Tryd.func19, Tryd.ntmps19
  go_upto_region 2 with (rw [← hW0]; go_at_call 18; refine (HC.out ()).mono ?_; rintro e w1 ⟨rfl, hg1⟩)
  go_upto_region 3 with (go_at_call 27; refine (HN.out _ (g0.trans hg1)).mono ?_; rintro e w2 ⟨rfl, hg2⟩)
  have G2 : Gr w w2 := g0.trans (hg1.trans hg2)
  have kb2 := ((hg1.trans hg2).block _ (lt_of_someE kb)).trans kb
  clear hW0 HC HN hg1 hg2 g0 kb
  by_cases h0 : op = 0
  · subst h0
    obtain ⟨c3, f3⟩ := row_all kb2
    have hd : q = false := HQ.out.symm
    subst hd
    go_wp2
    refine bodyPost_ret (v := .tuple #[.agg #[.int .i64 0, .int .i64 0], .int .i64 3]) (by simp [results, Tryd.results19, go_sem, c3]) rfl ?_
    exact ⟨rfl, by repeat (with_reducible first | exact G2 | refine Gr.setCell ?_ (by exact Nat.le_refl _) _)⟩
  · have hd : q = true := by rw [← HQ.out]; simpa using h0
    subst hd
    clear HQ
    have HO : Hid _ := fun (_ : Unit) => operatorOf_any op w2 (hT.gr G2) (by omega) (by omega)
    cases hn : numbered op with
    | false =>
      have E : Hid (Prs.insW op (Prs.parts 32 d) = .error 4) := Prs.insW_q h0 hn (Prs.parts_ne 32 d)
      have hf := fun (s : ByteArray) (A B : Int) (W : World) => field_num s A B false W
      go_upto_region 6 with (go_at_call 23; refine (HO.out ()).mono ?_; rintro e w3 ⟨rfl, hg3⟩; rw [hn])
      obtain ⟨c3, f3⟩ := row_all ((hg3.block _ (lt_of_someE kb2)).trans kb2)
      have G3 := G2.trans hg3
      clear hg3 kb2
      go_wp2
      refine bodyPost_ret (v := .tuple #[.agg #[.int .i64 0, .int .i64 0], .int .i64 4]) (by simp [results, Tryd.results19, go_sem, c3]) rfl ?_
      rw [E.out]
      exact ⟨rfl, by repeat (with_reducible first | exact G3 | refine Gr.setCell ?_ (by exact Nat.le_refl _) _)⟩
    | true =>
      have E0 : Hid _ := Prs.insW_rest h0 hn d
      have hf := fun (s : ByteArray) (A B : Int) (W : World) => field_num s A B true W
      go_upto_region 7 with (go_at_call 23; refine (HO.out ()).mono ?_; rintro e w3 ⟨rfl, hg3⟩; rw [hn])
      have G3 := G2.trans hg3
      have kb3 := (hg3.block _ (lt_of_someE kb2)).trans kb2
      clear HO kb2 hg3 G2 hf
      by_cases hno : Lib.atoiAll d = .«syntax» ∨ Lib.atoiAll d = .range
      · have E : Hid (Prs.insW op (Prs.parts 32 d) = .error 4) := by
          show Prs.insW op (Prs.parts 32 d) = .error 4
          rw [E0.out]
          rcases hno with h | h
          · rw [Prs.num_syn h]
          · rw [Prs.num_rng h]
        have HA : Hid _ := fun (_ : Unit) => atoi_no d w3 (hE.gr G3) hld hno
        clear E0 hno
        go_upto_region 10 with (go_at_call 28; refine (HA.out ()).mono ?_; rintro e w4 ⟨⟨v, N, rfl⟩, hg4⟩)
        obtain ⟨c3, f3⟩ := row_all ((hg4.block _ (lt_of_someE kb3)).trans kb3)
        have G4 := G3.trans hg4
        clear hg4 kb3
        go_wp2
        refine bodyPost_ret (v := .tuple #[.agg #[.int .i64 0, .int .i64 0], .int .i64 4]) (by simp [results, Tryd.results19, go_sem, c3]) rfl ?_
        rw [E.out]
        exact ⟨rfl, by repeat (with_reducible first | exact G4 | refine Gr.setCell ?_ (by exact Nat.le_refl _) _)⟩
      · obtain ⟨v, hv⟩ : ∃ v, Lib.atoiAll d = .ok v := by
          cases h : Lib.atoiAll d with
          | ok v => exact ⟨v, rfl⟩
          | «syntax» => exact absurd (Or.inl h) hno
          | range => exact absurd (Or.inr h) hno
        have HA : Hid _ := fun (_ : Unit) => atoi_ok d v w3 hld hv
        have HV : Hid _ := hv
        clear hno hv
        by_cases hout : v < 0 ∨ 8000 < v
        · have E : Hid (Prs.insW op (Prs.parts 32 d) = .error 4) := by
            show Prs.insW op (Prs.parts 32 d) = .error 4
            rw [E0.out, Prs.num_out HV.out hout]
          clear E0 HV
          go_upto_region 10 with (go_at_call 28; refine (HA.out ()).mono ?_; rintro e w4 ⟨rfl, hg4⟩)
          obtain ⟨c3, f3⟩ := row_all ((hg4.block _ (lt_of_someE kb3)).trans kb3)
          have G4 := G3.trans hg4
          clear hg4 kb3
          rcases hout with hv0 | hv8
          · have x1 : decide (v < 0) = true := by simpa using hv0
            go_wp2
            refine bodyPost_ret (v := .tuple #[.agg #[.int .i64 0, .int .i64 0], .int .i64 4]) (by simp [results, Tryd.results19, go_sem, c3]) rfl ?_
            rw [E.out]
            exact ⟨rfl, by repeat (with_reducible first | exact G4 | refine Gr.setCell ?_ (by exact Nat.le_refl _) _)⟩
          · have x1 : decide (v < 0) = false := by simp; omega
            have x2 : decide (8000 < v) = true := by simpa using hv8
            go_wp2
            refine bodyPost_ret (v := .tuple #[.agg #[.int .i64 0, .int .i64 0], .int .i64 4]) (by simp [results, Tryd.results19, go_sem, c3]) rfl ?_
            rw [E.out]
            exact ⟨rfl, by repeat (with_reducible first | exact G4 | refine Gr.setCell ?_ (by exact Nat.le_refl _) _)⟩
        · obtain ⟨m, rfl⟩ : ∃ m : Nat, v = m := ⟨v.toNat, by omega⟩
          have hm8 : m ≤ 8000 := by omega
          have x1 : decide ((m : Int) < 0) = false := by simp
          have x2 : decide (8000 < (m : Int)) = false := by simp; omega
          have HI : Hid _ := fun W (h : Po W) => itoa_gr m W h (by omega) (by omega)
          simp only [Lib.itoa_nonneg] at HI
          by_cases hd2 : Lib.decDigits m = d
          · have E : Hid (Prs.insW op (Prs.parts 32 d) = .ok ⟨op, m⟩) := by
              show Prs.insW op (Prs.parts 32 d) = .ok ⟨op, m⟩
              rw [E0.out, Prs.num_of hm8 hd2]
            clear E0 HV
            subst hd2
            go_upto_region 10 with (go_at_call 28; refine (HA.out ()).mono ?_; rintro e w4 ⟨rfl, hg4⟩)
            have kb4 := (hg4.block _ (lt_of_someE kb3)).trans kb3
            have G4 := G3.trans hg4
            clear hg4 kb3 G3
            go_upto_region 12 with (go_at_call 25; refine (HI.out _ (hP.gr G4)).mono ?_; rintro e w5 ⟨rfl, hg5⟩)
            obtain ⟨c3, f3⟩ := row_all ((hg5.block _ (lt_of_someE kb4)).trans kb4)
            have G5 := G4.trans hg5
            clear hg5 kb4 G4
            go_wp2
            refine bodyPost_ret (v := .tuple #[.agg #[.int .i64 op, .int .i64 m], .int .i64 0]) (by simp [results, Tryd.results19, go_sem, c3]) rfl ?_
            rw [E.out]
            exact ⟨rfl, by repeat (with_reducible first | exact G5 | refine Gr.setCell ?_ (by exact Nat.le_refl _) _)⟩
          · have E : Hid (Prs.insW op (Prs.parts 32 d) = .error 4) := by
              show Prs.insW op (Prs.parts 32 d) = .error 4
              rw [E0.out, Prs.num_bad HV.out hd2]
            have hq : (Lib.decDigits m == d) = false := by simpa using hd2
            clear E0 HV
            go_upto_region 10 with (go_at_call 28; refine (HA.out ()).mono ?_; rintro e w4 ⟨rfl, hg4⟩)
            have kb4 := (hg4.block _ (lt_of_someE kb3)).trans kb3
            have G4 := G3.trans hg4
            clear hg4 kb3 G3
            go_upto_region 11 with (go_at_call 25; refine (HI.out _ (hP.gr G4)).mono ?_; rintro e w5 ⟨rfl, hg5⟩)
            obtain ⟨c3, f3⟩ := row_all ((hg5.block _ (lt_of_someE kb4)).trans kb4)
            have G5 := G4.trans hg5
            clear hg5 kb4 G4
            go_wp2
            refine bodyPost_ret (v := .tuple #[.agg #[.int .i64 0, .int .i64 0], .int .i64 4]) (by simp [results, Tryd.results19, go_sem, c3]) rfl ?_
            rw [E.out]
            exact ⟨rfl, by repeat (with_reducible first | exact G5 | refine Gr.setCell ?_ (by exact Nat.le_refl _) _)⟩
theorem instructionT_any (t : List UInt8) (w : World) (hl : t.length ≤ 200000) (hT : Opr w) (hP : Po w) (hE : Er w) :
    Calls Tryd.prog 19 #[.string ⟨t.toArray⟩] w (InsTPost w (insR (Prs.ins t))) := by
  rcases Prs.cut_case 32 t with ⟨h1, h2⟩ | ⟨a, r, h1, h2, h3⟩
  · rw [Prs.ins_of (Prs.parts_none h1)]
    exact insT_plain t w hl hT hP hE h1 h2
  · have hp : Prs.parts 32 t = a :: Prs.parts 32 r := by rw [h1]; exact Prs.parts_cut h2 r
    rw [Prs.ins_of hp]
    exact insT_blank t a r w hl (by rw [h1] at hl; simp at hl; omega) hT hP hE h3
end Go.Proofs.YtoolimfdadpmpaaDoor
