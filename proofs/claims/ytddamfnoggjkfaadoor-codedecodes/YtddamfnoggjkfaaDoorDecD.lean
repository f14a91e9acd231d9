/- Contract: Decode (P5.6), by the program. -/
import Derived.Test.YtddamfnoggjkfaaDoorDecP
import Derived.Test.YtddamfnoggjkfaaDoorVerV
namespace Go.Proofs.YtddamfnoggjkfaaDoor
open Go.ChangeShapes Go.WideShapes Go.ChangeAt Go.RowKit
set_option linter.unusedVariables false
def mkA (v : Dec.AV) : Ans := ⟨v.1, v.2.1, v.2.2.1, none, 0, v.2.2.2.1, v.2.2.2.2⟩
def mkP (v : Dec.PV) : Prg := ⟨none, 0, v.1, none, 0, v.2.1, none, 0, v.2.2.map mkA⟩
def Prg.val (p : Prg) : Dec.PV := (p.code, p.pool, p.answers.map Ans.val)
theorem mkA_val (x : Ans) : (mkA x.val).fault = x.fault := rfl
theorem ansE_val (l : List Ans) (i : Nat) : ansE ((l.map Ans.val).map mkA) i = ansE l i := by
  unfold ansE
  rw [List.getElem?_map, List.getElem?_map]
  cases l[i]? <;> rfl
theorem prgF_val (p : Prg) : Ver.prgF (mkP p.val) = Ver.prgF p := by
  unfold Ver.prgF mkP Prg.val
  simp only [List.length_map]
  rw [show ansE ((p.answers.map Ans.val).map mkA) = ansE p.answers from funext (ansE_val p.answers)]
theorem verify_val (p : Prg) : Ver.verify (mkP p.val) = Ver.verify p := by
  unfold Ver.verify
  rw [prgF_val]
  rfl
/-- P5.6: what is wrong with bytes, and the program that they tell. -/
def decE (l : List Int) : Int := if 200000 < l.length then 1 else if (Dec.prog l).2.2 = 0 then (Ver.verify (mkP (Dec.prog l).1)).2.2 else (Dec.prog l).2.2
def decV (l : List Int) : Dec.PV := if decE l = 0 then (Dec.prog l).1 else ([], [], [])
theorem decE_long {l : List Int} (h : 200000 < l.length) : decE l = 1 := if_pos h
theorem decE_bad {l : List Int} (h : ¬ 200000 < l.length) (h' : (Dec.prog l).2.2 ≠ 0) : decE l = (Dec.prog l).2.2 := by rw [decE, if_neg h, if_neg h']
theorem decE_ok {l : List Int} (h : ¬ 200000 < l.length) (h' : (Dec.prog l).2.2 = 0) : decE l = (Ver.verify (mkP (Dec.prog l).1)).2.2 := by rw [decE, if_neg h, if_pos h']
structure DecPost (l : List Int) (w : World) (en : Ending) (w' : World) : Prop where
  ex : ∃ p : Prg, en = .returned (.tuple #[.agg p.cells.toArray, .int .i64 (decE l)]) ∧ PrgOk w' p ∧ p.val = decV l
  gr : Gr w w'
def emptyP : Prg := ⟨none, 0, [], none, 0, [], none, 0, []⟩
theorem emptyP_ok (w : World) : PrgOk w emptyP := ⟨Nat.le_refl _, Nat.le_refl _, Nat.le_refl _, ⟨Nat.zero_le _, fun i x hx => by simp [emptyP] at hx⟩, (fun x hx => by simp [emptyP] at hx), IntsAt.nil _ _, (fun x hx => by simp [emptyP] at hx), ⟨Nat.zero_le _, fun i x hx => by simp [emptyP] at hx⟩, fun x hx => by simp [emptyP] at hx⟩
theorem decPost_no {l : List Int} {w w' : World} {en : Ending} {e : Int} (hE : decE l = e) (he : e ≠ 0) (hen : en = .returned (.tuple #[.agg #[.slice none 0 0, .slice none 0 0, .slice none 0 0], .int .i64 e])) (hg : Gr w w') : DecPost l w en w' :=
  ⟨⟨emptyP, by rw [hen, hE]; rfl, emptyP_ok _, by rw [decV, hE, if_neg he]; rfl⟩, hg⟩
set_option maxHeartbeats 3200000 in
theorem decode_any (l : List Int) (a : Option Addr) (cap : Nat) (w : World) (hb : BysAt w a l) (hby : ∀ z ∈ l, 0 ≤ z ∧ z ≤ 255) (hc : l.length ≤ cap) (hc2 : cap ≤ 9223372036854775807) (hT : Opr w) :
    Calls Tryd.prog 8 #[.slice a l.length cap] w (DecPost l w) := by
  by_cases hlong : 200000 < l.length
  · have E1 : Hid _ := decE_long hlong
    have g : decide (200000 < ((l.length : Nat) : Int)) = true := by rw [decide_eq_true_iff]; omega
    obtain ⟨cr, fr⟩ := row_all (heapA w (Obj.cells #[.slice none 0 0, .slice none 0 0, .slice none 0 0] 26))
    clear hb hlong
    go_enter Tryd.func8, Tryd.ntmps8
    go_wp2
    refine bodyPost_ret (v := .tuple #[.agg #[.slice none 0 0, .slice none 0 0, .slice none 0 0], .int .i64 1]) (by simp [results, Tryd.results8, go_sem]) rfl (decPost_no E1.out (by decide) rfl ?_)
    repeat (with_reducible first | exact Gr.refl _ | refine Gr.alloc ?_ _ | refine Gr.setCell ?_ (by simp) _)
  · have g : decide (200000 < ((l.length : Nat) : Int)) = false := by rw [decide_eq_false_iff_not]; omega
    have EB : Hid _ := fun h => decE_bad (l := l) hlong h
    have EO : Hid _ := fun h => decE_ok (l := l) hlong h
    have EV : Hid (∀ h : decE l = 0, decV l = (Dec.prog l).1) := fun h => if_pos h
    have hlong2 := hlong
    clear hlong
    obtain ⟨W, hW⟩ : ∃ W, W = w.alloc (Obj.cells #[.slice none 0 0, .slice none 0 0, .slice none 0 0] 26) := ⟨_, rfl⟩
    have gW : Gr w W := by rw [hW]; exact (Gr.refl _).alloc _
    have zW : W.heap.size = w.heap.size + 1 := by rw [hW]; simp
    have kW : W.heap[w.heap.size]? = some (.cells #[.slice none 0 0, .slice none 0 0, .slice none 0 0] 26) := by rw [hW]; exact heapA _ _
    have hRd : Rd False W (W.alloc (Obj.cells #[.slice a l.length cap, .int .i64 0] 51)) (w.heap.size + 1) l 0 := ⟨(Gr.refl _).alloc _, by omega, hby, a, cap, by rw [← zW]; exact heapA _ _, hc, hc2, hb.gr gW, fun h => h.elim⟩
    have HPG : Hid _ := fun (_ : Unit) => program_any W _ (w.heap.size + 1) l hRd (hT.gr gW)
    obtain ⟨D, hD⟩ : ∃ D, Dec.prog l = D := ⟨_, rfl⟩
    rw [hD] at HPG EB EO EV
    obtain ⟨V, l', e'⟩ := D
    simp only at EB EO EV
    go_enter Tryd.func8, Tryd.ntmps8
    go_upto_region 4 with fail
    rw [← hW]
    clear hD hRd hW
    go_upto_region 5 with (go_at_call 19; refine (HPG.out ()).mono ?_; rintro en w1 ⟨⟨⟨ca, ccap, code, pa, pcap, pool, aa, acap, ans⟩, rfl, hp1, hc1, hp2, ha1, hnw⟩, hR1, hB1⟩; simp only [Prg.cells])
    simp only at hc1 hp2 ha1
    obtain ⟨X, hX⟩ : ∃ X, X = w1.alloc (Obj.cells #[.slice ca code.length ccap, .slice pa pool.length pcap, .slice aa ans.length acap] 26) := ⟨_, rfl⟩
    have gX : Gr w1 X := by rw [hX]; exact (Gr.refl _).alloc _
    have kX : X.heap[w1.heap.size]? = some (.cells #[.slice ca code.length ccap, .slice pa pool.length pcap, .slice aa ans.length acap] 26) := by rw [hX]; exact heapA _ _
    have gww : Gr w X := (hB1.gr ((gW.trans ((Gr.refl W).alloc _))) (by omega)).trans gX
    have k1 : X.heap[w.heap.size]? = some (.cells #[.slice none 0 0, .slice none 0 0, .slice none 0 0] 26) := by
      have h1 := hB1.row ((Below.heap_alloc W _ _ (by omega)).trans kW) (by omega)
      exact (gX.block _ (lt_of_someE h1)).trans h1
    have zz : w.heap.size + 2 ≤ w1.heap.size := by have := hB1.size; simp at this; omega
    have hR2 := hR1.bg gX
    have hP2 := hp1.gr gX
    rw [← hX]
    clear hX hR1 hp1 hB1 gX HPG kW
    obtain ⟨ra, rcap, hrb1, hrb2, hrb3, hrb4, _⟩ := hR2.ex
    obtain ⟨cb, fb⟩ := row_all hrb1
    obtain ⟨cr, fr⟩ := row_all k1
    obtain ⟨cx, fx⟩ := row_all kX
    simp only at cb
    have K1 : Hid _ := k1
    have KX : Hid _ := kX
    have hV : Prg.val ⟨ca, ccap, code, pa, pcap, pool, aa, acap, ans⟩ = V := by
      obtain ⟨v1, v2, v3⟩ := V
      simp only at hc1 hp2 ha1
      rw [hc1, hp2] at *
      simp only [Prg.val, ha1]
    have HV : Hid _ := hV
    clear hrb1 k1 kX hc1 hp2 ha1 hV hR2
    by_cases he : e' = 0
    · have hTX := hT.gr gww
      have HVE : Hid _ := fun W' (hw : PrgOk W' ⟨ca, ccap, code, pa, pcap, pool, aa, acap, ans⟩) (ht : Opr W') => verify_any ⟨ca, ccap, code, pa, pcap, pool, aa, acap, ans⟩ W' hw ht
      have E1 := EO.out he
      rw [← HV.out, verify_val] at E1
      obtain ⟨VV, hVV⟩ : ∃ VV, VV = Ver.verify ⟨ca, ccap, code, pa, pcap, pool, aa, acap, ans⟩ := ⟨_, rfl⟩
      rw [← hVV] at HVE E1
      obtain ⟨x, y, z⟩ := VV
      simp only [Prg.cells] at HVE E1
      have HE1 : Hid _ := E1
      clear EB EO hVV E1
      subst he
      by_cases hz : z = 0
      · subst hz
        go_upto_region 8 with (go_at_call 11; refine (HVE.out _ hP2 hTX).mono ?_; rintro en w3 ⟨rfl, hg3⟩; simp only [ret3])
        have gE := gww.trans hg3
        obtain ⟨c1, f1⟩ := row_all ((hg3.block _ (lt_of_someE K1.out)).trans K1.out)
        obtain ⟨c2, f2⟩ := row_all ((hg3.block _ (lt_of_someE KX.out)).trans KX.out)
        have hP3 := hP2.gr hg3
        clear cb fb cr fr cx fx HVE hP2
        go_wp2
        refine bodyPost_ret (v := .tuple #[.agg #[.slice ca code.length ccap, .slice pa pool.length pcap, .slice aa ans.length acap], .int .i64 0]) (by simp [results, Tryd.results8, go_sem, c1]) rfl ⟨⟨⟨ca, ccap, code, pa, pcap, pool, aa, acap, ans⟩, by rw [HE1.out]; rfl, ?_, by rw [EV.out HE1.out]; exact HV.out⟩, ?_⟩
        · repeat (with_reducible first | exact hP3 | refine PrgOk.sets ?_ hnw (by simp; omega) _)
        · repeat (with_reducible first | exact gE | refine Gr.setCell ?_ (by simp) _)
      · have gz : (z != 0) = true := by simpa using hz
        go_upto_region 8 with (go_at_call 11; refine (HVE.out _ hP2 hTX).mono ?_; rintro en w3 ⟨rfl, hg3⟩; simp only [ret3])
        have gE := gww.trans hg3
        obtain ⟨c1, f1⟩ := row_all ((hg3.block _ (lt_of_someE K1.out)).trans K1.out)
        clear cb fb cr fr cx fx HVE hP2
        go_wp2
        refine bodyPost_ret (v := .tuple #[.agg #[.slice none 0 0, .slice none 0 0, .slice none 0 0], .int .i64 z]) (by simp [results, Tryd.results8, go_sem, c1]) rfl (decPost_no HE1.out hz rfl ?_)
        repeat (with_reducible first | exact gE | refine Gr.setCell ?_ (by simp) _)
    · have g1 : (e' != 0) = true := by simpa using he
      have E1 : Hid _ := EB.out he
      clear EB EO EV cx fx
      go_wp2
      go_region
      all_goals
        go_wp2
        refine bodyPost_ret (v := .tuple #[.agg #[.slice none 0 0, .slice none 0 0, .slice none 0 0], .int .i64 e']) (by simp [results, Tryd.results8, go_sem, cr]) rfl (decPost_no E1.out he rfl ?_)
        repeat (with_reducible first | exact gww | refine Gr.drew ?_ | refine Gr.drewN ?_ _ | refine Gr.alloc ?_ _ | refine Gr.setCell ?_ (by simp) _)
end Go.Proofs.YtddamfnoggjkfaaDoor
