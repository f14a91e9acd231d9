/- Contract: write of Gen's writer (it calls itself). -/
import Derived.Test.YtcpmbjlhblkniaaDoorGenY
namespace Go.Proofs.YtcpmbjlhblkniaaDoor
open Go.ChangeShapes Go.WideShapes Go.ChangeAt Go.RowKit Go.Maps
set_option linter.unusedVariables false
set_option maxRecDepth 100000
/-- Behind the store of how long the code is. -/
theorem GW.lay {w0 w : World} {base wb lb M : Nat} {na : Option Addr} {ncap : Nat} {nodes : List Tre.Nod} {s : Gn.GS} {cv pv : Value} {cs : Array Value} {D : DataW Unit} {i : Nat} (h : GW w0 w base wb lb M na ncap nodes s cv pv cs D) (hi : i < nodes.length) :
    GM w0 base wb lb M na ncap nodes (Gn.done s i) (w.setCell ⟨lb, i, none⟩ (.int .i64 s.code.length)) ∧ Kp wb w (w.setCell ⟨lb, i, none⟩ (.int .i64 s.code.length)) := by
  obtain ⟨n1, n2, n3⟩ := h.ne
  have b1 := h.b1
  have l1 := h.l1
  have m1 := h.m1
  have bs := h.base
  have ho : ∀ x, x ≠ lb → (w.setCell ⟨lb, i, none⟩ (.int .i64 s.code.length)).heap[x]? = w.heap[x]? := fun x hne => heap_setCell_other w ⟨lb, i, none⟩ x _ hne
  refine ⟨⟨cv, pv, cs.setIfInBounds i (.int .i64 s.code.length), D, ?_, ?_, ?_, ?_, ?_, ?_, ?_, ?_, h.ns, h.nok, h.b0, h.l0, h.m0, h.b1, h.l1, h.m1, ?_⟩, ⟨?_, ?_⟩⟩
  · rw [ho wb n1]; exact h.box
  · exact owns_same h.code fun x hx => ho x (by have := (owns_lt h.code hx).1; omega)
  · exact heap_setCell_same w lb i _ _ (.int .i64 s.code.length) h.lens
  · simpa using h.lsize
  · intro j hj
    have hs := h.lsize
    show (cs.setIfInBounds i (Value.int .i64 s.code.length))[j]? = some (Value.int .i64 (Gn.updL s.len i s.code.length j))
    unfold Gn.updL
    by_cases e : j = i
    · subst e
      rw [if_pos rfl, Array.getElem?_setIfInBounds_self_of_lt (by omega)]
    · rw [if_neg e, Array.getElem?_setIfInBounds_ne (fun h => e h.symm)]
      exact h.lat j hj
  · exact owns_same h.pool fun x hx => ho x (by have := (owns_lt h.pool hx).1; omega)
  · exact h.map.same (ho M (Ne.symm n3))
  · exact Gr.setCell h.gr h.l0 _
  · simpa [World.setCell] using bs
  · simp [World.setCell]
  · intro b c t hb ht1 ht2 hne
    rw [ho b (fun e => by
      have h2 := h.lens
      rw [← e, hb] at h2
      injection h2 with h2
      injection h2 with _ h5
      exact ht2 h5)]
    exact hb
theorem GInv.small {f : Fst} (hG : Good f) {s : Gn.GS} {ds : List Int} (h : Gn.GInv f.nodes f.answers.length s ds) : s.code.length ≤ 40000 ∧ s.pool.length ≤ 8000 ∧ ∀ i, s.len i ≤ 40000 := by
  have h1 := h.code
  have h2 := h.pool
  have h3 := Gn.cnt_le s.len f.nodes.length
  have h4 := hG.n8
  refine ⟨by omega, by omega, fun i => ?_⟩
  rcases Nat.eq_zero_or_pos (s.len i) with e | e
  · omega
  · have := (h.node i e).le
    omega
set_option maxHeartbeats 6400000 in
theorem write_any {f : Fst} (hG : Good f) {w0 : World} {base wb lb M : Nat} {na : Option Addr} {ncap : Nat} : ∀ (n i : Nat) (s : Gn.GS) (ds : List Int) (w : World), i < n → i < f.nodes.length → Gn.GInv f.nodes f.answers.length s ds → GM w0 base wb lb M na ncap f.nodes s w →
    Calls Tryd.prog 35 #[.pointer (some ⟨wb, 0, none⟩), .int .i64 i] w fun e w' => e = .returned (.tuple #[]) ∧ GM w0 base wb lb M na ncap f.nodes (Gn.write f.nodes n i s) w' ∧ Kp wb w w'
  | 0, i, s, ds, w, h, _, _, _ => by omega
  | n + 1, i, s, ds, w, hin, hi, hv, hm => by
    obtain ⟨z1, z2, z3⟩ := GInv.small hG hv
    have n8 := hG.n8
    obtain ⟨cv, pv, cs, D, hW⟩ := hm.ex
    obtain ⟨ca, ccap, rfl⟩ := row_formG hW.code
    obtain ⟨nd, hnd⟩ : ∃ nd, f.nodes[i]? = some nd := ⟨_, List.getElem?_eq_getElem hi⟩
    obtain ⟨lf, a, b, l, m⟩ := nd
    obtain ⟨g, o, rfl, hg, q0, q1, q2, q3, q4⟩ := hW.node hnd
    obtain ⟨c, fz⟩ := row_all hW.box
    obtain ⟨c2, _⟩ := row_all hW.lens
    have hat := (c2 i).trans (hW.lat i hi)
    have hj : (i : Int) < (f.nodes.length : Int) := by omega
    have hb1 := hW.b1
    have hbs := hW.base
    have HM : Hid _ := fun W (hg : Gr w W) => hm.gr_ hg
    have hw : Gn.write f.nodes (n + 1) i s = if 0 < s.len i then s else Gn.done (if lf = true then Gn.add s 6 a else Gn.ask f.nodes (Gn.write f.nodes n l.toNat (Gn.write f.nodes n m.toNat s)) ⟨lf, a, b, l, m⟩) i := by
      rw [Gn.write, hnd]
    by_cases h0 : 0 < s.len i
    · rw [if_pos h0] at hw
      have HWR : Hid _ := hw
      have d0 : decide (0 < (s.len i : Int)) = true := by simpa using h0
      have d1 : decide (0 < s.len i) = true := by simpa using h0
      clear h0 hw hnd hm hW c2 hv
      go_enter Tryd.func35, Tryd.ntmps35
      go_wp2_with fail
      refine bodyPost_ret (results_none rfl _ _ _) rfl ?_
      exact ⟨rfl, by rw [HWR.out]; exact HM.out _ (Gr.refl _), Kp.ofGr (Gr.refl _)⟩
    · rw [if_neg h0] at hw
      have d0 : decide (0 < (s.len i : Int)) = false := by simpa using h0
      have d1 : decide (0 < s.len i) = false := by simpa using h0
      cases lf with
      | true =>
        rw [if_pos rfl] at hw
        have HWR : Hid _ := hw
        have HA : Hid _ := fun W (hg : Gr w W) => add_any 6 a W (hm.gr_ hg) (by omega)
        clear h0 hw hnd hm hW c2 hv HM
        go_enter Tryd.func35, Tryd.ntmps35
        go_wp2_with fail
        refine (HA.out _ (by repeat (with_reducible first | exact Gr.refl _ | refine Gr.drew ?_ | refine Gr.alloc ?_ _))).mono ?_
        rintro e w1 ⟨rfl, hm1, hk1⟩
        have hkk := Kp.trans (Kp.ofGr ((Gr.refl w).alloc (.cells #[.bool true, .int .i64 a, .int .i64 b, .int .i64 l, .int .i64 m] 65))) hk1
        clear hk1 c fz q0 q1 q2 q3 q4 hat
        obtain ⟨cv1, pv1, cs1, D1, hW1⟩ := hm1.ex
        obtain ⟨ca1, ccap1, rfl⟩ := row_formG hW1.code
        have k1 := (row_all hW1.box).1 1
        have k2 := (row_all hW1.box).1 2
        simp at k1 k2
        have k3 := (row_all hW1.lens).1 i
        rw [hW1.lat i hi] at k3
        have k4 := (row_all hW1.lens).2 i
        have hne := hW1.ne.1
        have HLY : Hid _ := fun W (hg : Gr w1 W) => (hW1.gr_ hg).lay hi
        have HKK : Hid _ := hkk
        obtain ⟨ln, hln⟩ : ∃ ln, ln = (Gn.add s 6 a).code.length := ⟨_, rfl⟩
        rw [← hln] at k1 HLY
        have hO : w1.cell? ⟨wb, 1, none⟩ = some (.slice ca1 ln ccap1) ∧ w1.cell? ⟨wb, 2, none⟩ = some (.slice (some ⟨lb, 0, none⟩) f.nodes.length f.nodes.length) ∧ w1.cell? ⟨lb, i, none⟩ = some (.int .i64 ((Gn.add s 6 a).len i)) ∧ w1.frozen? ⟨lb, i, none⟩ = false := ⟨k1, k2, k3, k4⟩
        clear hW1 hm1 hkk k1 k2 k3 k4 hln z1 z2 z3 n8 hbs hb1 hG
        go_upto_region 7 with fail
        go_region_with (fail)
        all_goals go_end0
        all_goals
          refine ⟨rfl, ?_, ?_⟩
          · rw [HWR.out]
            exact GM.gr_ (HLY.out _ (Gr.refl _)).1 (by repeat (with_reducible first | exact Gr.refl _ | refine Gr.drew ?_))
          · exact HKK.out.trans ((HLY.out _ (Gr.refl _)).2.trans (Kp.ofGr (by repeat (with_reducible first | exact Gr.refl _ | refine Gr.drew ?_))))
      | false =>
        rw [if_neg (by simp)] at hw
        have HWR : Hid _ := hw
        obtain ⟨l0, l1, m0, m1⟩ := hG.inner hnd
        obtain ⟨l, rfl⟩ : ∃ q : Nat, l = q := ⟨l.toNat, by omega⟩
        obtain ⟨m, rfl⟩ : ∃ q : Nat, m = q := ⟨m.toNat, by omega⟩
        rw [Int.toNat_natCast, Int.toNat_natCast] at hw HWR
        obtain ⟨d1', i1, w1', x1, y1⟩ := Gn.write_inv hG n m s ds (by omega) (by omega) hv
        obtain ⟨d2', i2, w2', x2, y2⟩ := Gn.write_inv hG n l _ d1' (by omega) (by omega) i1
        obtain ⟨s1, hs1⟩ : ∃ s1, s1 = Gn.write f.nodes n m s := ⟨_, rfl⟩
        have HRM : Hid _ := fun W (hg : Gr w W) => write_any hG n m s ds W (by omega) (by omega) hv (hm.gr_ hg)
        have HRL : Hid _ := fun W (hW : GM w0 base wb lb M (some ⟨g, o, none⟩) ncap f.nodes (Gn.write f.nodes n m s) W) => write_any hG n l _ d1' W (by omega) (by omega) i1 hW
        obtain ⟨u1, u2, u3⟩ := GInv.small hG i2
        have hbw := (hW.nok _ (List.mem_of_getElem? hnd)).bound
        have HAS : Hid _ := fun W (hW : GM w0 base wb lb M (some ⟨g, o, none⟩) ncap f.nodes (Gn.write f.nodes n l (Gn.write f.nodes n m s)) W) => ask_any false a b l m W hW (by omega) (by omega) (by have := u3 l; omega) (by have := u3 m; omega) (by omega) (by omega) (by omega) hbw
        rw [← hs1] at HRM HRL HAS HWR
        obtain ⟨s2, hs2⟩ : ∃ s2, s2 = Gn.write f.nodes n l s1 := ⟨_, rfl⟩
        rw [← hs2] at HRL HAS HWR
        obtain ⟨s3, hs3⟩ : ∃ s3, s3 = Gn.ask f.nodes s2 ⟨false, a, b, l, m⟩ := ⟨_, rfl⟩
        rw [← hs3] at HAS HWR
        clear h0 hw hnd hm hW c2 hv HM w1' w2' x1 x2 y1 y2 i1 i2 hs1 hs2 hs3 u1 u2 u3 hbw l0 l1 m0 m1 d1' d2'
        go_enter Tryd.func35, Tryd.ntmps35
        go_wp2_with fail
        refine (HRM.out _ (by repeat (with_reducible first | exact Gr.refl _ | refine Gr.drew ?_ | refine Gr.alloc ?_ _))).mono ?_
        rintro e w1 ⟨rfl, hm1, hk1⟩
        have hxb : w.heap.size ≠ wb := by omega
        have kx1 := hk1.kp _ _ _ (heapA w _) (by decide) (by decide) hxb
        have e1 := (row_all kx1).1
        have hkk1 := Kp.trans (Kp.ofGr ((Gr.refl w).alloc (.cells #[.bool false, .int .i64 a, .int .i64 b, .int .i64 l, .int .i64 m] 65))) hk1
        clear hk1 c fz q0 q1 q2 q3 q4 hat
        go_wp2_with fail
        refine (HRL.out _ hm1).mono ?_
        rintro e w2 ⟨rfl, hm2, hk2⟩
        have kx2 := hk2.kp _ _ _ kx1 (by decide) (by decide) hxb
        have e2 := (row_all kx2).1
        have hkk2 := hkk1.trans hk2
        clear hk2 hkk1 kx1 e1 hm1
        go_wp2_with fail
        refine (HAS.out _ hm2).mono ?_
        rintro e w3 ⟨rfl, hm3, hk3⟩
        have hkk := hkk2.trans hk3
        clear hk3 hkk2 kx2 e2 hm2
        obtain ⟨cv1, pv1, cs1, D1, hW1⟩ := hm3.ex
        obtain ⟨ca1, ccap1, rfl⟩ := row_formG hW1.code
        have k1 := (row_all hW1.box).1 1
        have k2 := (row_all hW1.box).1 2
        simp at k1 k2
        have k3 := (row_all hW1.lens).1 i
        rw [hW1.lat i hi] at k3
        have k4 := (row_all hW1.lens).2 i
        have hne := hW1.ne.1
        have HLY : Hid _ := fun W (hg : Gr w3 W) => (hW1.gr_ hg).lay hi
        have HKK : Hid _ := hkk
        obtain ⟨ln, hln⟩ : ∃ ln, ln = s3.code.length := ⟨_, rfl⟩
        rw [← hln] at k1 HLY
        clear hW1 hm3 hkk hln z1 z2 z3 n8 hbs hb1 hG
        go_upto_region 7 with fail
        go_region_with (fail)
        all_goals go_end0
        all_goals
          refine ⟨rfl, ?_, ?_⟩
          · rw [HWR.out]
            exact GM.gr_ (HLY.out _ (Gr.refl _)).1 (by repeat (with_reducible first | exact Gr.refl _ | refine Gr.drew ?_))
          · exact HKK.out.trans ((HLY.out _ (Gr.refl _)).2.trans (Kp.ofGr (by repeat (with_reducible first | exact Gr.refl _ | refine Gr.drew ?_))))
end Go.Proofs.YtcpmbjlhblkniaaDoor
