/- Contract: Verify (P5.2, P5.3), by the document's answer. -/
import Derived.Test.YtcpmbjlhblkniaaVerQ
import Derived.Test.YtcpmbjlhblkniaaVerF
import Derived.Deep.CutRange
import Derived.Deep.CutBlock
namespace Go.Proofs.Ytcpmbjlhblkniaa
open Go.ChangeShapes Go.WideShapes Go.ChangeAt Go.RowKit Go.Maps
set_option linter.unusedVariables false
/-- The loop's memory. -/
structure RefR (w wr : World) (M1 M2 : Nat) (box : Obj) (code : List Ins) (R : Int × Int × Int) (i : Nat) (s t : Int) (on : Ver.On) (n1 n2 : Nat) (D1 D2 : DataW Unit) : Prop where
  gr : Gr w wr
  box : wr.heap[w.heap.size]? = some box
  m1 : MapR wr M1 n1 D1 (Ver.f1 on)
  m2 : MapR wr M2 n2 D2 (Ver.f2 on)
  c1 : n1 ≤ 1 + 2 * i
  c2 : n2 ≤ 1 + 2 * i
  ok : Ver.OnOk on
  eq : Ver.run code.length (code.drop i) i on s t = R
  s0 : 0 ≤ s
  s1 : s ≤ 8001
  t0 : 0 ≤ t
  t1 : t ≤ 8
theorem IntsAt.by_ {w w' : World} {a : Option Addr} {zs : List Int} {M : Nat} (h : IntsAt w a zs) (hg : w.grownBy w' (some M)) (hn : NewAt (M + 1) a) : IntsAt w' a zs :=
  ⟨h.len, fun i z hz => by
    obtain ⟨b, o, e, hb, hc⟩ := h.cell i z hz
    have hle := hn.le b o _ e
    have hne : b ≠ M := by omega
    exact ⟨b, o, e, Nat.lt_of_lt_of_le hb hg.size, (World.cell?_of_block (w := w) (a := ⟨b, o + i, none⟩) (blkBy hg hb hne)).trans hc⟩⟩
theorem IntsAt.drew {w : World} {a : Option Addr} {zs : List Int} (h : IntsAt w a zs) : IntsAt w.drew a zs := h.gr (Gr.refl _).drew
/-- The inner loop's memory. -/
structure RinR (w ws : World) (M1 M2 : Nat) (box : Obj) (a : Option Addr) (js : List Nat) (n i q : Nat) (D k : Int) (J : Int × Ver.On) (on : Ver.On) (d : Int) (n1 n2 : Nat) (D1 D2 : DataW Unit) : Prop where
  gr : Gr w ws
  box : ws.heap[w.heap.size]? = some box
  m1 : MapR ws M1 n1 D1 (Ver.f1 on)
  m2 : MapR ws M2 n2 D2 (Ver.f2 on)
  c1 : n1 ≤ 1 + 2 * i + q
  c2 : n2 ≤ 1 + 2 * i + q
  ok : Ver.OnOk on
  at_ : on i = some (d, k)
  ints : IntsAt ws a (js.map fun j => ((j : Nat) : Int))
  eq : Ver.joins n D (k + 1) (js.drop q) on = J
set_option maxRecDepth 100000 in
set_option maxHeartbeats 12800000 in
theorem verifyOf_any (p : Prg) (w : World) (hp : PrgOk w p) :
    Calls Try.prog 17 #[.agg p.cells.toArray] w fun e w' => e = ret3 (Ver.verify p) ∧ Gr w w' := by
  have HC : Hid _ := fun W (hW : PrgOk W p) => programFault_any p W hW
  by_cases h0 : Ver.prgF p = 0
  · have hg := Ver.good h0
    have E : Hid _ := Ver.verify_yes h0
    have g : (Ver.prgF p != 0) = false := by simpa using h0
    obtain ⟨R, hR⟩ : ∃ R, R = Ver.run p.code.length p.code 0 Ver.on0 0 0 := ⟨_, rfl⟩
    have HR : Hid _ := hR
    rw [E.out, ← hR]
    clear E hR h0
    obtain ⟨F, hF⟩ : ∃ F, F = Ver.prgF p := ⟨_, rfl⟩
    rw [← hF] at HC g
    clear hF
    obtain ⟨ca, ccap, code, pa, pcap, pool, aa, acap, answers⟩ := p
    have l1 := hg.clen
    have l0 := hg.pos
    simp only at l0 l1
    simp only [Prg.cells] at HC ⊢
    have hmm := @run_makeMap Try.prog
    go_enter Try.func17, Try.ntmps17
    go_upto_region 4 with (go_at_call 26; refine (HC.out _ (hp.gr (by exact (Gr.refl _).alloc _))).mono ?_; rintro e w1 ⟨rfl, hg1⟩)
    have k1 := (hg1.block w.heap.size (by simp)).trans (heapA w _)
    have c1 := (row_all k1).1
    have z1 : w.heap.size < w1.heap.size := by have := hg1.size; simp at this; omega
    have gw1 : Gr w w1 := ((Gr.refl _).alloc _).trans hg1
    obtain ⟨w2, hu2, m1, b2⟩ := (MapR.made w1).upd (j := 0) (by omega) (v := 0) (by omega) (by omega) (by omega)
    rw [Ver.f1_start] at m1
    obtain ⟨w3, hu3, m2, b3⟩ := (MapR.made w2).upd (j := 0) (by omega) (v := 1) (by omega) (by omega) (by omega)
    rw [Ver.f2_start] at m2
    have s2 := b2.size
    have s3 := b3.size
    simp at s2 s3
    have kb : w3.heap[w.heap.size]? = some (Obj.cells #[Value.slice ca code.length ccap, Value.slice pa pool.length pcap, Value.slice aa answers.length acap] 29) := by
      rw [blkBy b3 (by simp; omega) (by omega), Below.heap_alloc _ _ _ (by omega), blkBy b2 (by simp; omega) (by omega), Below.heap_alloc _ _ _ (by omega)]; exact k1
    have m1' := m1.same (w' := w3) (by rw [blkBy b3 (by simp; omega) (by omega), Below.heap_alloc _ _ _ (by omega)])
    have gw3 : Gr w w3 := grBy b3 ((grBy b2 (gw1.alloc _) (by omega)).alloc _) (by omega)
    obtain ⟨M1, hM1⟩ : ∃ M, M = w1.heap.size := ⟨_, rfl⟩
    obtain ⟨M2, hM2⟩ : ∃ M, M = w2.heap.size := ⟨_, rfl⟩
    have hst : RefR w w3 w1.heap.size w2.heap.size (Obj.cells #[Value.slice ca code.length ccap, Value.slice pa pool.length pcap, Value.slice aa answers.length acap] 29) code R 0 0 0 Ver.on0 1 1 _ _ :=
      ⟨gw3, kb, m1', m2, by omega, by omega, Ver.OnOk.start, HR.out.symm, by omega, by omega, by omega, by omega⟩
    have n1 : w1.heap.size ≠ w2.heap.size := by omega
    have n2 : w.heap.size < w2.heap.size := by omega
    simp at hu2 hu3
    clear m1 m2 m1' kb k1 b2 b3
    go_wp2_with fail
    go_loopw [9, 10, 11] (fun t s u wr => ∃ (i : Nat) (s' t' : Int) (on : Ver.On) (n1 n2 : Nat) (D1 D2 : DataW Unit), i ≤ code.length ∧ u = .int .i64 i ∧ s = .int .i64 s' ∧ t = .int .i64 t' ∧ RefR w wr w1.heap.size w2.heap.size (Obj.cells #[Value.slice ca code.length ccap, Value.slice pa pool.length pcap, Value.slice aa answers.length acap] 29) code R i s' t' on n1 n2 D1 D2) (fun _ _ u _ => code.length - (intOf u).toNat)
    case atStart => exact ⟨0, 0, 0, _, _, _, _, _, Nat.zero_le _, rfl, rfl, rfl, hst⟩
    case round =>
      obtain ⟨i, s, t, on, n1, n2, D1, D2, hik, rfl, rfl, rfl, hF⟩ := hrel
      clear hst hu2 hu3
      by_cases hlt : i < code.length
      · obtain ⟨x, hx⟩ : ∃ x, code[i]? = some x := ⟨_, List.getElem?_eq_getElem hlt⟩
        obtain ⟨b, o, rfl, hb, hc1, hc2⟩ := hp.cat.cell i x hx
        have q0 := (hF.gr.cell b _ hb).trans hc1
        have q1 := (hF.gr.cell b _ hb).trans hc2
        have hb' : b < wr.heap.size := Nat.lt_of_lt_of_le hb hF.gr.size
        obtain ⟨⟨o1, o2⟩, p0, p1⟩ := hg.ins i x hx
        have cB := (row_all hF.box).1
        have Hx : Hid _ := hx
        obtain ⟨op, n⟩ := x
        simp only at o1 o2 p0 p1 q0 q1
        clear hx hc1 hc2
        have q12 := hF.m1.lookOk (i := i) (by omega)
        have HF : Hid _ := hF
        clear hF
        cases hon : on i with
        | none =>
          have E : Hid _ := Ver.run_none (n := code.length) (s := s) (t := t) Hx.out hon
          rw [Ver.f1_none hon] at q12
          simp at q12
          clear hon
          go_wp2
          have hF := HF.out
          have := hF.c1
          have := hF.c2
          exact ⟨⟨i + 1, s, t, on, n1, n2, D1, D2, by omega, by go_num, rfl, rfl, ⟨hF.gr, hF.box, hF.m1, hF.m2, by omega, by omega, hF.ok, E.out.symm.trans hF.eq, hF.s0, hF.s1, hF.t0, hF.t1⟩⟩, by simp [intOf]; omega⟩
        | some v =>
          obtain ⟨d, k⟩ := v
          rw [Ver.f1_some hon] at q12
          simp at q12
          obtain ⟨d0, d1, k0, k1⟩ := HF.out.ok.bd i d k hon
          have Hon : Hid _ := hon
          have q31 := HF.out.m2.look (i := i) (by omega)
          rw [Ver.f2_some hon] at q31
          simp at q31
          clear hon
          obtain ⟨y0, y1⟩ := lay_bd op
          obtain ⟨y2, y3⟩ := tak_bd op
          have nb : n ≤ 8000 := by
            unfold Ver.choices at p1
            have g1 := hg.plen
            have g2 := hg.alen
            simp only at g1 g2
            split at p1
            · omega
            split at p1
            · omega
            split at p1 <;> omega
          by_cases herr : d < Ver.takes op ∨ 8 < d + (Ver.lays op - Ver.takes op)
          · have E : Hid _ := HF.out.eq.symm.trans (Ver.run_stack Hx.out Hon.out herr)
            clear q31
            rcases ops6 o1 o2 with rfl | rfl | rfl | rfl | rfl | rfl
            all_goals
              simp [Ver.takes, Ver.lays] at herr y0 y1 y2 y3
            all_goals
              first
                | (exfalso; omega)
                | (go_wp2
                   all_goals first | (exfalso; omega) | (exact bodyPost_ret (v := .tuple #[.int .i64 0, .int .i64 0, .int .i64 10]) (by simp [results, Try.results17, go_sem]) rfl ⟨by rw [E.out]; rfl, HF.out.gr⟩))
          · obtain ⟨D, hD⟩ : ∃ D, D = d + (Ver.lays op - Ver.takes op) := ⟨_, rfl⟩
            obtain ⟨js, hjs⟩ : ∃ js, js = Ver.nxts op n i := ⟨_, rfl⟩
            have Hm : Hid (∀ j ∈ js, i < j ∧ j ≤ code.length) := by
              intro j hj
              rw [hjs] at hj
              refine Ver.nxts_mem hj p0 (fun ho => ?_) hlt
              unfold Ver.choices at p1
              rcases ho with rfl | rfl <;> simpa using p1
            have hjl2 : js.length ≤ 2 := by rw [hjs]; unfold Ver.nxts; split; simp; split; simp; split <;> simp
            have HNx : Hid _ := fun (W : World) (h1 : b < W.heap.size) (h2 : W.cell? ⟨b, o + i * 2, none⟩ = some (.int .i64 op)) (h3 : W.cell? ⟨b, o + i * 2 + 1, none⟩ = some (.int .i64 n)) => by
              have := goes_any (some ⟨b, o, none⟩) pa aa code.length ccap pool.length pcap answers.length acap i op n b o W rfl h1 h2 h3 hlt l1 p0 nb
              rw [← hjs] at this
              exact this
            obtain ⟨J, hJ0⟩ : ∃ J, J = Ver.joins code.length D (k + 1) js on := ⟨_, rfl⟩
            have hJ : Hid _ := show Ver.joins code.length D (k + 1) (js.drop 0) on = J by rw [hJ0]; rfl
            have hJD : Hid _ := show Ver.joins code.length (d + (Ver.lays op - Ver.takes op)) (k + 1) (Ver.nxts op n i) on = J by rw [hJ0, hD, hjs]
            have D0 : 0 ≤ D := by omega
            have D8 : D ≤ 8 := by omega
            have hD8 : decide (8 < D) = false := by simp; omega
            have HD : Hid _ := hD
            have Herr : Hid _ := herr
            clear hJ0 hjs
            go_upto_block 2 with fail
            go_cut [14] from 31 to 137 (fun v wc => v = .int .i64 D ∧ wc = wr)
            case first =>
              rcases ops6 o1 o2 with rfl | rfl | rfl | rfl | rfl | rfl
              all_goals
                simp [Ver.takes, Ver.lays] at herr hD y0 y1 y2 y3
              all_goals
                go_wp2
              all_goals first
                | (exfalso; omega)
                | (go_meet
                   exact ⟨by congr 1; omega, rfl⟩)
            case rest =>
              obtain ⟨hv, hw⟩ := hcut
              subst wc
              subst u14
              clear herr hD
              go_upto_if 72 with fail
              go_cut [9] from 31 to 137 (fun v wc => v = .int .i64 (max t D) ∧ wc = wr)
              case first =>
                by_cases hm : t < D
                · have hm' : decide (t < D) = true := by simpa using hm
                  go_wp2
                  all_goals
                    go_meet
                    exact ⟨by congr 1; omega, rfl⟩
                · have hm' : decide (t < D) = false := by simpa using hm
                  go_wp2
                  all_goals
                    go_meet
                    exact ⟨by congr 1; omega, rfl⟩
              case rest =>
                obtain ⟨hv, hw⟩ := hcut
                subst wc
                subst u9
                go_upto_if 78 with fail
                go_cut [10] from 31 to 137 (fun v wc => v = .int .i64 (max s (k + 1)) ∧ wc = wr)
                case first =>
                  by_cases hm : s < k + 1
                  · have hm' : decide (s < k + 1) = true := by simpa using hm
                    go_wp2
                    all_goals
                      go_meet
                      exact ⟨by congr 1; omega, rfl⟩
                  · have hm' : decide (s < k + 1) = false := by simpa using hm
                    go_wp2
                    all_goals
                      go_meet
                      exact ⟨by congr 1; omega, rfl⟩
                case rest =>
                  obtain ⟨hv, hw⟩ := hcut
                  subst wc
                  subst u10
                  go_wp2_with (go_at_call 27; refine (HNx.out _ (by exact hb') (by exact q0) (by exact q1)).mono ?_; rintro e w8 ⟨a8, cap8, rfl, hI8, hN8, hg8⟩)
                  have HF8 := HF.out
                  have t1 := HF8.m1.lt
                  have t2 := HF8.m2.lt
                  have tb : w.heap.size < wr.heap.size := (Array.getElem?_eq_some_iff.1 HF8.box).1
                  have hst2 : RinR w w8 w1.heap.size w2.heap.size (Obj.cells #[Value.slice (some ⟨b, o, none⟩) code.length ccap, Value.slice pa pool.length pcap, Value.slice aa answers.length acap] 29) a8 js code.length i 0 D k J on d n1 n2 D1 D2 :=
                    ⟨HF8.gr.trans hg8, (hg8.block _ tb).trans HF8.box, HF8.m1.same (hg8.block _ t1), HF8.m2.same (hg8.block _ t2), by have := HF8.c1; omega, by have := HF8.c2; omega, HF8.ok, Hon.out, hI8, hJ.out⟩
                  have N1 : NewAt (w1.heap.size + 1) a8 := ⟨fun b o sp e => by have := hN8.le b o sp e; omega⟩
                  have N2 : NewAt (w2.heap.size + 1) a8 := ⟨fun b o sp e => by have := hN8.le b o sp e; omega⟩
                  clear hI8 q12 q31 HF8
                  go_loopw [16] (fun u ws => ∃ (q : Nat) (on' : Ver.On) (n1' n2' : Nat) (E1 E2 : DataW Unit), q ≤ js.length ∧ u = .int .i64 q ∧ RinR w ws w1.heap.size w2.heap.size (Obj.cells #[Value.slice (some ⟨b, o, none⟩) code.length ccap, Value.slice pa pool.length pcap, Value.slice aa answers.length acap] 29) a8 js code.length i q D k J on' d n1' n2' E1 E2) (fun u _ => js.length - (intOf u).toNat)
                  case atStart => exact ⟨0, on, n1, n2, D1, D2, Nat.zero_le _, rfl, hst2⟩
                  case round =>
                    obtain ⟨q, on', n1', n2', E1, E2, hq, rfl, hI⟩ := hrel
                    clear hst2
                    by_cases hql : q < js.length
                    · obtain ⟨j, hj⟩ : ∃ j, js[q]? = some j := ⟨_, List.getElem?_eq_getElem hql⟩
                      obtain ⟨b8, o8, rfl, hb8, hc8⟩ := hI.ints.cell q (j : Int) (by simp [hj])
                      have hb81 := N1.le b8 o8 _ rfl
                      have hb82 := N2.le b8 o8 _ rfl
                      obtain ⟨v1, v2⟩ := Hm.out j (List.mem_of_getElem? hj)
                      have Hj : Hid _ := hj
                      clear hj
                      by_cases he5 : j = code.length
                      · have E5 : Hid _ := hI.eq.symm.trans (by rw [Ver.joins_short (by rw [← he5]; exact Hj.out)])
                        have hg5 : decide ((code.length : Int) ≤ (j : Int)) = true := by simp; omega
                        have HI : Hid _ := hI
                        clear hI
                        go_wp2
                        exact bodyPost_ret (v := .tuple #[.int .i64 0, .int .i64 0, .int .i64 5]) (by simp [results, Try.results17, go_sem]) rfl ⟨by rw [← HF.out.eq, Ver.run_err Hx.out Hon.out Herr.out (hJD.out.trans E5.out) (by decide)]; rfl, HI.out.gr⟩
                      · have hjl : j < code.length := by omega
                        have hg5 : decide ((code.length : Int) ≤ (j : Int)) = false := by simp; omega
                        have q39 := hI.m1.lookOk (i := j) (by omega)
                        rw [(Ver.f1_stk on' j).1, (Ver.f1_stk on' j).2] at q39
                        cases hmay : Ver.may (on' j) D with
                        | false =>
                          have E4 : Hid _ := hI.eq.symm.trans (Ver.joins_form Hj.out he5 hmay)
                          have hm2 := hmay
                          unfold Ver.may at hm2
                          simp at hm2
                          obtain ⟨x1, x2⟩ := hm2
                          have x2' : (Ver.stk (on' j) != D) = true := by simpa using x2
                          rw [x1] at q39
                          have HI : Hid _ := hI
                          clear hI hmay x2
                          go_wp2
                          exact bodyPost_ret (v := .tuple #[.int .i64 0, .int .i64 0, .int .i64 4]) (by simp [results, Try.results17, go_sem]) rfl ⟨by rw [← HF.out.eq, Ver.run_err Hx.out Hon.out Herr.out (hJD.out.trans E4.out) (by decide)]; rfl, HI.out.gr⟩
                        | true =>
                          have E0 : Hid _ := (Ver.joins_on Hj.out he5 hmay).symm.trans hI.eq
                          have gk := hI.ok.stp j
                          obtain ⟨w5, hu5, m15, g5⟩ := hI.m1.upd (j := j) (by omega) (v := D) (by omega) (by omega) (by have := hI.c1; omega)
                          rw [Ver.f1_join on' j D (k + 1)] at m15
                          have m25 := hI.m2.same (blkBy g5 hI.m2.lt (by omega))
                          have i5 := hI.ints.by_ g5 N1
                          obtain ⟨b9, o9, e9, hb9, hc9⟩ := i5.cell q (j : Int) (by simp [Hj.out])
                          cases e9
                          have q43a := (m25.same (w' := w5.drew) rfl).look (i := i) (by omega)
                          rw [Ver.f2_some hI.at_] at q43a
                          simp at q43a
                          have q43b := (m25.same (w' := w5.drew) rfl).look (i := j) (by omega)
                          rw [Ver.f2_stp] at q43b
                          have hij : i ≠ j := by omega
                          have at5 : Ver.joinU on' j D (k + 1) i = some (d, k) := by rw [Ver.joinU, Ver.upd_other _ hij]; exact hI.at_
                          have gr5 : Gr w w5 := grBy g5 hI.gr (by omega)
                          have box5 : w5.heap[w.heap.size]? = _ := (blkBy g5 (Array.getElem?_eq_some_iff.1 hI.box).1 (by omega)).trans hI.box
                          have ok5 := hI.ok.join (j := j) (d := D) (k := k + 1) D0 D8 (by omega) (by omega)
                          have cc1 := hI.c1
                          have cc2 := hI.c2
                          have ati := hI.at_
                          clear hI
                          cases hsm : (on' j).isSome with
                          | false =>
                            rw [hsm] at q39 q43b
                            simp at q43b
                            have hstp : Ver.stp (on' j) ≤ k + 1 := by
                              cases ho : on' j with
                              | none => simp [Ver.stp]; omega
                              | some v => rw [ho] at hsm; cases hsm
                            have hcmp : decide ((0 : Int) < k + 1 + 1) = true := by simp; omega
                            clear hsm hmay
                            have q44 := (m25.same (w' := w5.drew.drew) rfl).look (i := i) (by omega)
                            rw [Ver.f2_some ati] at q44
                            simp at q44
                            obtain ⟨w6, hu6, m26, g6⟩ := (m25.same (w' := w5.drew.drew) rfl).upd (j := j) (by omega) (v := k + 1 + 1) (by omega) (by omega) (by omega)
                            rw [Ver.f2_join on' j D (k + 1) hstp] at m26
                            have Hn : Hid _ := (show RinR w w6 w1.heap.size w2.heap.size (Obj.cells #[Value.slice (some ⟨b, o, none⟩) code.length ccap, Value.slice pa pool.length pcap, Value.slice aa answers.length acap] 29) (some ⟨b8, o8, none⟩) js code.length i (q + 1) D k J (Ver.joinU on' j D (k + 1)) d (n1' + 1) (n2' + 1) _ _ from ⟨grBy g6 gr5.drew.drew (by omega), (blkBy g6 (by exact (Array.getElem?_eq_some_iff.1 box5).1) (by omega)).trans box5, m15.same (blkBy g6 (by exact m15.lt) (by omega)), m26, by omega, by omega, ok5, at5, (i5.drew.drew).by_ g6 N2, E0.out⟩)
                            go_upto_region 43 with fail
                            go_region
                            all_goals
                              go_upto_region 44 with fail
                              go_region
                            all_goals
                              go_wp2
                              exact ⟨⟨q + 1, _, _, _, _, _, by omega, by go_num, Hn.out⟩, by simp [intOf]; omega⟩
                          | true =>
                            rw [hsm] at q39 q43b
                            simp at q43b
                            have hd' : (Ver.stk (on' j) != D) = false := by
                              have hm2 := hmay
                              unfold Ver.may at hm2
                              simpa [hsm] using hm2
                            by_cases hbig : Ver.stp (on' j) < k + 1
                            · have hcmp : decide (Ver.stp (on' j) + 1 < k + 1 + 1) = true := by simp; omega
                              clear hsm hmay
                              have q44 := (m25.same (w' := w5.drew.drew) rfl).look (i := i) (by omega)
                              rw [Ver.f2_some ati] at q44
                              simp at q44
                              obtain ⟨w6, hu6, m26, g6⟩ := (m25.same (w' := w5.drew.drew) rfl).upd (j := j) (by omega) (v := k + 1 + 1) (by omega) (by omega) (by omega)
                              rw [Ver.f2_join on' j D (k + 1) (by omega)] at m26
                              have Hn : Hid _ := (show RinR w w6 w1.heap.size w2.heap.size (Obj.cells #[Value.slice (some ⟨b, o, none⟩) code.length ccap, Value.slice pa pool.length pcap, Value.slice aa answers.length acap] 29) (some ⟨b8, o8, none⟩) js code.length i (q + 1) D k J (Ver.joinU on' j D (k + 1)) d (n1' + 1) (n2' + 1) _ _ from ⟨grBy g6 gr5.drew.drew (by omega), (blkBy g6 (by exact (Array.getElem?_eq_some_iff.1 box5).1) (by omega)).trans box5, m15.same (blkBy g6 (by exact m15.lt) (by omega)), m26, by omega, by omega, ok5, at5, (i5.drew.drew).by_ g6 N2, E0.out⟩)
                              go_upto_region 43 with fail
                              go_region
                              all_goals
                                go_upto_region 44 with fail
                                go_region
                              all_goals
                                go_wp2
                                exact ⟨⟨q + 1, _, _, _, _, _, by omega, by go_num, Hn.out⟩, by simp [intOf]; omega⟩
                            · have hcmp : decide (Ver.stp (on' j) + 1 < k + 1 + 1) = false := by simp; omega
                              have m26 := m25
                              rw [Ver.f2_stay on' j D (k + 1) (by omega) hsm] at m26
                              have Hn : Hid _ := (show RinR w w5.drew w1.heap.size w2.heap.size (Obj.cells #[Value.slice (some ⟨b, o, none⟩) code.length ccap, Value.slice pa pool.length pcap, Value.slice aa answers.length acap] 29) (some ⟨b8, o8, none⟩) js code.length i (q + 1) D k J (Ver.joinU on' j D (k + 1)) d (n1' + 1) n2' _ _ from ⟨gr5.drew, box5, m15.same rfl, m26.same rfl, by omega, by omega, ok5, at5, i5.drew, E0.out⟩)
                              clear hsm hmay
                              go_upto_region 43 with fail
                              go_region
                              all_goals
                                go_wp2
                                exact ⟨⟨q + 1, _, _, _, _, _, by omega, by go_num, Hn.out⟩, by simp [intOf]; omega⟩
                    · have E0 : Hid _ := hI.eq.symm.trans (Ver.joins_end (by omega))
                      have HI : Hid _ := hI
                      have HF8 := HF.out
                      clear hI
                      go_wp2
                      refine ⟨⟨i + 1, max s (k + 1), max t D, on', n1', n2', E1, E2, by omega, by go_num, rfl, rfl, ?_⟩, by simp [intOf]; omega⟩
                      have hI := HI.out
                      have cc1 := hI.c1
                      have cc2 := hI.c2
                      refine ⟨hI.gr, hI.box, hI.m1, hI.m2, by omega, by omega, hI.ok, ?_, ?_, ?_, ?_, ?_⟩
                      · have := Ver.run_go (s := s) (t := t) Hx.out Hon.out Herr.out (hJD.out.trans E0.out)
                        rw [← HF8.eq, this, HD.out]
                      · have := HF8.s0; omega
                      · have := HF8.s1; omega
                      · have := HF8.t0; omega
                      · have := HF8.t1; omega
      · have E : Hid _ := hF.eq.symm.trans (Ver.run_end (by omega))
        have HF : Hid _ := hF
        clear hF
        go_wp2
        exact bodyPost_ret (v := .tuple #[.int .i64 s, .int .i64 t, .int .i64 0]) (by simp [results, Try.results17, go_sem]) rfl ⟨by rw [E.out]; rfl, HF.out.gr⟩
  · have g : (Ver.prgF p != 0) = true := by simpa using h0
    have E : Hid _ := Ver.verify_no h0
    rw [E.out]
    clear E h0
    obtain ⟨F, hF⟩ : ∃ F, F = Ver.prgF p := ⟨_, rfl⟩
    rw [← hF] at HC g ⊢
    clear hF
    obtain ⟨ca, ccap, code, pa, pcap, pool, aa, acap, answers⟩ := p
    simp only [Prg.cells] at HC ⊢
    go_enter Try.func17, Try.ntmps17
    go_wp2_with (go_at_call 26; refine (HC.out _ (hp.gr (by exact (Gr.refl _).alloc _))).mono ?_; rintro e w1 ⟨rfl, hg1⟩)
    exact bodyPost_ret (v := .tuple #[.int .i64 0, .int .i64 0, .int .i64 F]) (by simp [results, Try.results17, go_sem]) rfl ⟨rfl, ((Gr.refl _).alloc _).trans hg1⟩
end Go.Proofs.Ytcpmbjlhblkniaa
