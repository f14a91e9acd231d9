/- Contracts: what a program tells (P5.4), by the program and by the document. -/
import Derived.Test.YtcpmbjlhblkniaaRunU
import Derived.Test.YtcpmbjlhblkniaaVerV
import Derived.Test.YtcpmbjlhblkniaaVerR
import Derived.Test.YtcpmbjlhblkniaaCodC
import Derived.Test.YtcpmbjlhblkniaaAnsV
namespace Go.Proofs.Ytcpmbjlhblkniaa
open Go.ChangeShapes Go.WideShapes Go.ChangeAt Go.RowKit
set_option linter.unusedVariables false
set_option maxRecDepth 100000
/-- What is told for a number, and in how many steps; with an error nothing. -/
def ranA (p : Prg) (t : Int) : Ans := if (Ver.verify p).2.2 = 0 then p.answers.getD (Ver.ran p t).1.toNat zeroA else zeroA
def ranK (p : Prg) (t : Int) : Int := if (Ver.verify p).2.2 = 0 then (Ver.ran p t).2 else 0
theorem ranA_no {p : Prg} {t : Int} (h : (Ver.verify p).2.2 ≠ 0) : ranA p t = zeroA := by rw [ranA, if_neg h]
theorem ranK_no {p : Prg} {t : Int} (h : (Ver.verify p).2.2 ≠ 0) : ranK p t = 0 := by rw [ranK, if_neg h]
theorem ranA_yes {p : Prg} {t : Int} (h : (Ver.verify p).2.2 = 0) {x : Ans} (hx : p.answers[(Ver.ran p t).1.toNat]? = some x) : ranA p t = x := by rw [ranA, if_pos h, List.getD_eq_getElem?_getD, hx]; rfl
theorem ranK_yes {p : Prg} {t : Int} (h : (Ver.verify p).2.2 = 0) : ranK p t = (Ver.ran p t).2 := by rw [ranK, if_pos h]
structure RanPost (p : Prg) (t : Int) (w : World) (e : Ending) (w' : World) : Prop where
  ex : ∃ y : Ans, e = .returned (.tuple #[.agg y.cells.toArray, .int .i64 (ranK p t), .int .i64 (Ver.verify p).2.2]) ∧ AnsOk w' y ∧ y.val = (ranA p t).val ∧ Gr w w'
theorem ranPost_no {p : Prg} {t : Int} {w w' : World} {e : Ending} (h : (Ver.verify p).2.2 ≠ 0) (he : e = .returned (.tuple #[.agg #[.int .i64 0, .bool false, .string ⟨#[]⟩, .slice none 0 0, .int .i64 0], .int .i64 0, .int .i64 (Ver.verify p).2.2])) (hg : Gr w w') : RanPost p t w e w' :=
  ⟨zeroA, by rw [he, ranK_no h]; rfl, ⟨by show (Lit.int .i64 0).wf = true; decide, by show (Lit.int .i64 0).wf = true; decide, by show (ByteArray.mk #[]).size ≤ _; simp [ByteArray.size, maxLen], Nat.le_refl _, IntsAt.nil _ _, fun z hz => by cases hz⟩, by rw [ranA_no h], hg⟩
theorem ranPost_yes {p : Prg} {t : Int} {w w' : World} {e : Ending} {x : Ans} {a' : Option Addr} {cap' : Nat} (h : (Ver.verify p).2.2 = 0) (hx : p.answers[(Ver.ran p t).1.toNat]? = some x) (ho : AnsOk w x) (he : e = .returned (.tuple #[.agg #[.int .i64 x.off, .bool x.sv, .string x.nm, .slice a' x.zs.length cap', .int .i64 x.jump], .int .i64 (Ver.ran p t).2, .int .i64 0]))
    (hc : x.zs.length ≤ cap') (hz : IntsAt w' a' x.zs) (hg : Gr w w') : RanPost p t w e w' :=
  ⟨⟨x.off, x.sv, x.nm, a', cap', x.zs, x.jump⟩, by rw [he, ranK_yes h, h]; rfl, ⟨ho.off, ho.jump, ho.nm, hc, hz, ho.wz⟩, by rw [ranA_yes h hx]; rfl, hg⟩
/-- What lies in memory while a program is run by the document. -/
structure RanM (p : Prg) (w wr : World) (v : Value) (l : List Int) : Prop where
  gr : Gr w wr
  pbox : wr.heap[w.heap.size]? = some (.cells p.cells.toArray 29)
  rbox : wr.heap[w.heap.size + 1]? = some (.cells #[.int .i64 0, .bool false, .string ⟨#[]⟩, .slice none 0 0, .int .i64 0] 39)
  size : w.heap.size + 2 ≤ wr.heap.size
  row : wr.ownsRow (w.heap.size + 2) 3 1 v l.length (ints l)
theorem RanM.more {p : Prg} {w wr w2 : World} {v : Value} {l : List Int} (h : RanM p w wr v l) (hg : Gr wr w2) : RanM p w w2 v l :=
  ⟨h.gr.trans hg, (hg.block _ (by have := h.size; omega)).trans h.pbox, (hg.block _ (by have := h.size; omega)).trans h.rbox, Nat.le_trans h.size hg.size, owns_gr h.row hg⟩
theorem RanM.cut {p : Prg} {w wr : World} {a : Option Addr} {n cap m : Nat} {l : List Int} (h : RanM p w wr (.slice a n cap) l) (hn : l.length = n) (hm : m ≤ n) : RanM p w wr (.slice a m cap) (l.take m) := by
  subst hn
  refine ⟨h.gr, h.pbox, h.rbox, h.size, ?_⟩
  rw [ints_take, List.length_take, Nat.min_eq_left hm]
  exact owns_take h.row hm
theorem RanM.push {p : Prg} {w wr w2 w3 : World} {v v' : Value} {l : List Int} {z : Int} (h : RanM p w wr v l) (hg : Gr wr w2) (hgrow : w2.grownBy w3 v.ownBlock) (hown : w3.ownsRow (w.heap.size + 2) 3 1 v' (l.length + 1) (ints l ++ [.int .i64 z])) :
    RanM p w w3 v' (l ++ [z]) := by
  have h2 := h.more hg
  have hs := h2.size
  refine ⟨h2.gr.by_ hgrow (fun k hk => ?_), (hgrow.block w.heap.size (by omega) (fun e => own_ge h2.row (by omega) e.symm)).trans h2.pbox, (hgrow.block (w.heap.size + 1) (by omega) (fun e => own_ge h2.row (by omega) e.symm)).trans h2.rbox, Nat.le_trans hs hgrow.size, ?_⟩
  · have := (owns_lt h2.row hk).1
    omega
  · have : ints (l ++ [z]) = ints l ++ [.int .i64 z] := by simp [ints]
    rw [this, List.length_append, List.length_singleton]
    exact hown
set_option maxRecDepth 100000 in
set_option maxHeartbeats 3200000 in
theorem ranOf_any (p : Prg) (t : Int) (w : World) (hp : PrgOk w p) (hr : 0 = 0) :
    Calls Try.prog 8 #[.agg p.cells.toArray, .int .i64 t] w (RanPost p t w) := by
  have HO : Hid _ := fun W (hW : PrgOk W p) => verifyOf_any p W hW
  have ec : p.cells = [.slice p.ca p.code.length p.ccap, .slice p.pa p.pool.length p.pcap, .slice p.aa p.answers.length p.acap] := rfl
  obtain ⟨i0, hi, hi1, hi2, hi3⟩ := Try.infoInt
  by_cases h0 : (Ver.verify p).2.2 = 0
  · obtain ⟨s, m, hv⟩ : ∃ s m, Ver.verify p = (s, m, 0) := ⟨(Ver.verify p).1, (Ver.verify p).2.1, by rw [← h0]⟩
    obtain ⟨hG, on, hw⟩ := Ver.ways_of hv
    have hst := Ver.Pos.start (t := t) hG hw
    have HZL : Hid _ := fun (x : Ans) (hx : x ∈ p.answers) => Ver.ans_ok hv hx
    have l1 := hG.clen
    have l2 := hG.plen
    have l3 := hG.alen
    have HYES : Hid _ := fun (x : Ans) (hx : p.answers[(Ver.ran p t).1.toNat]? = some x) (e : Ending) (w' : World) (a' : Option Addr) (cap' : Nat) => ranPost_yes (w := w) (w' := w') (e := e) (a' := a') (cap' := cap') h0 hx (hp.aok x (List.mem_of_getElem? hx))
    rw [hv] at HO
    obtain ⟨R, hR⟩ : ∃ R, R = Ver.ran p t := ⟨_, rfl⟩
    rw [← hR] at hst HYES
    have HP : Hid _ := hp
    have HG : Hid _ := hG
    have HW : Hid _ := hw
    clear hR hv hG hw hp h0
    rw [ec] at HO ⊢
    go_enter Try.func8, Try.ntmps8
    go_wp2_with (go_at_call 17; refine (HO.out _ (HP.out.gr (by exact ((Gr.refl _).alloc _).alloc _))).mono ?_; rintro e w1 ⟨rfl, hg1⟩; simp only [ret3])
    have M0 : RanM p w w1 (.slice none 0 0) [] := ⟨(((Gr.refl _).alloc _).alloc _).trans hg1, by rw [ec]; exact (hg1.block _ (by simp; omega)).trans (heapB w _ _), (hg1.block _ (by simp)).trans (heapC w _ _), by have := hg1.size; simpa using this, owns_nil _ _ _ _⟩
    clear hg1 HO
    go_loopw [10, 11, 12] (fun u i q wr => ∃ (j : Nat) (l : List Int) (k : Int), i = .int .i64 j ∧ q = .int .i64 k ∧ RanM p w wr u l ∧ Ver.Pos p on R t j l k) (fun _ i _ _ => p.code.length - (intOf i).toNat)
    case atStart => exact ⟨0, [], 0, rfl, rfl, M0, hst⟩
    case round =>
      obtain ⟨j, l, k, rfl, rfl, hM, hT⟩ := hrel
      clear M0 hst
      have hlt := hT.at_.lt
      obtain ⟨x, hx⟩ : ∃ x, p.code[j]? = some x := ⟨_, List.getElem?_eq_getElem hlt⟩
      obtain ⟨b, o, hca, hb, hc1, hc2⟩ := HP.out.cat.cell j x hx
      obtain ⟨⟨o1, o2⟩, n0, n1⟩ := HG.out.ins j x hx
      obtain ⟨op, n⟩ := x
      obtain ⟨r1, r2, r3⟩ := hT.at_.room HW.out hx
      have hk0 := hT.at_.k0
      have hk1 := hT.at_.k1
      have HX : Hid _ := hx
      have HT : Hid _ := hT
      have HM : Hid _ := hM
      have q0 := (hM.gr.cell b _ hb).trans hc1
      have q1 := (hM.gr.cell b _ hb).trans hc2
      have hb' : b < wr.heap.size := Nat.lt_of_lt_of_le hb hM.gr.size
      obtain ⟨cp, fp⟩ := row_all hM.pbox
      rw [ec, hca] at cp
      have HCA : Hid _ := hca
      simp only at o1 o2 n0 n1 q0 q1
      have zb := hM.size
      have nb : n ≤ 8000 := by
        unfold Ver.choices at n1
        have g1 := HG.out.plen
        have g2 := HG.out.alen
        split at n1
        · omega
        split at n1
        · omega
        split at n1 <;> omega
      have hne0 : w.heap.size ≠ wr.heap.size := by omega
      have hne2 : b ≠ wr.heap.size := by omega
      obtain ⟨va, vcap, hv, _, _⟩ := owns_ints hM.row
      subst hv
      clear hT hx hc1 hc2 hM hca
      rcases ops6 o1 o2 with rfl | rfl | rfl | rfl | rfl | rfl
      · simp [Ver.takes, Ver.lays] at r1 r2
        go_upto_region 13 with fail
        clear cp fp
        obtain ⟨W1, hW1⟩ : ∃ W1, W1 = wr.alloc (Obj.cells #[Value.int .i64 1, Value.int .i64 n] 52) := ⟨_, rfl⟩
        rw [← hW1]
        have gW1 : Gr wr W1 := by rw [hW1]; exact (Gr.refl _).alloc _
        have M1 := HM.out.more gW1
        have x1 : W1.cell? ⟨wr.heap.size, 1, none⟩ = some (.int .i64 n) := by rw [hW1]; exact cell_new wr _ _ 1
        have zx : wr.heap.size < W1.heap.size := by rw [hW1]; simp
        obtain ⟨cp, fp⟩ := row_all M1.pbox
        have zW := M1.size
        rw [ec, HCA.out] at cp
        clear hW1 q0 q1 hne0 hne2
        go_wp2_with (at_builtin; (refine wpList_append_lies _ rfl _ _ _ rfl (w.heap.size + 2) 3 i0 _ 1 8 Try.underlying27 hi hi1 hi2 hi3 rfl (by decide) _ l.length (ints l) (by rfl) (owns_gr M1.row (by exact (Gr.refl _).alloc _)) ⟨_, 0, none⟩ 1 1 [.int .i64 t] (by rfl) (by rfl) (World.news_of_block (cs := #[.int .i64 t]) (heapA _ _)) (by simp [Value.oneCell']) (by omega) (by unfold maxLen; omega) (by omega) (by simp; omega) _ rfl ?_))
        intro g2 cap2 w3 hown3 hgrow hat hlt3
        have Hend : Hid _ := And.intro (M1.push ((Gr.refl W1).alloc _) hgrow hown3) (HT.out.next HG.out HW.out HX.out (j' := j + 1) (by simp [Ver.nxts]) (by simp [Ver.lays, Ver.takes]) (Ver.exec_1 HX.out))
        clear hown3 hgrow hat
        go_wp2
        go_roundw
        case rel => exact ⟨j + 1, _, k + 1, by go_num, rfl, Hend.out⟩
        case measure => simp [intOf]; omega
      · simp [Ver.takes, Ver.lays] at r1 r2
        have np : n < p.pool.length := by simpa [Ver.choices] using n1
        obtain ⟨z, hz⟩ : ∃ z, p.pool[n.toNat]? = some z := ⟨_, List.getElem?_eq_getElem (by omega)⟩
        obtain ⟨pb, po, hpa, hpb, hzc⟩ := HP.out.pat.cell _ z hz
        have HPA : Hid _ := hpa
        have HZ : Hid _ := hz
        clear hpa hz
        go_upto_region 15 with fail
        clear cp fp
        obtain ⟨W1, hW1⟩ : ∃ W1, W1 = wr.alloc (Obj.cells #[Value.int .i64 2, Value.int .i64 n] 52) := ⟨_, rfl⟩
        rw [← hW1]
        have gW1 : Gr wr W1 := by rw [hW1]; exact (Gr.refl _).alloc _
        have M1 := HM.out.more gW1
        have x1 : W1.cell? ⟨wr.heap.size, 1, none⟩ = some (.int .i64 n) := by rw [hW1]; exact cell_new wr _ _ 1
        have zx : wr.heap.size < W1.heap.size := by rw [hW1]; simp
        obtain ⟨cp, fp⟩ := row_all M1.pbox
        have zW := M1.size
        rw [ec, HCA.out] at cp
        clear hW1 q0 q1 hne0 hne2
        have zp : pb < W1.heap.size := Nat.lt_of_lt_of_le hpb M1.gr.size
        replace hzc := (M1.gr.cell pb _ hpb).trans hzc
        rw [HPA.out] at cp
        go_wp2_with (at_builtin; (refine wpList_append_lies _ rfl _ _ _ rfl (w.heap.size + 2) 3 i0 _ 1 8 Try.underlying27 hi hi1 hi2 hi3 rfl (by decide) _ l.length (ints l) (by rfl) (owns_gr M1.row (by exact (Gr.refl _).alloc _)) ⟨_, 0, none⟩ 1 1 [.int .i64 z] (by rfl) (by rfl) (World.news_of_block (cs := #[.int .i64 z]) (heapA _ _)) (by simp [Value.oneCell']) (by omega) (by unfold maxLen; omega) (by omega) (by simp; omega) _ rfl ?_))
        intro g2 cap2 w3 hown3 hgrow hat hlt3
        have Hend : Hid _ := And.intro (M1.push ((Gr.refl W1).alloc _) hgrow hown3) (HT.out.next HG.out HW.out HX.out (j' := j + 1) (by simp [Ver.nxts]) (by simp [Ver.lays, Ver.takes]) (Ver.exec_2 HX.out HZ.out))
        clear hown3 hgrow hat cp fp hzc
        go_wp2
        go_roundw
        case rel => exact ⟨j + 1, _, k + 1, by go_num, rfl, Hend.out⟩
        case measure => simp [intOf]; omega
      · simp [Ver.takes, Ver.lays] at r1 r2
        obtain ⟨m', hm'⟩ : ∃ m', l.length = m' + 2 := ⟨l.length - 2, by omega⟩
        obtain ⟨za, hza⟩ : ∃ z, l[m']? = some z := ⟨_, List.getElem?_eq_getElem (by omega)⟩
        obtain ⟨zb', hzb⟩ : ∃ z, l[m' + 1]? = some z := ⟨_, List.getElem?_eq_getElem (by omega)⟩
        have HL : Hid _ := hm'
        have HA : Hid _ := And.intro hza hzb
        clear hza hzb
        go_upto_region 18 with fail
        clear cp fp
        obtain ⟨W1, hW1⟩ : ∃ W1, W1 = wr.alloc (Obj.cells #[Value.int .i64 3, Value.int .i64 n] 52) := ⟨_, rfl⟩
        rw [← hW1]
        have gW1 : Gr wr W1 := by rw [hW1]; exact (Gr.refl _).alloc _
        have M1 := HM.out.more gW1
        have x1 : W1.cell? ⟨wr.heap.size, 1, none⟩ = some (.int .i64 n) := by rw [hW1]; exact cell_new wr _ _ 1
        have zx : wr.heap.size < W1.heap.size := by rw [hW1]; simp
        obtain ⟨cp, fp⟩ := row_all M1.pbox
        have zW := M1.size
        rw [ec, HCA.out] at cp
        clear hW1 q0 q1 hne0 hne2
        have M2 := M1.cut (m := m') rfl (by omega)
        have HL2 : Hid ((l.take m').length = m') := by show (l.take m').length = m'; rw [List.length_take]; omega
        have RW : Hid _ := M2.row
        rw [HL2.out] at RW
        obtain ⟨g0, cap0, hvg, hcap0, hb0, hg0, ct0⟩ := owns_top M1.row HA.out.1
        obtain ⟨g1, cap1, hvg1, _, _, _, ct1⟩ := owns_top M1.row HA.out.2
        simp only [Value.slice.injEq] at hvg hvg1
        obtain ⟨rfl, _, rfl⟩ := hvg
        have e01 := hvg1.1
        simp only [Option.some.injEq, Addr.mk.injEq] at e01
        rw [← e01.1] at ct1
        rw [hm'] at M1 hcap0 ⊢
        have hml : vcap ≤ 9223372036854775807 := by
          rcases M1.row.2 with ⟨hv, hn⟩ | ⟨g', cap', cur, hv, hb', hg', h1, h2, h3⟩
          · cases hv
          · simp only [Value.slice.injEq] at hv; obtain ⟨_, _, rfl⟩ := hv; unfold maxLen at h2; omega
        have i1 : m' ≤ vcap := by omega
        have hm8 : m' ≤ 8 := by omega
        clear hvg1 e01 hm' cp fp
        by_cases hlz : za < zb'
        · have hd : decide (za < zb') = true := by simpa using hlz
          have E3 : Hid _ := Ver.exec_3 (code := p.code) (pool := p.pool) (t := t) (f := p.code.length - j - 1) (k := k) HX.out HL.out HA.out.1 HA.out.2
          rw [if_pos hlz] at E3
          go_quiet (fail)
          go_wp2_with (at_builtin; (refine wpList_append_lies _ rfl _ _ _ rfl (w.heap.size + 2) 3 i0 _ 1 8 Try.underlying27 hi hi1 hi2 hi3 rfl (by decide) _ m' (ints (l.take m')) (by rfl) (owns_gr RW.out (by exact ((Gr.refl _).drewN _).alloc _)) ⟨_, 0, none⟩ 1 1 [.int .i64 1] (by rfl) (by rfl) (World.news_of_block (cs := #[.int .i64 1]) (heapA _ _)) (by simp [Value.oneCell']) (by omega) (by unfold maxLen; omega) (by omega) (by simp; omega) _ rfl ?_))
          intro g2 cap2 w3 hown3 hgrow hat hlt3
          have Hend : Hid _ := And.intro (M2.push (((Gr.refl W1).drewN _).alloc _) hgrow (by rw [HL2.out]; exact hown3)) (HT.out.next HG.out HW.out HX.out (j' := j + 1) (by simp [Ver.nxts]) (by rw [List.length_append, HL2.out, HL.out]; simp [Ver.lays, Ver.takes]; omega) E3.out)
          clear hown3 hgrow hat E3
          go_wp2
          go_roundw
          case rel => exact ⟨j + 1, _, k + 1, by go_num, rfl, Hend.out⟩
          case measure => simp [intOf]; omega
        · have hd : decide (za < zb') = false := by simpa using hlz
          have E3 : Hid _ := Ver.exec_3 (code := p.code) (pool := p.pool) (t := t) (f := p.code.length - j - 1) (k := k) HX.out HL.out HA.out.1 HA.out.2
          rw [if_neg hlz] at E3
          go_quiet (fail)
          go_wp2_with (at_builtin; (refine wpList_append_lies _ rfl _ _ _ rfl (w.heap.size + 2) 3 i0 _ 1 8 Try.underlying27 hi hi1 hi2 hi3 rfl (by decide) _ m' (ints (l.take m')) (by rfl) (owns_gr RW.out (by exact ((Gr.refl _).drewN _).alloc _)) ⟨_, 0, none⟩ 1 1 [.int .i64 0] (by rfl) (by rfl) (World.news_of_block (cs := #[.int .i64 0]) (heapA _ _)) (by simp [Value.oneCell']) (by omega) (by unfold maxLen; omega) (by omega) (by simp; omega) _ rfl ?_))
          intro g2 cap2 w3 hown3 hgrow hat hlt3
          have Hend : Hid _ := And.intro (M2.push (((Gr.refl W1).drewN _).alloc _) hgrow (by rw [HL2.out]; exact hown3)) (HT.out.next HG.out HW.out HX.out (j' := j + 1) (by simp [Ver.nxts]) (by rw [List.length_append, HL2.out, HL.out]; simp [Ver.lays, Ver.takes]; omega) E3.out)
          clear hown3 hgrow hat E3
          go_wp2
          go_roundw
          case rel => exact ⟨j + 1, _, k + 1, by go_num, rfl, Hend.out⟩
          case measure => simp [intOf]; omega
      · simp [Ver.takes, Ver.lays] at r1 r2
        obtain ⟨m', hm'⟩ : ∃ m', l.length = m' + 1 := ⟨l.length - 1, by omega⟩
        obtain ⟨z, hz⟩ : ∃ z, l[m']? = some z := ⟨_, List.getElem?_eq_getElem (by omega)⟩
        have HL : Hid _ := hm'
        have HZ : Hid _ := hz
        have E4 : Hid _ := Ver.exec_4 (code := p.code) (pool := p.pool) (t := t) (f := p.code.length - j - 1) (k := k) HX.out hm' hz
        clear hz
        go_upto_region 22 with fail
        clear cp fp
        obtain ⟨W1, hW1⟩ : ∃ W1, W1 = wr.alloc (Obj.cells #[Value.int .i64 4, Value.int .i64 n] 52) := ⟨_, rfl⟩
        rw [← hW1]
        have gW1 : Gr wr W1 := by rw [hW1]; exact (Gr.refl _).alloc _
        have M1 := HM.out.more gW1
        have x1 : W1.cell? ⟨wr.heap.size, 1, none⟩ = some (.int .i64 n) := by rw [hW1]; exact cell_new wr _ _ 1
        have zx : wr.heap.size < W1.heap.size := by rw [hW1]; simp
        obtain ⟨cp, fp⟩ := row_all M1.pbox
        have zW := M1.size
        rw [ec, HCA.out] at cp
        clear hW1 q0 q1 hne0 hne2
        have M2 := M1.cut (m := m') rfl (by omega)
        have HL2 : Hid ((l.take m').length = m') := by show (l.take m').length = m'; rw [List.length_take]; omega
        obtain ⟨g0, cap0, hvg, hcap0, hb0, hg0, ct0⟩ := owns_top M1.row HZ.out
        simp only [Value.slice.injEq] at hvg
        obtain ⟨rfl, _, rfl⟩ := hvg
        rw [hm'] at M1 hcap0 ⊢
        have hml : vcap ≤ 9223372036854775807 := by
          rcases M1.row.2 with ⟨hv, hn⟩ | ⟨g', cap', cur, hv, hb', hg', h1, h2, h3⟩
          · cases hv
          · simp only [Value.slice.injEq] at hv; obtain ⟨_, _, rfl⟩ := hv; unfold maxLen at h2; omega
        have i1 : m' ≤ vcap := by omega
        have hm8 : m' ≤ 8 := by omega
        clear hm' cp fp
        by_cases h0 : z = 0
        · subst h0
          rw [if_pos rfl] at E4
          have Hend : Hid _ := And.intro M2 (HT.out.next HG.out HW.out HX.out (j' := j + 1 + n.toNat) (by simp [Ver.nxts]) (by rw [HL2.out, HL.out]; simp [Ver.lays, Ver.takes]; omega) E4.out)
          clear E4 M2
          go_wp2
          go_roundw
          case rel => exact ⟨j + 1 + n.toNat, _, k + 1, by go_num, rfl, Hend.out⟩
          case measure => simp [intOf]; omega
        · have h0' : (z == 0) = false := by simpa using h0
          rw [if_neg h0] at E4
          have Hend : Hid _ := And.intro M2 (HT.out.next HG.out HW.out HX.out (j' := j + 1) (by simp [Ver.nxts]) (by rw [HL2.out, HL.out]; simp [Ver.lays, Ver.takes]; omega) E4.out)
          clear E4 M2
          go_wp2
          go_roundw
          case rel => exact ⟨j + 1, _, k + 1, by go_num, rfl, Hend.out⟩
          case measure => simp [intOf]; omega
      · have Hend : Hid _ := And.intro (HM.out.more ((Gr.refl _).alloc (Obj.cells #[Value.int .i64 5, Value.int .i64 n] 52))) (HT.out.next HG.out HW.out HX.out (j' := j + 1 + n.toNat) (by simp [Ver.nxts]) (by simp [Ver.lays, Ver.takes]) (Ver.exec_5 HX.out))
        go_wp2
        go_roundw
        case rel => exact ⟨j + 1 + n.toNat, _, k + 1, by go_num, rfl, Hend.out⟩
        case measure => simp [intOf]; omega
      · have E6 : Hid _ := Ver.exec_6 (code := p.code) (pool := p.pool) (t := t) (f := p.code.length - j - 1) (l := l) (k := k) HX.out
        have hE : R = (n, k + 1) := by
          rw [← E6.out, ← HT.out.eq]
          congr 1
          omega
        have na : n < p.answers.length := by simpa [Ver.choices] using n1
        obtain ⟨x, hx⟩ : ∃ x, p.answers[n.toNat]? = some x := ⟨_, List.getElem?_eq_getElem (by omega)⟩
        have hY := fun e w' a' cap' => HYES.out x (by rw [hE]; exact hx) e w' a' cap'
        rw [hE] at hY
        have HY : Hid _ := hY
        obtain ⟨ab, ao, haa, hab, hac⟩ := HP.out.aat.cell _ x hx
        have ho := HP.out.aok x (List.mem_of_getElem? hx)
        have hzl : x.zs.length ≤ 8000 := by have := (HZL.out x (List.mem_of_getElem? hx)).1; omega
        have HAA : Hid _ := haa
        clear hY hx E6 hE haa HYES
        go_upto_region 11 with fail
        clear cp fp
        obtain ⟨W1, hW1⟩ : ∃ W1, W1 = wr.alloc (Obj.cells #[Value.int .i64 6, Value.int .i64 n] 52) := ⟨_, rfl⟩
        rw [← hW1]
        have gW1 : Gr wr W1 := by rw [hW1]; exact (Gr.refl _).alloc _
        have M1 := HM.out.more gW1
        have x1 : W1.cell? ⟨wr.heap.size, 1, none⟩ = some (.int .i64 n) := by rw [hW1]; exact cell_new wr _ _ 1
        have zx : wr.heap.size < W1.heap.size := by rw [hW1]; simp
        obtain ⟨cp, fp⟩ := row_all M1.pbox
        have zW := M1.size
        rw [ec, HCA.out] at cp
        clear hW1 q0 q1 hne0 hne2
        rw [HAA.out] at cp
        obtain ⟨c0, c1, c2, c3, c4⟩ := hac.gr hab M1.gr
        obtain ⟨off, sv, nm, a, cap, zs, jump⟩ := x
        simp [Ans.cells] at c0 c1 c2 c3 c4
        have zp : ab < W1.heap.size := Nat.lt_of_lt_of_le hab M1.gr.size
        go_wp2_with (go_at_call 18; refine (answerCopy_any off jump sv nm a cap zs _ (by exact (ho.gr M1.gr).zs) hzl).mono ?_; rintro e w2 ⟨a', cap', rfl, hc', hn', hz', hg2⟩; have kR := (hg2.block (w.heap.size + 1) (by omega)).trans M1.rbox; have cR := (row_all kR).1; have fR := (row_all kR).2; have d0 := cR 0; have d1 := cR 1; have d2 := cR 2; have d3 := cR 3; have d4 := cR 4; simp at d0 d1 d2 d3 d4; clear cR kR)
        have hgE := M1.gr.trans hg2
        have hz8 : w.heap.size + 1 < W1.heap.size := by omega
        refine bodyPost_ret (v := .tuple #[.agg #[.int .i64 off, .bool sv, .string nm, .slice a' zs.length cap', .int .i64 jump], .int .i64 (k + 1), .int .i64 0]) (by simp [results, Try.results8, go_sem, d0, d1, d2, d3, d4]) rfl ?_
        refine HY.out _ _ a' cap' rfl hc' ?_ ?_
        · repeat (with_reducible first | exact hz' | refine IntsAt.sets ?_ hn' (by exact hz8) _)
        · repeat (with_reducible first | exact hgE | refine Gr.setCell ?_ (by simp) _)
  · have g : ((Ver.verify p).2.2 != 0) = true := by simpa using h0
    have HN : Hid _ := fun e w' => ranPost_no (t := t) (w := w) (w' := w') (e := e) h0
    obtain ⟨V, hV⟩ : ∃ V, V = Ver.verify p := ⟨_, rfl⟩
    rw [← hV] at HO HN g
    have HP : Hid _ := hp
    clear h0 hV hp
    obtain ⟨x, y, z⟩ := V
    simp only at g HN
    rw [ec] at HO ⊢
    go_enter Try.func8, Try.ntmps8
    go_wp2_with (go_at_call 17; refine (HO.out _ (HP.out.gr (by exact ((Gr.refl _).alloc _).alloc _))).mono ?_; rintro e w1 ⟨rfl, hg1⟩; simp only [ret3]; have kR := (hg1.block (w.heap.size + 1) (by simp)).trans (heapC w _ _); have cR := (row_all kR).1; have fR := (row_all kR).2; have d0 := cR 0; have d1 := cR 1; have d2 := cR 2; have d3 := cR 3; have d4 := cR 4; simp at d0 d1 d2 d3 d4; clear cR kR)
    have hg : Gr w w1 := (((Gr.refl _).alloc _).alloc _).trans hg1
    refine bodyPost_ret (v := .tuple #[.agg #[.int .i64 0, .bool false, .string ⟨#[]⟩, .slice none 0 0, .int .i64 0], .int .i64 0, .int .i64 z]) (by simp [results, Try.results8, go_sem, d0, d1, d2, d3, d4]) rfl ?_
    refine HN.out _ _ rfl ?_
    repeat (with_reducible first | exact hg | refine Gr.setCell ?_ (by simp) _)
end Go.Proofs.Ytcpmbjlhblkniaa
