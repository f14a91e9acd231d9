/- Contracts: programs with the same values are the same, wherever they lie; how many, by the document's spool. -/
import Derived.Test.YtddamfnoggjkfaaDoorDecD
import Derived.Test.YtddamfnoggjkfaaDoorAnsV
import Derived.Test.YtddamfnoggjkfaaDoorSpoW
import Derived.Deep.RegionHeld3
namespace Go.Proofs.YtddamfnoggjkfaaDoor
open Go.ChangeShapes Go.WideShapes Go.ChangeAt Go.RowKit
set_option linter.unusedVariables false
set_option maxHeartbeats 1600000 in
theorem sameCode_yes (a b : Option Addr) (ca cb : Nat) (l : List Ins) (w : World) (ha : InssAt w a l) (hb : InssAt w b l) :
    Calls Tryd.prog 23 #[.slice a l.length ca, .slice b l.length cb] w fun e w' => e = .returned (.bool true) ∧ ∃ n, w' = w.drewN n := by
  have l1 := ha.len
  unfold maxLen at l1
  have g : ((l.length : Int) != (l.length : Int)) = false := by simp
  go_enter Tryd.func23, Tryd.ntmps23
  go_wp2
  go_loopw [5] (fun t wr => ∃ k : Nat, k ≤ l.length ∧ t = .int .i64 k ∧ ∃ n, wr = w.drewN n) (fun t _ => l.length - (intOf t).toNat)
  case atStart => exact ⟨0, Nat.zero_le _, rfl, 0, rfl⟩
  case round =>
    obtain ⟨k, hk, rfl, n0, rfl⟩ := hrel
    by_cases hlt : k < l.length
    · obtain ⟨x, hx⟩ : ∃ x, l[k]? = some x := ⟨_, List.getElem?_eq_getElem hlt⟩
      obtain ⟨b1, o1, rfl, hb1, c1, d1⟩ := ha.cell k x hx
      obtain ⟨b2, o2, rfl, hb2, c2, d2⟩ := hb.cell k x hx
      clear hx
      go_wp2
      go_quiet (fail)
      go_wp2
      go_roundw
      case rel => exact ⟨k + 1, by omega, by go_num, _, rfl⟩
      case measure => simp [intOf]; omega
    · go_wp2
      go_ret
      exact ⟨rfl, _, rfl⟩
theorem ans_same {p q : Prg} (h : p.answers.map Ans.val = q.answers.map Ans.val) {k : Nat} {x y : Ans} (hx : p.answers[k]? = some x) (hy : q.answers[k]? = some y) : Ans.same x y = true := by
  have := congrArg (fun l => l[k]?) h
  simp only [List.getElem?_map, hx, hy, Option.map_some, Option.some.injEq] at this
  exact same_of_val this
set_option maxHeartbeats 1600000 in
theorem sameProgram_yes (p q : Prg) (w : World) (hp : PrgOk w p) (hq : PrgOk w q) (hv : p.val = q.val) :
    Calls Tryd.prog 10 #[.agg p.cells.toArray, .agg q.cells.toArray] w fun e w' => e = .returned (.bool true) ∧ Gr w w' := by
  have hc : p.code = q.code := congrArg (·.1) hv
  have hpl : p.pool = q.pool := congrArg (·.2.1) hv
  have ha : p.answers.map Ans.val = q.answers.map Ans.val := congrArg (·.2.2) hv
  have hal : q.answers.length = p.answers.length := by have := congrArg List.length ha; simpa using this.symm
  obtain ⟨ca, ccap, code, pa, pcap, pool, aa, acap, ans⟩ := p
  obtain ⟨cb, ccap2, code2, pb, pcap2, pool2, ab, acap2, ans2⟩ := q
  simp only at hc hpl ha hal
  subst hc
  subst hpl
  have l3 := hp.aat.len
  unfold maxLen at l3
  simp only at l3
  have HSA : Hid _ := fun (k : Nat) (x y : Ans) (hx : ans[k]? = some x) (hy : ans2[k]? = some y) => ans_same (p := ⟨ca, ccap, code, pa, pcap, pool, aa, acap, ans⟩) (q := ⟨cb, ccap2, code, pb, pcap2, pool, ab, acap2, ans2⟩) ha hx hy
  have HC : Hid _ := fun W' (hg : Gr w W') => sameCode_yes ca cb ccap ccap2 code W' (hp.cat.gr hg) (hq.cat.gr hg)
  have HI : Hid _ := fun W' (hg : Gr w W') => sameInts_any pa pb pcap pcap2 pool pool W' (hp.pat.gr hg) (hq.pat.gr hg)
  have dI : decide (pool = pool) = true := by simp
  rw [dI] at HI
  clear dI
  simp only [Prg.cells]
  rw [hal]
  have g : ((ans.length : Int) != (ans.length : Int)) = false := by simp
  have HL : Hid _ := hal
  clear hal ha hv
  go_enter Tryd.func10, Tryd.ntmps10
  go_wp2_with (first | (go_at_call 23; refine (HC.out _ (by repeat (with_reducible first | exact Gr.refl _ | refine Gr.drewN ?_ _ | refine Gr.alloc ?_ _))).mono ?_; rintro e w1 ⟨rfl, n1, hw1⟩; subst w1) | (go_at_call 24; refine (HI.out _ (by repeat (with_reducible first | exact Gr.refl _ | refine Gr.drewN ?_ _ | refine Gr.alloc ?_ _))).mono ?_; rintro e w2 ⟨rfl, n2, hw2⟩; subst w2))
  obtain ⟨W0, hW0⟩ : ∃ W0, W0 = (((w.alloc (Obj.cells #[.slice ca code.length ccap, .slice pa pool.length pcap, .slice aa ans.length acap] 26)).alloc (Obj.cells #[.slice cb code.length ccap2, .slice pb pool.length pcap2, .slice ab ans.length acap2] 26)).drewN (n1 + n2)) := ⟨_, rfl⟩
  have g0 : Gr w W0 := by rw [hW0]; exact (((Gr.refl _).alloc _).alloc _).drewN _
  have kA : Hid (W0.heap[w.heap.size]? = some (.cells #[.slice ca code.length ccap, .slice pa pool.length pcap, .slice aa ans.length acap] 26)) := by show W0.heap[w.heap.size]? = _; rw [hW0]; exact heapB w _ _
  have kB : Hid (W0.heap[w.heap.size + 1]? = some (.cells #[.slice cb code.length ccap2, .slice pb pool.length pcap2, .slice ab ans.length acap2] 26)) := by show W0.heap[w.heap.size + 1]? = _; rw [hW0]; exact heapC w _ _
  rw [← hW0]
  clear hW0 HC HI
  go_loopw [5] (fun t wr => ∃ k : Nat, k ≤ ans.length ∧ t = .int .i64 k ∧ Gr W0 wr) (fun t _ => ans.length - (intOf t).toNat)
  case atStart => exact ⟨0, Nat.zero_le _, rfl, Gr.refl _⟩
  case round =>
    obtain ⟨k, hk, rfl, hgr⟩ := hrel
    have hzA := lt_of_someE kA.out
    have hzB := lt_of_someE kB.out
    obtain ⟨cA, _⟩ := row_all ((hgr.block _ hzA).trans kA.out)
    obtain ⟨cB, _⟩ := row_all ((hgr.block _ hzB).trans kB.out)
    by_cases hlt : k < ans.length
    · obtain ⟨x, hx⟩ : ∃ x, ans[k]? = some x := ⟨_, List.getElem?_eq_getElem hlt⟩
      obtain ⟨y, hy⟩ : ∃ y, ans2[k]? = some y := ⟨_, List.getElem?_eq_getElem (by have := HL.out; omega)⟩
      obtain ⟨b1, o1, haa, hb1, hc1⟩ := hp.aat.cell k x hx
      obtain ⟨b2, o2, hab, hb2, hc2⟩ := hq.aat.cell k y hy
      have ox := (hp.aok x (List.mem_of_getElem? hx)).gr (g0.trans hgr)
      have oy := (hq.aok y (List.mem_of_getElem? hy)).gr (g0.trans hgr)
      have HS : Hid _ := HSA.out k x y hx hy
      obtain ⟨p0, p1, p2, p3, p4⟩ := hc1.gr hb1 (g0.trans hgr)
      obtain ⟨r0, r1, r2, r3, r4⟩ := hc2.gr hb2 (g0.trans hgr)
      simp only at haa hab
      have zA : w.heap.size < wr.heap.size := Nat.lt_of_lt_of_le hzA hgr.size
      have zB : w.heap.size + 1 < wr.heap.size := Nat.lt_of_lt_of_le hzB hgr.size
      have z1 : b1 < wr.heap.size := Nat.lt_of_lt_of_le hb1 (g0.trans hgr).size
      have z2 : b2 < wr.heap.size := Nat.lt_of_lt_of_le hb2 (g0.trans hgr).size
      rw [haa] at cA
      rw [hab] at cB
      have d1 := cA 2
      have d2 := cB 2
      obtain ⟨off, sv, nm, a, cap, zs, jump⟩ := x
      obtain ⟨off2, sv2, nm2, a2, cap2, zs2, jump2⟩ := y
      simp [Ans.cells] at p0 p1 p2 p3 p4 r0 r1 r2 r3 r4 d1 d2
      have HAA : Hid _ := And.intro haa hab
      have HSM : Hid _ := fun W' (h1 : AnsOk W' ⟨off, sv, nm, a, cap, zs, jump⟩) (h2 : AnsOk W' ⟨off2, sv2, nm2, a2, cap2, zs2, jump2⟩) => sameAnswer_any ⟨off, sv, nm, a, cap, zs, jump⟩ ⟨off2, sv2, nm2, a2, cap2, zs2, jump2⟩ W' h1 h2
      rw [HS.out] at HSM
      simp only [Ans.cells] at HSM
      have hO : wr.cell? ⟨w.heap.size, 2, none⟩ = some (.slice (some ⟨b1, o1, none⟩) ans.length acap) ∧ wr.cell? ⟨w.heap.size + 1, 2, none⟩ = some (.slice (some ⟨b2, o2, none⟩) ans.length acap2) ∧ wr.cell? ⟨b1, o1 + k * 5, none⟩ = some (.int .i64 off) ∧ wr.cell? ⟨b1, o1 + k * 5 + 1, none⟩ = some (.bool sv) ∧ wr.cell? ⟨b1, o1 + k * 5 + 2, none⟩ = some (.string nm) ∧ wr.cell? ⟨b1, o1 + k * 5 + 3, none⟩ = some (.slice a zs.length cap) ∧ wr.cell? ⟨b1, o1 + k * 5 + 4, none⟩ = some (.int .i64 jump) ∧ wr.cell? ⟨b2, o2 + k * 5, none⟩ = some (.int .i64 off2) ∧ wr.cell? ⟨b2, o2 + k * 5 + 1, none⟩ = some (.bool sv2) ∧ wr.cell? ⟨b2, o2 + k * 5 + 2, none⟩ = some (.string nm2) ∧ wr.cell? ⟨b2, o2 + k * 5 + 3, none⟩ = some (.slice a2 zs2.length cap2) ∧ wr.cell? ⟨b2, o2 + k * 5 + 4, none⟩ = some (.int .i64 jump2) := ⟨d1, d2, p0, p1, p2, p3, p4, r0, r1, r2, r3, r4⟩
      clear haa hab hx hy hc1 hc2 p0 p1 p2 p3 p4 r0 r1 r2 r3 r4 d1 d2 cB
      go_upto_region 6 with fail
      clear cA
      go_region_held3 (fun w' => w'.cell? ⟨w.heap.size, 2, none⟩ = some (.slice (some ⟨b1, o1, none⟩) ans.length acap) ∧ w'.cell? ⟨w.heap.size + 1, 2, none⟩ = some (.slice (some ⟨b2, o2, none⟩) ans.length acap2) ∧ w'.cell? ⟨b1, o1 + k * 5, none⟩ = some (.int .i64 off) ∧ w'.cell? ⟨b1, o1 + k * 5 + 1, none⟩ = some (.bool sv) ∧ w'.cell? ⟨b1, o1 + k * 5 + 2, none⟩ = some (.string nm) ∧ w'.cell? ⟨b1, o1 + k * 5 + 3, none⟩ = some (.slice a zs.length cap) ∧ w'.cell? ⟨b1, o1 + k * 5 + 4, none⟩ = some (.int .i64 jump) ∧ w'.cell? ⟨b2, o2 + k * 5, none⟩ = some (.int .i64 off2) ∧ w'.cell? ⟨b2, o2 + k * 5 + 1, none⟩ = some (.bool sv2) ∧ w'.cell? ⟨b2, o2 + k * 5 + 2, none⟩ = some (.string nm2) ∧ w'.cell? ⟨b2, o2 + k * 5 + 3, none⟩ = some (.slice a2 zs2.length cap2) ∧ w'.cell? ⟨b2, o2 + k * 5 + 4, none⟩ = some (.int .i64 jump2)) (first | with_reducible exact hO | (simpa [go_sem] using hO))
        (first | (go_at_call 25; refine (HSM.out _ (ox.gr (by exact (Gr.refl _).drew)) (oy.gr (by exact (Gr.refl _).drew))).mono ?_; rintro e w5 ⟨rfl, hg3⟩; replace hO := (And.intro ((hg3.cell w.heap.size _ (by exact zA)).trans hO.1) (And.intro ((hg3.cell (w.heap.size + 1) _ (by exact zB)).trans hO.2.1) (And.intro ((hg3.cell b1 _ (by exact z1)).trans hO.2.2.1) (And.intro ((hg3.cell b1 _ (by exact z1)).trans hO.2.2.2.1) (And.intro ((hg3.cell b1 _ (by exact z1)).trans hO.2.2.2.2.1) (And.intro ((hg3.cell b1 _ (by exact z1)).trans hO.2.2.2.2.2.1) (And.intro ((hg3.cell b1 _ (by exact z1)).trans hO.2.2.2.2.2.2.1) (And.intro ((hg3.cell b2 _ (by exact z2)).trans hO.2.2.2.2.2.2.2.1) (And.intro ((hg3.cell b2 _ (by exact z2)).trans hO.2.2.2.2.2.2.2.2.1) (And.intro ((hg3.cell b2 _ (by exact z2)).trans hO.2.2.2.2.2.2.2.2.2.1) (And.intro ((hg3.cell b2 _ (by exact z2)).trans hO.2.2.2.2.2.2.2.2.2.2.1) ((hg3.cell b2 _ (by exact z2)).trans hO.2.2.2.2.2.2.2.2.2.2.2))))))))))))))
      go_wp2
      refine ⟨⟨k + 1, by omega, by go_num, hgr.trans ((Gr.refl _).drew.trans hg3)⟩, by simp [intOf]; omega⟩
    · go_wp2
      go_ret
      exact ⟨rfl, g0.trans hgr⟩
theorem num_err : ∀ (f i u : Nat) (l : List Int), (Dec.num f i u l).2.2 ≠ 0 → (Dec.num f i u l).1 = 0
  | 0, i, u, l, h => absurd rfl h
  | f + 1, i, u, [], h => rfl
  | f + 1, i, u, b :: r, h => by
    by_cases hbad : (0 < i ∧ b = 0) ∨ (i = 9 ∧ 1 < b)
    · rw [Dec.num_bad hbad]
    · by_cases h128 : b < 128
      · rw [Dec.num_last hbad h128] at h; exact absurd rfl h
      · rw [Dec.num_more hbad h128] at h ⊢; exact num_err f (i + 1) _ r h
theorem number_err {l : List Int} {e : Int} (h : (Dec.number l e).2.2 ≠ 0) : (Dec.number l e).1 = 0 := by
  unfold Dec.number at h ⊢
  split at h
  · rename_i h0; rw [if_pos h0]; exact num_err _ _ _ _ h
  · rename_i h0; rw [if_neg h0]
theorem count_spool {most : Int} {l : List Int} {e : Int} (hm : 0 ≤ most) (N : Int × List Int × Int) (hN : Dec.number l e = N) : (N.2.2 ≠ 0 ∨ (0 ≤ N.1 ∧ N.1 ≤ most) → Dec.count most l e = N) ∧ (N.2.2 = 0 → ¬ (0 ≤ N.1 ∧ N.1 ≤ most) → Dec.count most l e = (0, N.2.1, 1)) := by
  constructor
  · intro h
    refine count_ok hN ?_
    rcases h with h | h
    · have : N.1 = 0 := by rw [← hN] at h ⊢; exact number_err h
      omega
    · omega
  · intro h0 h
    rw [count_bad hN (by omega), h0]
    rfl
theorem inOf_any (n lo hi : Int) (w : World) : Calls Tryd.prog 21 #[.int .i64 n, .int .i64 lo, .int .i64 hi] w fun e w' => e = .returned (.bool (decide (lo ≤ n ∧ n ≤ hi))) ∧ w' = w := by
  by_cases h1 : lo ≤ n
  · have g1 : decide (lo ≤ n) = true := by simpa using h1
    go_enter Tryd.func21, Tryd.ntmps21
    go_wp2
    go_ret
    exact ⟨ret_bool (by simp; exact fun _ => h1), rfl⟩
  · have g1 : decide (lo ≤ n) = false := by simpa using h1
    go_enter Tryd.func21, Tryd.ntmps21
    go_wp2
    go_ret
    exact ⟨ret_bool (by simp), rfl⟩
set_option maxHeartbeats 1600000 in
theorem countIn_any (most : Int) (W w : World) (sb : Nat) (L l : List Int) (e : Int) (hS : Sp W w sb L l e) (hm : 0 ≤ most) :
    Calls Tryd.prog 20 #[.pointer (some ⟨sb, 0, none⟩), .int .i64 most] w (SpPost W w sb L (Dec.count most l e)) := by
  have HN : Hid _ := fun (_ : Unit) => numberIn_any W w sb L l e hS
  have HC : Hid _ := fun (_ : Unit) => @count_spool most l e hm
  obtain ⟨RR, hRR⟩ : ∃ R, Dec.count most l e = R := ⟨_, rfl⟩
  rw [hRR]
  obtain ⟨⟨n, l1, e1⟩, hNN⟩ : ∃ N, Dec.number l e = N := ⟨_, rfl⟩
  have hc := HC.out () _ hNN
  rw [hRR] at hc
  rw [hNN] at HN
  simp only at hc
  have HCC : Hid _ := hc
  clear hS hRR hNN hc HC
  go_enter Tryd.func20, Tryd.ntmps20
  go_upto_region 2 with (go_at_call 22; refine (HN.out ()).mono ?_; rintro en w1 ⟨rfl, hS1, hB1⟩)
  obtain ⟨a, cap, i, h1, h2, h3, h4⟩ := hS1.ex
  obtain ⟨c1, f1⟩ := row_all h1
  have HS : Hid _ := hS1
  clear hS1 h1 h2 h3 h4
  by_cases he : e1 = 0
  · subst he
    by_cases hin : 0 ≤ n ∧ n ≤ most
    · go_wp2_with (go_at_call 21; refine (inOf_any n 0 most _).mono ?_; rintro en w2 ⟨rfl, hw2⟩; subst w2; rw [decide_eq_true hin])
      go_ret
      rw [HCC.out.1 (Or.inr hin)]
      exact ⟨rfl, HS.out, hB1⟩
    · go_wp2_with (go_at_call 21; refine (inOf_any n 0 most _).mono ?_; rintro en w2 ⟨rfl, hw2⟩; subst w2; rw [decide_eq_false hin])
      go_ret
      rw [HCC.out.2 trivial hin]
      exact ⟨rfl, HS.out.wrong 1, hB1.setCell _ _⟩
  · have g1 : (e1 == 0) = false := by simpa using he
    go_wp2
    go_ret
    rw [HCC.out.1 (Or.inl he)]
    exact ⟨rfl, HS.out, hB1⟩
end Go.Proofs.YtddamfnoggjkfaaDoor
