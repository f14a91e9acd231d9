/- Contracts: where a span ends, and where the first one begins that shows more. -/
import Derived.Test.YthnbmeihaojfnaaLocM
import Derived.Test.YthnbmeihaojfnaaYear
import Derived.Deep.Cut
import Derived.Deep.RegionHeld3
import Derived.BigQuiet
namespace Go.Proofs.Ythnbmeihaojfnaa
open Go.ChangeShapes Go.WideShapes Go.ChangeAt Go.RowKit
set_option linter.unusedVariables false
theorem next_at {l : List Spn} {i : Nat} {y : Spn} (h : l[i + 1]? = some y) : nextF (l.drop (i + 1)) = y.frm := by
  have hl := (List.getElem?_eq_some_iff.1 h).1
  rw [List.drop_eq_getElem_cons hl]
  rw [List.getElem?_eq_getElem hl] at h
  cases h
  rfl
theorem next_end {l : List Spn} {i : Nat} (h : l.length ≤ i + 1) : nextF (l.drop (i + 1)) = 4102444800 := by
  rw [List.drop_eq_nil_of_le h]; rfl
set_option maxHeartbeats 1600000 in
theorem endOf_any (a : Option Addr) (cap : Nat) (l : List Spn) (i : Nat) (w : World) (hl : SpansAt w a l) (h1 : l.length ≤ 1000) (hi : i < l.length) :
    Calls Try.prog 41 #[.slice a l.length cap, .int .i64 i] w fun e w' => e = .returned (.int .i64 (nextF (l.drop (i + 1)))) ∧ w' = w := by
  by_cases h : i + 1 < l.length
  · obtain ⟨y, hy⟩ : ∃ y, l[i + 1]? = some y := ⟨_, List.getElem?_eq_getElem h⟩
    obtain ⟨_, b, o, rfl, hb, c0, c1, c2, c3⟩ := hl.cell (i + 1) y hy
    have HE : Hid _ := next_at hy
    have j1 : ((i : Int) + 1).toNat = i + 1 := by omega
    have j2 : (i : Int) + 1 < (l.length : Int) := by omega
    clear hy hl
    go_enter Try.func41, Try.ntmps41
    go_wp2
    go_ret
    exact ⟨ret_int HE.out.symm, rfl⟩
  · have HE : Hid _ := next_end (l := l) (i := i) (by omega)
    have j2 : ¬ (i : Int) + 1 < (l.length : Int) := by omega
    clear hl
    go_enter Try.func41, Try.ntmps41
    go_wp2_with fail
    refine (window_any _).mono ?_
    rintro e w1 ⟨rfl, rfl⟩
    go_wp2
    go_ret
    exact ⟨ret_int HE.out.symm, rfl⟩
set_option maxHeartbeats 1600000 in
theorem jump_any (a : Option Addr) (cap : Nat) (l : List Spn) (n : Int) (w : World) (hl : SpansAt w a l) (h1 : l.length ≤ 1000) (hg : ∀ x ∈ l, SpnGood x) :
    Calls Try.prog 42 #[.slice a l.length cap, .int .i64 n] w fun e w' => e = .returned (.int .i64 (jumpR n l)) ∧ Gr w w' := by
  go_enter Try.func42, Try.ntmps42
  go_wp2_with fail
  go_loopw [11] (fun t wr => ∃ k : Nat, k ≤ l.length ∧ t = .int .i64 k ∧ Gr w wr ∧ jumpR n l = jumpR n (l.drop k)) (fun t _ => l.length - (intOf t).toNat)
  case atStart => exact ⟨0, Nat.zero_le _, rfl, Gr.refl _, rfl⟩
  case round =>
    obtain ⟨k, hk, rfl, hgr, hj⟩ := hrel
    by_cases hlt : k < l.length
    · obtain ⟨x, hx⟩ : ∃ x, l[k]? = some x := ⟨_, List.getElem?_eq_getElem hlt⟩
      obtain ⟨_, b, o, rfl, hb, c0, c1, c2, c3⟩ := (hl.gr hgr).cell k x hx
      have g := hg x (List.mem_of_getElem? hx)
      have hd : l.drop k = x :: l.drop (k + 1) := by
        rw [List.drop_eq_getElem_cons hlt]
        rw [List.getElem?_eq_getElem hlt] at hx
        cases hx; rfl
      have g1 := g.lo
      have g2 := g.hi
      have g3 := g.olo
      have g4 := g.ohi
      rw [hd] at hj
      have HJ : Hid _ := hj
      obtain ⟨frm, off, sv, nm⟩ := x
      simp only at c0 c1 c2 c3 g1 g2 g3 g4
      clear hx hd hj g
      by_cases hn : n < frm + off
      · have b1 : decide (n < frm + off) = true := by simpa using hn
        have HV : Hid _ := (show jumpR n l = frm by rw [HJ.out]; unfold jumpR; rw [if_pos hn])
        go_wp2_with fail
        go_ret
        exact ⟨ret_int HV.out.symm, hgr.alloc _⟩
      · have b1 : decide (n < frm + off) = false := by simpa using hn
        have HV : Hid _ := (show jumpR n l = jumpR n (l.drop (k + 1)) by rw [HJ.out, jumpR, if_neg hn])
        go_wp2_with fail
        go_roundw
        case rel => exact ⟨k + 1, by omega, by go_num, hgr.alloc _, HV.out⟩
        case measure => simp [intOf]; omega
    · have hk' : k = l.length := by omega
      have HV : Hid _ := (show jumpR n l = 4102444800 by rw [hj, hk', List.drop_length]; rfl)
      clear hj
      go_wp2_with fail
      refine (window_any _).mono ?_
      rintro e w1 ⟨rfl, rfl⟩
      go_wp2
      go_ret
      exact ⟨ret_int HV.out.symm, hgr⟩
/-- The box of the spans, and that of the number asked. -/
structure ShI (a : Option Addr) (cap : Nat) (l : List Spn) (n : Int) (lb nb : Nat) (w : World) : Prop where
  spans : SpansAt w a l
  lbox : w.heap[lb]? = some (.cells #[.slice a l.length cap] 22)
  nbox : w.heap[nb]? = some (.cells #[.int .i64 n] 3)
theorem ShI.gr {a : Option Addr} {cap : Nat} {l : List Spn} {n : Int} {lb nb : Nat} {w w' : World} (h : ShI a cap l n lb nb w) (hg : Gr w w') : ShI a cap l n lb nb w' :=
  ⟨h.spans.gr hg, (hg.block _ (Array.getElem?_eq_some_iff.1 h.lbox).1).trans h.lbox, (hg.block _ (Array.getElem?_eq_some_iff.1 h.nbox).1).trans h.nbox⟩
set_option maxHeartbeats 1600000 in
theorem cloS_any (a : Option Addr) (cap : Nat) (l : List Spn) (n : Int) (lb nb i : Nat) (w : World) (h : ShI a cap l n lb nb w) (h1 : l.length ≤ 1000) (hi : i < l.length) (hn0 : -1099511627776 ≤ n) (hn1 : n ≤ 1099511627776) :
    Calls Try.prog 40 #[.int .i64 i, .pointer (some ⟨lb, 0, none⟩), .pointer (some ⟨nb, 0, none⟩)] w fun e w' => e = .returned (.bool (decide (n - 172800 < nextF (l.drop (i + 1))))) ∧ Gr w w' := by
  have HE : Hid _ := fun W (hg : Gr w W) => endOf_any a cap l i W (h.spans.gr hg) h1 hi
  have c1 := (row_all h.lbox).1 0
  have c2 := (row_all h.nbox).1 0
  simp at c1 c2
  obtain ⟨R, hR⟩ : ∃ R, nextF (l.drop (i + 1)) = R := ⟨_, rfl⟩
  rw [hR]
  simp only [hR] at HE
  clear hR h
  have hwr : IntKind.i64.wrap (n - 172800) = n - 172800 := IntWalk.i64_in _ ⟨by omega, by omega⟩
  go_enter Try.func40, Try.ntmps40
  go_upto_region 1 with fail
  have hO : w.cell? ⟨lb, 0, none⟩ = some (.slice a l.length cap) ∧ w.cell? ⟨nb, 0, none⟩ = some (.int .i64 n) := ⟨c1, c2⟩
  clear c1 c2
  go_region_held3 (fun w' => w'.cell? ⟨lb, 0, none⟩ = some (.slice a l.length cap) ∧ w'.cell? ⟨nb, 0, none⟩ = some (.int .i64 n)) (first | with_reducible exact hO | (simpa [go_sem] using hO))
    (first
      | (go_at_call 41; refine (HE.out _ (by repeat (with_reducible first | exact Gr.refl _ | refine Gr.drew ?_))).mono ?_; rintro e w5 ⟨rfl, hw5⟩; subst w5))
  go_wp2_with fail
  go_ret
  refine ⟨?_, by repeat (with_reducible first | exact Gr.refl _ | refine Gr.drewN ?_ _ | refine Gr.drew ?_)⟩
  rfl
theorem next_mono {l : List Spn} (hg : ∀ x ∈ l, SpnGood x) (hp : l.Pairwise (fun a b => a.frm < b.frm)) {i j : Nat} (hij : i ≤ j) : nextF (l.drop i) ≤ nextF (l.drop j) := by
  rcases Nat.lt_or_ge j l.length with h | h
  · obtain ⟨x, hx⟩ : ∃ x, l[i]? = some x := ⟨_, List.getElem?_eq_getElem (by omega)⟩
    obtain ⟨y, hy⟩ : ∃ y, l[j]? = some y := ⟨_, List.getElem?_eq_getElem h⟩
    have e1 : nextF (l.drop i) = x.frm := by
      rw [List.drop_eq_getElem_cons (by omega : i < l.length)]
      rw [List.getElem?_eq_getElem (by omega : i < l.length)] at hx
      cases hx; rfl
    have e2 : nextF (l.drop j) = y.frm := by
      rw [List.drop_eq_getElem_cons h]
      rw [List.getElem?_eq_getElem h] at hy
      cases hy; rfl
    rw [e1, e2]
    rcases Nat.lt_or_ge i j with g | g
    · obtain ⟨_, ex⟩ := List.getElem?_eq_some_iff.1 hx
      obtain ⟨_, ey⟩ := List.getElem?_eq_some_iff.1 hy
      have := List.pairwise_iff_getElem.1 hp i j (by omega) h g
      rw [ex, ey] at this
      omega
    · have : i = j := by omega
      subst this
      rw [hx] at hy
      cases hy
      exact Int.le_refl _
  · have e2 : nextF (l.drop j) = 4102444800 := by rw [List.drop_eq_nil_of_le h]; rfl
    rw [e2]
    exact (next_bd (l := l.drop i) (fun x hx => hg x (List.mem_of_mem_drop hx))).2
set_option maxHeartbeats 1600000 in
theorem search_any (a : Option Addr) (cap : Nat) (l : List Spn) (n : Int) (lb nb : Nat) (w : World) (h : ShI a cap l n lb nb w) (h1 : l.length ≤ 1000) (hn0 : -1099511627776 ≤ n) (hn1 : n ≤ 1099511627776) (hg : ∀ x ∈ l, SpnGood x) (hp : l.Pairwise (fun a b => a.frm < b.frm)) :
    Calls Try.prog 39 #[.int .i64 l.length, .func (.func 40) #[] #[.pointer (some ⟨lb, 0, none⟩), .pointer (some ⟨nb, 0, none⟩)]] w fun e w' => ∃ r : Nat, e = .returned (.int .i64 r) ∧ r ≤ l.length ∧ (∀ i, i < r → nextF (l.drop (i + 1)) ≤ n - 172800) ∧ Gr w w' := by
  have HC : Hid _ := fun i W (hi : i < l.length) (hgr : Gr w W) => cloS_any a cap l n lb nb i W (h.gr hgr) h1 hi hn0 hn1
  have HM : Hid _ := fun i j (hij : i ≤ j) => next_mono hg hp hij
  clear h hg hp
  go_enter Try.func39, Try.ntmps39
  go_wp2_with fail
  go_loopw [5, 6] (fun s t wr => ∃ i j : Nat, i ≤ j ∧ j ≤ l.length ∧ s = .int .i64 i ∧ t = .int .i64 j ∧ (i = 0 ∨ nextF (l.drop i) ≤ n - 172800) ∧ Gr w wr) (fun s t _ => (intOf t).toNat - (intOf s).toNat)
  case atStart => exact ⟨0, l.length, Nat.zero_le _, Nat.le_refl _, rfl, rfl, Or.inl rfl, Gr.refl _⟩
  case round =>
    obtain ⟨i, j, hij, hj, rfl, rfl, hor, hgr⟩ := hrel
    have HOR : Hid _ := hor
    clear hor
    by_cases hlt : i < j
    · have j1 : (i : Int) < (j : Int) := by omega
      obtain ⟨m, hm⟩ : ∃ m, m = (i + j) / 2 := ⟨_, rfl⟩
      have hwr : IntKind.i64.wrap ((i : Int) + (j : Int)) = (i : Int) + (j : Int) := IntWalk.i64_in _ ⟨by omega, by omega⟩
      have hmI : ((i : Int) + (j : Int)) / 2 = (m : Int) := by omega
      have m1 : i ≤ m := by omega
      have m2 : m < j := by omega
      have HGR : Hid _ := hgr
      clear hm hgr
      go_wp2_with fail
      refine (HC.out m _ (by omega) HGR.out).mono ?_
      rintro e w2 ⟨rfl, hg2⟩
      have HG2 : Hid _ := HGR.out.trans hg2
      clear hg2 hmI
      cases hb : decide (n - 172800 < nextF (l.drop (m + 1))) with
      | true =>
        clear hb
        go_wp2_with fail
        go_roundw
        case rel => exact ⟨i, m, by omega, by omega, rfl, rfl, HOR.out, HG2.out⟩
        case measure => simp [intOf]; omega
      | false =>
        have HB : Hid _ := of_decide_eq_false hb
        clear hb
        go_wp2_with fail
        go_roundw
        case rel => exact ⟨m + 1, j, by omega, by omega, by go_num, rfl, Or.inr (Int.not_lt.1 HB.out), HG2.out⟩
        case measure => simp [intOf]; omega
    · have j1 : ¬ (i : Int) < (j : Int) := by omega
      go_wp2_with fail
      go_ret
      refine ⟨i, rfl, by omega, fun k hk => ?_, hgr⟩
      rcases HOR.out with e | e
      · omega
      · have := HM.out (k + 1) i (by omega); omega
end Go.Proofs.Ythnbmeihaojfnaa
