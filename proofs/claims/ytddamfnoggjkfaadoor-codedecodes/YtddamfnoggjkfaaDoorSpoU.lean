/- What the document has read so far, and what that says of the whole (P5.6): plain mathematics. -/
import Derived.Test.YtddamfnoggjkfaaDoorSpoT
namespace Go.Proofs.YtddamfnoggjkfaaDoor
open Go.ChangeShapes Go.WideShapes Go.ChangeAt Go.RowKit
set_option linter.unusedVariables false
theorem count_err {most : Int} (hm : 0 ≤ most) {l : List Int} {e : Int} (he : e ≠ 0) : Dec.count most l e = (0, l, e) := by
  rw [count_ok (Dec.number_e he) (by simp only; omega)]
structure Fine (l : List Int) : Prop where
  long : ¬ 200000 < l.length
  short : ¬ l.length < 3
  head : l.take 3 = [115, 100, 49]
theorem Fine.prog {l : List Int} (h : Fine l) {N3 : Int × List Int × Int} (h3 : Dec.count 8000 (l.drop 3) 0 = N3) {N4 : List Ins × List Int × Int} (h4 : Dec.times Dec.instruction N3.1.toNat N3.2.1 N3.2.2 = N4) {N5 : List Int × List Int × Int} (h5 : Dec.numbers 2000 N4.2.1 N4.2.2 = N5) {N6 : Int × List Int × Int} (h6 : Dec.count 2000 N5.2.1 N5.2.2 = N6) {N7 : List Dec.AV × List Int × Int} (h7 : Dec.times Dec.answer N6.1.toNat N6.2.1 N6.2.2 = N7) :
    Dec.prog l = ((N4.1, N5.1, N7.1), N7.2.1, if 0 < N7.2.1.length then Dec.fail N7.2.2 4 else N7.2.2) :=
  prog_eq _ (Dec.bytes_ok h.short) 0 (by simp [h.head]) N3 h3 N4 h4 N5 h5 N6 h6 N7 h7
theorem Fine.err {l : List Int} (h : Fine l) {e : Int} (he : e ≠ 0) (hp : (Dec.prog l).2.2 = e) : decE l = e := by rw [decE_bad h.long (by rw [hp]; exact he), hp]
theorem fail_if {l : List Int} {e : Int} (he : e ≠ 0) : (if 0 < l.length then Dec.fail e 4 else e) = e := by
  split
  · exact Dec.fail_e he _
  · rfl
structure St1 (l : List Int) (code : List Ins) (l1 : List Int) : Prop where
  ex : ∃ N3, Dec.count 8000 (l.drop 3) 0 = N3 ∧ Dec.times Dec.instruction N3.1.toNat N3.2.1 N3.2.2 = (code, l1, 0)
structure Sg1 (l : List Int) (code : List Ins) (l1 : List Int) (e1 : Int) : Prop where
  or : (e1 = 0 ∧ St1 l code l1) ∨ (e1 ≠ 0 ∧ decE l = e1)
structure St2 (l : List Int) (code : List Ins) (pool l2 : List Int) : Prop where
  ex : ∃ l1, St1 l code l1 ∧ Dec.numbers 2000 l1 0 = (pool, l2, 0)
structure Sg2 (l : List Int) (code : List Ins) (pool l2 : List Int) (e2 : Int) : Prop where
  or : (e2 = 0 ∧ St2 l code pool l2) ∨ (e2 ≠ 0 ∧ decE l = e2)
structure St3 (l : List Int) (code : List Ins) (pool : List Int) (avs : List Dec.AV) (l3 : List Int) : Prop where
  ex : ∃ l2, St2 l code pool l2 ∧ ∃ N6, Dec.count 2000 l2 0 = N6 ∧ Dec.times Dec.answer N6.1.toNat N6.2.1 N6.2.2 = (avs, l3, 0)
structure Sg3 (l : List Int) (code : List Ins) (pool : List Int) (avs : List Dec.AV) (l3 : List Int) (e3 : Int) : Prop where
  or : (e3 = 0 ∧ St3 l code pool avs l3) ∨ (e3 ≠ 0 ∧ decE l = e3)
theorem Fine.e1 {l : List Int} (h : Fine l) {N3 : Int × List Int × Int} (h3 : Dec.count 8000 (l.drop 3) 0 = N3) {e : Int} (h4 : (Dec.times Dec.instruction N3.1.toNat N3.2.1 N3.2.2).2.2 = e) (he : e ≠ 0) : decE l = e := by
  refine h.err he ?_
  rw [h.prog h3 rfl rfl rfl rfl]
  simp only
  rw [h4, (Dec.numbers_sy 2000).st _ _ he, (Dec.count_sy 2000).st _ _ he, (Dec.times_sy Dec.answer_sy _).st _ _ he, fail_if he]
theorem Fine.e2 {l : List Int} (h : Fine l) {code : List Ins} {l1 : List Int} (h1 : St1 l code l1) {e : Int} (h4 : (Dec.numbers 2000 l1 0).2.2 = e) (he : e ≠ 0) : decE l = e := by
  obtain ⟨N3, h3, h4'⟩ := h1.ex
  refine h.err he ?_
  rw [h.prog h3 h4' rfl rfl rfl]
  simp only
  rw [h4, (Dec.count_sy 2000).st _ _ he, (Dec.times_sy Dec.answer_sy _).st _ _ he, fail_if he]
theorem Fine.e3 {l : List Int} (h : Fine l) {code : List Ins} {pool l2 : List Int} (h1 : St2 l code pool l2) {N6 : Int × List Int × Int} (h6 : Dec.count 2000 l2 0 = N6) {e : Int} (h4 : (Dec.times Dec.answer N6.1.toNat N6.2.1 N6.2.2).2.2 = e) (he : e ≠ 0) : decE l = e := by
  obtain ⟨l1, ⟨N3, h3, h4'⟩, h5⟩ := h1.ex
  refine h.err he ?_
  rw [h.prog h3 h4' h5 h6 rfl]
  simp only
  rw [h4, fail_if he]
theorem Fine.prog3 {l : List Int} (h : Fine l) {code : List Ins} {pool : List Int} {avs : List Dec.AV} {l3 : List Int} (h1 : St3 l code pool avs l3) : Dec.prog l = ((code, pool, avs), l3, if 0 < l3.length then 4 else 0) := by
  obtain ⟨l2, ⟨l1, ⟨N3, h3, h4'⟩, h5⟩, N6, h6, h7⟩ := h1.ex
  rw [h.prog h3 h4' h5 h6 h7]
  rfl
theorem Fine.left {l : List Int} (h : Fine l) {code : List Ins} {pool : List Int} {avs : List Dec.AV} {l3 : List Int} (h1 : St3 l code pool avs l3) (hl : 0 < l3.length) : decE l = 4 := h.err (by decide) (by rw [h.prog3 h1]; exact if_pos hl)
theorem Fine.done {l : List Int} (h : Fine l) {code : List Ins} {pool : List Int} {avs : List Dec.AV} {l3 : List Int} (h1 : St3 l code pool avs l3) (hl : ¬ 0 < l3.length) : decE l = (Ver.verify (mkP (code, pool, avs))).2.2 ∧ (decE l = 0 → decV l = (code, pool, avs)) := by
  have := h.prog3 h1
  rw [if_neg hl] at this
  refine ⟨by rw [decE_ok h.long (by rw [this]), this], fun h0 => by rw [decV, if_pos h0, this]⟩
theorem Sg2.of {l : List Int} (h : Fine l) {code : List Ins} {l1 l4 : List Int} {e1 e4 : Int} {n4 q : Nat} (h1 : Sg1 l code l1 e1) (hc : Dec.count 2000 l1 e1 = ((n4 : Int), l4, e4)) (hq : q ≤ n4) {T : List Int × List Int × Int} (hT : Dec.times Dec.number q l4 e4 = T) (hx : q = n4 ∨ T.2.2 ≠ 0) : Sg2 l code T.1 T.2.1 T.2.2 := by
  rcases h1.or with ⟨rfl, hs⟩ | ⟨he, hd⟩
  · by_cases hz : T.2.2 = 0
    · have hqn : q = n4 := hx.resolve_right (fun hh => hh hz)
      refine ⟨Or.inl ⟨hz, l1, hs, ?_⟩⟩
      unfold Dec.numbers
      rw [hc]
      simp only [Int.toNat_natCast]
      rw [← hqn, hT, ← hz]
    · refine ⟨Or.inr ⟨hz, h.e2 hs ?_ hz⟩⟩
      unfold Dec.numbers
      rw [hc]
      simp only [Int.toNat_natCast]
      rw [Dec.times_more Dec.number_sy hq (by rw [hT]; exact hz), hT]
  · rw [count_err (by decide) he] at hc
    have e2 : e1 = e4 := congrArg (fun x => x.2.2) hc
    have e3 : T.2.2 = e1 := by rw [← hT, ← e2]; exact (Dec.times_sy Dec.number_sy q).st _ _ he
    exact ⟨Or.inr ⟨by rw [e3]; exact he, by rw [e3]; exact hd⟩⟩
theorem Sg3.of {l : List Int} (h : Fine l) {code : List Ins} {pool l2 l6 : List Int} {e2 e6 : Int} {n6 q : Nat} (h1 : Sg2 l code pool l2 e2) (hc : Dec.count 2000 l2 e2 = ((n6 : Int), l6, e6)) (hq : q ≤ n6) {T : List Dec.AV × List Int × Int} (hT : Dec.times Dec.answer q l6 e6 = T) (hx : q = n6 ∨ T.2.2 ≠ 0) : Sg3 l code pool T.1 T.2.1 T.2.2 := by
  rcases h1.or with ⟨rfl, hs⟩ | ⟨he, hd⟩
  · by_cases hz : T.2.2 = 0
    · have hqn : q = n6 := hx.resolve_right (fun hh => hh hz)
      refine ⟨Or.inl ⟨hz, l2, hs, _, hc, ?_⟩⟩
      simp only [Int.toNat_natCast]
      rw [← hqn, hT, ← hz]
    · refine ⟨Or.inr ⟨hz, h.e3 hs hc ?_ hz⟩⟩
      simp only [Int.toNat_natCast]
      rw [Dec.times_more Dec.answer_sy hq (by rw [hT]; exact hz), hT]
  · rw [count_err (by decide) he] at hc
    have e2' : e2 = e6 := congrArg (fun x => x.2.2) hc
    have e3 : T.2.2 = e2 := by rw [← hT, ← e2']; exact (Dec.times_sy Dec.answer_sy q).st _ _ he
    exact ⟨Or.inr ⟨by rw [e3]; exact he, by rw [e3]; exact hd⟩⟩
theorem Sp.skip {W w : World} {sb i cap n : Nat} {L l : List Int} {e : Int} {a : Option Addr} (h : Sp W w sb L l e) (h1 : w.heap[sb]? = some (.cells #[.slice a L.length cap, .int .i64 i, .int .i64 e] 55)) (h2 : BysAt W a L) (h3 : i + n ≤ L.length) (h4 : l = L.drop i) : Sp W (w.setCell ⟨sb, 1, none⟩ (.int .i64 ((i : Int) + (n : Int)))) sb L (l.drop n) e := by
  refine ⟨h.gr.setCell h.old _, h.old, h.byt, h.len, a, cap, i + n, ?_, h2, h3, by rw [h4, List.drop_drop]⟩
  have := heap_setCell_same w sb 1 _ _ (.int .i64 ((i : Int) + (n : Int))) h1
  simpa using this
def yesE (z e : Int) : Int := if z ≠ 0 ∧ z ≠ 1 then Dec.fail e 4 else e
theorem yes_eqS {l : List Int} {e : Int} {N : Int × List Int × Int} (hN : Dec.number l e = N) : Dec.yes l e = (N.1 == 1, N.2.1, yesE N.1 N.2.2) := by subst hN; rfl
theorem yesE_err {z e : Int} (h : (e == 0) = false) : yesE z e = e := by
  have h' : e ≠ 0 := by simpa using h
  unfold yesE
  split
  · exact Dec.fail_e h' _
  · rfl
theorem yesE_ok {z e : Int} (h : decide (0 ≤ z ∧ z ≤ 1) = true) : yesE z e = e := by
  have h' := of_decide_eq_true h
  exact if_neg (by omega)
theorem yesE_no {z e : Int} (h0 : (e == 0) = true) (h : decide (0 ≤ z ∧ z ≤ 1) = false) : yesE z e = 4 := by
  have h0' : e = 0 := by simpa using h0
  have h' := of_decide_eq_false h
  rw [yesE, if_pos (by omega), h0']
  rfl
def shortE (n : Nat) (l : List Int) (e : Int) : Int := if (e == 0 && decide (l.length < n)) = true then 5 else e
theorem short_bytes {n : Nat} {l : List Int} {e : Int} (h : (shortE n l e == 0) = false) : Dec.bytes n l e = ([], l, shortE n l e) := by
  have h' : shortE n l e ≠ 0 := by simpa using h
  unfold shortE at h' ⊢
  by_cases he : e = 0
  · subst he
    by_cases hl : l.length < n
    · rw [Dec.bytes_short hl, if_pos (by simp [hl])]
    · rw [if_neg (by simp [hl])] at h'
      exact absurd rfl h'
  · rw [Dec.bytes_e he, if_neg (by simp [he])]
theorem long_bytes {n : Nat} {l : List Int} {e : Int} (h : (shortE n l e == 0) = true) : e = 0 ∧ n ≤ l.length ∧ Dec.bytes n l e = (l.take n, l.drop n, 0) := by
  have h' : shortE n l e = 0 := by simpa using h
  unfold shortE at h'
  by_cases he : e = 0
  · subst he
    by_cases hl : l.length < n
    · rw [if_pos (by simp [hl])] at h'
      cases h'
    · exact ⟨rfl, by omega, Dec.bytes_ok hl⟩
  · rw [if_neg (by simp [he])] at h'
    exact absurd h' he
theorem bys_at {W : World} {ab ao i n : Nat} {L : List Int} (h : BysAt W (some ⟨ab, ao, none⟩) L) : BysAt W (some ⟨ab, ao + i, none⟩) ((L.drop i).take n) := (h.drop i).take n
end Go.Proofs.YtddamfnoggjkfaaDoor
