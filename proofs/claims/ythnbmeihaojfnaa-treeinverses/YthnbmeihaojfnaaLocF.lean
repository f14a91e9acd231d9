/- Contract: the document's answer for what a clock shows (LocalOf). -/
import Derived.Test.YthnbmeihaojfnaaLocM
import Derived.Test.YthnbmeihaojfnaaTreC
import Derived.Deep.RegionHeld3
import Derived.Deep.Cut
import Derived.Deep.DeepCutAuto
import Derived.Deep.CutBlock
import Derived.Test.YthnbmeihaojfnaaYear
import Derived.Test.YthnbmeihaojfnaaInvB
namespace Go.Proofs.Ythnbmeihaojfnaa
open Go.ChangeShapes Go.WideShapes Go.ChangeAt Go.RowKit
set_option linter.unusedVariables false
set_option maxRecDepth 100000
/-- A clock shows more than six instants of what it does where the last one begins of those that do. -/
theorem offs_sub {m n : Int} : ∀ {l : List Spn}, (∀ x ∈ l, x.frm + x.off ≤ n → x.frm + x.off ≤ m) → m ≤ n → (offsR n l).length ≤ (offsR m l).length
  | [], _, _ => Nat.le_refl _
  | x :: r, h, hmn => by
    have ih := offs_sub (l := r) (fun y hy => h y (by simp [hy])) hmn
    unfold offsR
    by_cases hs : shB x (nextF r) n = true
    · have h1 := of_decide_eq_true hs
      have h2 : shB x (nextF r) m = true := by
        have := h x (by simp) h1.1
        unfold shB
        rw [decide_eq_true_iff]
        omega
      rw [if_pos hs, if_pos h2]
      simp
      omega
    · rw [if_neg hs]
      simp
      omega
/-- The greatest of the beginnings that are not behind a number. -/
theorem begin_max {n : Int} : ∀ {l : List Spn}, (∃ x ∈ l, x.frm + x.off ≤ n) → ∃ x ∈ l, x.frm + x.off ≤ n ∧ ∀ y ∈ l, y.frm + y.off ≤ n → y.frm + y.off ≤ x.frm + x.off
  | [], h => by
    obtain ⟨x, hx, _⟩ := h
    simp at hx
  | z :: r, h => by
    by_cases hr : ∃ x ∈ r, x.frm + x.off ≤ n
    · obtain ⟨x, hx, h1, h2⟩ := begin_max hr
      by_cases hz : z.frm + z.off ≤ n ∧ x.frm + x.off < z.frm + z.off
      · refine ⟨z, by simp, hz.1, fun y hy hyn => ?_⟩
        rcases List.mem_cons.1 hy with rfl | hy
        · exact Int.le_refl _
        · have := h2 y hy hyn; omega
      · refine ⟨x, by simp [hx], h1, fun y hy hyn => ?_⟩
        rcases List.mem_cons.1 hy with rfl | hy
        · have : ¬ x.frm + x.off < y.frm + y.off := fun g => hz ⟨hyn, g⟩
          omega
        · exact h2 y hy hyn
    · obtain ⟨x, hx, hn⟩ := h
      rcases List.mem_cons.1 hx with rfl | hx
      · refine ⟨x, by simp, hn, fun y hy hyn => ?_⟩
        rcases List.mem_cons.1 hy with rfl | hy
        · exact Int.le_refl _
        · exact absurd ⟨y, hy, hyn⟩ hr
      · exact absurd ⟨x, hx, hn⟩ hr
theorem offs_some {n : Int} : ∀ {l : List Spn}, offsR n l ≠ [] → ∃ x ∈ l, x.frm + x.off ≤ n
  | [], h => absurd rfl h
  | x :: r, h => by
    by_cases hs : shB x (nextF r) n = true
    · exact ⟨x, by simp, (of_decide_eq_true hs).1⟩
    · unfold offsR at h
      rw [if_neg hs] at h
      obtain ⟨y, hy, hn⟩ := offs_some (l := r) (by simpa using h)
      exact ⟨y, by simp [hy], hn⟩
/-- Where more than six are told for a number, more than six are told where a span begins. -/
theorem wide_of {l : List Spn} {n : Int} (h : 6 < (offsR n l).length) : ∃ x ∈ l, 6 < (offsR (x.frm + x.off) l).length := by
  obtain ⟨x, hx, h1, h2⟩ := begin_max (offs_some (l := l) (n := n) (fun e => by rw [e] at h; simp at h))
  have := offs_sub (l := l) (m := x.frm + x.off) (n := n) (fun y hy hyn => h2 y hy hyn) h1
  exact ⟨x, hx, by omega⟩
/-- The jump as the document's loop finds it. -/
def jmpB (n : Int) (l : List Spn) : Bool := l.any fun x => decide (n < x.frm + x.off)
theorem jump_take {l : List Spn} {k : Nat} {x : Spn} {n : Int} (h : l[k]? = some x) (hno : ∀ i y, i < k → l[i]? = some y → ¬ n < y.frm + y.off) : jumpR n l = jumpR n (l.drop k) := by
  induction k generalizing l with
  | zero => rfl
  | succ k ih =>
    cases l with
    | nil => simp at h
    | cons z r =>
      rw [List.drop_succ_cons, ← ih (l := r) (by simpa using h) (fun i y hi hy => hno (i + 1) y (by omega) (by simpa using hy))]
      have := hno 0 z (by omega) rfl
      unfold jumpR
      rw [if_neg this]
      cases r <;> rfl
set_option maxHeartbeats 6400000 in
theorem localOf_any (a : Option Addr) (cap : Nat) (l : List Spn) (n : Int) (w : World) (hs : SpansAt w a l) (h1 : l.length ≤ 1000) (hg : ∀ x ∈ l, SpnGood x) (hn0 : -2199023255552 ≤ n) (hn1 : n ≤ 2199023255552) :
    Calls Try.prog 12 #[.slice a l.length cap, .int .i64 n] w fun e w' => ∃ (va : Option Addr) (vcap : Nat), e = .returned (.tuple #[.slice va (offsR n l).length vcap, .int .i64 (localJ l n)]) ∧ (offsR n l).length ≤ vcap ∧ IntsAt w' va (offsR n l) ∧ Gr w w' := by
  have HSP : Hid _ := hs
  have HGD : Hid _ := hg
  obtain ⟨i0, hi, hi1, hi2, hi3⟩ := Try.infoInt
  clear hs hg
  go_enter Try.func12, Try.ntmps12
  go_wp2_with fail
  refine (windowOf_any _).mono ?_
  rintro e w1 ⟨rfl, rfl⟩
  go_wp2_with fail
  go_loopw [8, 9, 10, 11] (fun o8 j9 f10 t wr => ∃ (k : Nat) (zs : List Int) (fd : Bool) (jm : Int), k ≤ l.length ∧ t = .int .i64 k ∧ f10 = .bool fd ∧ j9 = .int .i64 jm ∧ zs.length ≤ k ∧ offsR n l = zs ++ offsR n (l.drop k) ∧ wr.ownsRow w1.heap.size 3 1 o8 zs.length (ints zs) ∧ (fd = false → jm = 4102444800 ∧ jumpR n l = jumpR n (l.drop k)) ∧ (fd = true → jm = jumpR n l) ∧ Gr w1 wr) (fun _ _ _ t _ => l.length - (intOf t).toNat)
  case atStart => exact ⟨0, [], false, 4102444800, Nat.zero_le _, rfl, rfl, rfl, Nat.le_refl _, rfl, owns_nil _ _ _ _, fun _ => ⟨rfl, rfl⟩, fun h => (by cases h), Gr.refl _⟩
  case round =>
    obtain ⟨k, zs, fd, jm, hk, rfl, rfl, rfl, hzk, hoff, hown, hjf, hjt, hgr⟩ := hrel
    have HOFF : Hid _ := hoff
    have HOWN : Hid _ := hown
    have HJF : Hid _ := hjf
    have HJT : Hid _ := hjt
    have HGR : Hid _ := hgr
    clear hoff hown hjf hjt hgr
    by_cases hlt : k < l.length
    · obtain ⟨x, hx⟩ : ∃ x, l[k]? = some x := ⟨_, List.getElem?_eq_getElem hlt⟩
      obtain ⟨_, b, o, e, hb, q0, q1, q2, q3⟩ := (HSP.out.gr HGR.out).cell k x hx
      subst e
      obtain ⟨_, b9, o9, e9, hb1, q01, _⟩ := HSP.out.cell k x hx
      cases e9
      have g := HGD.out x (List.mem_of_getElem? hx)
      have g1 := g.lo
      have g2 := g.hi
      have g3 := g.olo
      have g4 := g.ohi
      have HDR : Hid _ := (show l.drop k = x :: l.drop (k + 1) by
        rw [List.drop_eq_getElem_cons hlt]
        rw [List.getElem?_eq_getElem hlt] at hx
        cases hx; rfl)
      have HO1 : Hid _ := offs_one (n := n) hx
      obtain ⟨R, hR⟩ : ∃ R, nextF (l.drop (k + 1)) = R := ⟨_, rfl⟩
      have hRb : -2208988800 ≤ R ∧ R ≤ 4102444800 := by rw [← hR]; exact next_bd (fun y hy => HGD.out y (List.mem_of_mem_drop hy))
      rw [hR] at HO1
      have HR : Hid _ := hR
      have j1 : (k : Int) < (l.length : Int) := by omega
      obtain ⟨frm, off, sv, nm⟩ := x
      simp only at q0 q1 q2 q3 q01 g1 g2 g3 g4
      have w2a : IntKind.i64.wrap (n - off) = n - off := IntWalk.i64_in _ ⟨by omega, by omega⟩
      clear hx g hR
      go_upto_if 38 with fail
      go_cut [13] (fun v wx => v = .int .i64 R ∧ wx = wr)
      case first =>
        by_cases h2 : k + 1 < l.length
        · obtain ⟨y, hy⟩ : ∃ y, l[k + 1]? = some y := ⟨_, List.getElem?_eq_getElem h2⟩
          obtain ⟨_, b', o', e, _, r0, _⟩ := (HSP.out.gr HGR.out).cell (k + 1) y hy
          cases e
          have HRY : Hid _ := (show y.frm = R by rw [← HR.out, next_at hy])
          have k1 : ((k : Int) + 1).toNat = k + 1 := by omega
          have k2 : (k : Int) + 1 < (l.length : Int) := by omega
          clear hy
          go_wp2_with fail
          go_meet
          case rel => exact ⟨by rw [HRY.out], rfl⟩
        · have HRY : Hid _ := (show (4102444800 : Int) = R by rw [← HR.out, next_end (by omega)])
          have k2 : ¬ (k : Int) + 1 < (l.length : Int) := by omega
          go_wp2_with fail
          go_meet
          case rel => exact ⟨by rw [HRY.out], rfl⟩
      case rest =>
        obtain ⟨rfl, rfl⟩ := hcut
        by_cases hs1 : frm + off ≤ n
        · have c1 : decide (frm ≤ n - off) = true := by rw [decide_eq_true_iff]; omega
          have c1' : frm ≤ n - off := by omega
          have c3 : decide (-2208988800 ≤ n - off) = true := by rw [decide_eq_true_iff]; omega
          have c3' : -2208988800 ≤ n - off := by omega
          by_cases hs2 : n < R + off
          · have c2 : decide (n - off < R) = true := by rw [decide_eq_true_iff]; omega
            have c2' : n - off < R := by omega
            have HYES : Hid _ := (show offsR n l = (zs ++ [off]) ++ offsR n (l.drop (k + 1)) by
              rw [HOFF.out, HO1.out]
              have : shB ⟨frm, off, sv, nm⟩ R n = true := by unfold shB; rw [decide_eq_true_iff]; simp only; omega
              rw [this]; simp)
            obtain ⟨va, vcap, rfl, hvc, hza⟩ := owns_ints HOWN.out
            clear hza
            cases fd with
            | true =>
              go_wp2_with (at_builtin; (refine wpList_append_lies _ rfl _ _ _ rfl w1.heap.size 3 i0 _ 1 8 Try.underlying34 hi hi1 hi2 hi3 rfl (by decide) _ zs.length (ints zs) (by rfl) (owns_gr HOWN.out (by exact (Gr.refl _).alloc _)) ⟨_, 0, none⟩ 1 1 [.int .i64 off] (by rfl) (by rfl) (World.news_of_block (cs := #[.int .i64 off]) (heapA _ _)) (by simp [Value.oneCell']) (by omega) (by unfold maxLen; omega) (by omega) (by have := HGR.out.size; simp; omega) _ rfl ?_); intro g cap' w9 hown2 hgrow hat hlt2; have hg9 : Gr w1 w9 := (HGR.out.alloc _).by_ hgrow (fun x hx => (owns_lt HOWN.out hx).1); have q9 := (hg9.cell b _ hb1).trans q01; have HE : Hid _ := And.intro hown2 hg9; clear hown2 hgrow hat hlt2 hg9)
              go_roundw
              case rel => exact ⟨k + 1, zs ++ [off], true, jm, by omega, by go_num, rfl, rfl, by simp; omega, HYES.out, by rw [show ints (zs ++ [off]) = ints zs ++ [.int .i64 off] by simp [ints], List.length_append]; exact HE.out.1, fun h => (by cases h), fun _ => HJT.out rfl, HE.out.2⟩
              case measure => simp [intOf]; omega
            | false =>
              obtain ⟨hjm, hjr⟩ := HJF.out rfl
              rw [HDR.out] at hjr
              by_cases hj : n < frm + off
              · exact absurd hs1 (by omega)
              · have bj : decide (n - off < frm) = false := by rw [decide_eq_false_iff_not]; omega
                have bj2 : ¬ n - off < frm := by omega
                have HJ : Hid _ := (show jumpR n l = jumpR n (l.drop (k + 1)) by rw [hjr, jumpR, if_neg hj])
                have HJM : Hid _ := hjm
                clear hjr hjm
                go_wp2_with (at_builtin; (refine wpList_append_lies _ rfl _ _ _ rfl w1.heap.size 3 i0 _ 1 8 Try.underlying34 hi hi1 hi2 hi3 rfl (by decide) _ zs.length (ints zs) (by rfl) (owns_gr HOWN.out (by exact (Gr.refl _).alloc _)) ⟨_, 0, none⟩ 1 1 [.int .i64 off] (by rfl) (by rfl) (World.news_of_block (cs := #[.int .i64 off]) (heapA _ _)) (by simp [Value.oneCell']) (by omega) (by unfold maxLen; omega) (by omega) (by have := HGR.out.size; simp; omega) _ rfl ?_); intro g cap' w9 hown2 hgrow hat hlt2; have hg9 : Gr w1 w9 := (HGR.out.alloc _).by_ hgrow (fun x hx => (owns_lt HOWN.out hx).1); have q9 := (hg9.cell b _ hb1).trans q01; have HE : Hid _ := And.intro hown2 hg9; clear hown2 hgrow hat hlt2 hg9)
                go_roundw
                case rel => exact ⟨k + 1, zs ++ [off], false, jm, by omega, by go_num, rfl, rfl, by simp; omega, HYES.out, by rw [show ints (zs ++ [off]) = ints zs ++ [.int .i64 off] by simp [ints], List.length_append]; exact HE.out.1, fun _ => ⟨HJM.out, HJ.out⟩, fun h => (by cases h), HE.out.2⟩
                case measure => simp [intOf]; omega
          · have c2 : decide (n - off < R) = false := by rw [decide_eq_false_iff_not]; omega
            have c2' : ¬ n - off < R := by omega
            have HNO : Hid _ := (show offsR n l = zs ++ offsR n (l.drop (k + 1)) by
              rw [HOFF.out, HO1.out]
              have : shB ⟨frm, off, sv, nm⟩ R n = false := by unfold shB; rw [decide_eq_false_iff_not]; simp only; omega
              rw [this]; simp)
            cases fd with
            | true =>
              go_wp2_with fail
              go_roundw
              case rel => exact ⟨k + 1, zs, true, jm, by omega, by go_num, rfl, rfl, by omega, HNO.out, HOWN.out, fun h => (by cases h), fun _ => HJT.out rfl, HGR.out⟩
              case measure => simp [intOf]; omega
            | false =>
              obtain ⟨hjm, hjr⟩ := HJF.out rfl
              rw [HDR.out] at hjr
              by_cases hj : n < frm + off
              · exact absurd hs1 (by omega)
              · have bj : decide (n - off < frm) = false := by rw [decide_eq_false_iff_not]; omega
                have bj2 : ¬ n - off < frm := by omega
                have HJ : Hid _ := (show jumpR n l = jumpR n (l.drop (k + 1)) by rw [hjr, jumpR, if_neg hj])
                have HJM : Hid _ := hjm
                clear hjr hjm
                go_wp2_with fail
                go_roundw
                case rel => exact ⟨k + 1, zs, false, jm, by omega, by go_num, rfl, rfl, by omega, HNO.out, HOWN.out, fun _ => ⟨HJM.out, HJ.out⟩, fun h => (by cases h), HGR.out⟩
                case measure => simp [intOf]; omega
        · have c1 : decide (frm ≤ n - off) = false := by rw [decide_eq_false_iff_not]; omega
          have c1' : ¬ frm ≤ n - off := by omega
          have HNO : Hid _ := (show offsR n l = zs ++ offsR n (l.drop (k + 1)) by
            rw [HOFF.out, HO1.out]
            have : shB ⟨frm, off, sv, nm⟩ R n = false := by unfold shB; rw [decide_eq_false_iff_not]; simp only; omega
            rw [this]; simp)
          cases fd with
          | true =>
            go_wp2_with fail
            go_roundw
            case rel => exact ⟨k + 1, zs, true, jm, by omega, by go_num, rfl, rfl, by omega, HNO.out, HOWN.out, fun h => (by cases h), fun _ => HJT.out rfl, HGR.out⟩
            case measure => simp [intOf]; omega
          | false =>
            obtain ⟨hjm, hjr⟩ := HJF.out rfl
            rw [HDR.out] at hjr
            by_cases hj : n < frm + off
            · have bj : decide (n - off < frm) = true := by rw [decide_eq_true_iff]; omega
              have bj2 : n - off < frm := by omega
              have HJ : Hid _ := (show frm = jumpR n l by rw [hjr, jumpR, if_pos hj])
              clear hjr hjm
              go_wp2_with fail
              go_roundw
              case rel => exact ⟨k + 1, zs, true, frm, by omega, by go_num, rfl, rfl, by omega, HNO.out, HOWN.out, fun h => (by cases h), fun _ => HJ.out, HGR.out⟩
              case measure => simp [intOf]; omega
            · exact absurd hs1 (by omega)
    · have hk' : k = l.length := by omega
      have HOF : Hid _ := (show offsR n l = zs by rw [HOFF.out, hk', List.drop_length]; simp [offsR])
      obtain ⟨va, vcap, rfl, hvc, hza⟩ := owns_ints HOWN.out
      have HZA : Hid _ := hza
      have HJ : Hid _ := (show jm = jumpR n l by
        cases fd with
        | true => exact HJT.out rfl
        | false => obtain ⟨h1, h2⟩ := HJF.out rfl; rw [h1, h2, hk', List.drop_length]; rfl)
      clear hza hk'
      by_cases hz : zs.length = 0
      · have hz2 : zs = [] := List.length_eq_zero_iff.1 hz
        subst hz2
        have HLJ : Hid _ := (show jm = localJ l n by unfold localJ; rw [HOF.out, if_pos rfl]; exact HJ.out)
        go_wp2
        go_ret2
        refine ⟨va, vcap, by rw [HOF.out, ← HLJ.out]; rfl, by rw [HOF.out]; exact Nat.zero_le _, by rw [HOF.out]; exact HZA.out, HGR.out⟩
      · have HLJ : Hid _ := (show (0 : Int) = localJ l n by unfold localJ; rw [HOF.out, if_neg (fun e => hz (by rw [e]; rfl))])
        have z0 : decide ((0 : Int) < (zs.length : Int)) = true := by rw [decide_eq_true_iff]; omega
        have z0' : 0 < zs.length := by omega
        go_wp2
        go_ret2
        refine ⟨va, vcap, by rw [HOF.out, ← HLJ.out]; rfl, by rw [HOF.out]; exact hvc, by rw [HOF.out]; exact HZA.out, HGR.out⟩
end Go.Proofs.Ythnbmeihaojfnaa
