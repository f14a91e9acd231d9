/- Contract: does a clock show more than six instants at a number (sundiallaw.wide)? -/
import Derived.Test.YthnbmeihaojfnaaLocF
namespace Go.Proofs.Ythnbmeihaojfnaa
open Go.ChangeShapes Go.WideShapes Go.ChangeAt Go.RowKit
set_option linter.unusedVariables false
set_option maxRecDepth 100000
def wideB (l : List Spn) : Bool := l.any fun x => decide (6 < (offsR (x.frm + x.off) l).length)
set_option maxHeartbeats 6400000 in
theorem wide_any (a : Option Addr) (cap : Nat) (l : List Spn) (w : World) (hs : SpansAt w a l) (h1 : l.length ≤ 1000) (hg : ∀ x ∈ l, SpnGood x) :
    Calls Try.prog 7 #[.slice a l.length cap] w fun e w' => e = .returned (.bool (wideB l)) ∧ Gr w w' := by
  have HSP : Hid _ := hs
  have HGD : Hid _ := hg
  clear hs hg
  go_enter Try.func7, Try.ntmps7
  go_wp2_with fail
  go_loopw [3] (fun t wr => ∃ (k : Nat), k ≤ l.length ∧ t = .int .i64 k ∧ (∀ i x, i < k → l[i]? = some x → ¬ 6 < (offsR (x.frm + x.off) l).length) ∧ Gr w wr) (fun t _ => l.length - (intOf t).toNat)
  case atStart => exact ⟨0, Nat.zero_le _, rfl, fun i x hi _ => absurd hi (Nat.not_lt_zero _), Gr.refl _⟩
  case round =>
    obtain ⟨k, hk, rfl, hno, hgr⟩ := hrel
    have HNO : Hid _ := hno
    have HGR : Hid _ := hgr
    clear hno hgr
    by_cases hlt : k < l.length
    · obtain ⟨x, hx⟩ : ∃ x, l[k]? = some x := ⟨_, List.getElem?_eq_getElem hlt⟩
      obtain ⟨_, b, o, e, hb, q0, q1, q2, q3⟩ := (HSP.out.gr HGR.out).cell k x hx
      subst e
      have g := HGD.out x (List.mem_of_getElem? hx)
      have g1 := g.lo
      have g2 := g.hi
      have g3 := g.olo
      have g4 := g.ohi
      have HX : Hid _ := hx
      obtain ⟨frm, off, sv, nm⟩ := x
      simp only at q0 q1 q2 q3 g1 g2 g3 g4
      have w2a : IntKind.i64.wrap (frm + off) = frm + off := IntWalk.i64_in _ ⟨by omega, by omega⟩
      have j1 : (k : Int) < (l.length : Int) := by omega
      clear hx g
      have hO : wr.cell? ⟨b, o + k * 4, none⟩ = some (.int .i64 frm) ∧ wr.cell? ⟨b, o + k * 4 + 1, none⟩ = some (.int .i64 off) := ⟨q0, q1⟩
      have hbr : b < wr.heap.size := hb
      clear q0 q1 q2 q3
      by_cases h6 : 6 < (offsR (frm + off) l).length
      · have d6 : decide ((6 : Int) < ((offsR (frm + off) l).length : Int)) = true := by rw [decide_eq_true_iff]; omega
        go_upto_region 4 with fail
        go_region_held3 (fun w' => w'.cell? ⟨b, o + k * 4, none⟩ = some (.int .i64 frm) ∧ w'.cell? ⟨b, o + k * 4 + 1, none⟩ = some (.int .i64 off)) (first | with_reducible exact hO | (simpa [go_sem] using hO))
          (first
            | (go_at_call 12; refine (localOf_any _ _ l (frm + off) _ (HSP.out.gr (by repeat (with_reducible first | exact HGR.out | refine Gr.drew ?_))) h1 HGD.out (by omega) (by omega)).mono ?_; rintro e w2 ⟨va, vcap, rfl, hvc, hza, hg2x⟩
               have hg2 : Gr wr w2 := ⟨hg2x.os, hg2x.out, hg2x.size, hg2x.block⟩
               replace hO := And.intro ((hg2.cell _ _ hbr).trans hO.1) ((hg2.cell _ _ hbr).trans hO.2)
               have HG2 : Hid _ := HGR.out.trans hg2
               clear hza hg2x hg2))
        go_wp2_with fail
        go_ret
        exact ⟨by rw [show wideB l = true from List.any_eq_true.2 ⟨_, List.mem_of_getElem? HX.out, by simpa using h6⟩]; rfl, HG2.out⟩
      · have d6 : decide ((6 : Int) < ((offsR (frm + off) l).length : Int)) = false := by rw [decide_eq_false_iff_not]; omega
        go_upto_region 4 with fail
        go_region_held3 (fun w' => w'.cell? ⟨b, o + k * 4, none⟩ = some (.int .i64 frm) ∧ w'.cell? ⟨b, o + k * 4 + 1, none⟩ = some (.int .i64 off)) (first | with_reducible exact hO | (simpa [go_sem] using hO))
          (first
            | (go_at_call 12; refine (localOf_any _ _ l (frm + off) _ (HSP.out.gr (by repeat (with_reducible first | exact HGR.out | refine Gr.drew ?_))) h1 HGD.out (by omega) (by omega)).mono ?_; rintro e w2 ⟨va, vcap, rfl, hvc, hza, hg2x⟩
               have hg2 : Gr wr w2 := ⟨hg2x.os, hg2x.out, hg2x.size, hg2x.block⟩
               replace hO := And.intro ((hg2.cell _ _ hbr).trans hO.1) ((hg2.cell _ _ hbr).trans hO.2)
               have HG2 : Hid _ := HGR.out.trans hg2
               clear hza hg2x hg2))
        go_wp2_with fail
        go_roundw
        case rel =>
          refine ⟨k + 1, by omega, by go_num, fun i x hi hx => ?_, HG2.out⟩
          rcases Nat.lt_succ_iff_lt_or_eq.1 hi with h | rfl
          · exact HNO.out i x h hx
          · rw [HX.out] at hx; cases hx; exact h6
        case measure => simp [intOf]; omega
    · go_wp2_with fail
      go_ret
      refine ⟨?_, HGR.out⟩
      rw [show wideB l = false from ?_]
      · rfl
      · refine List.any_eq_false.2 fun x hx => ?_
        obtain ⟨i, hi, e⟩ := List.getElem_of_mem hx
        have := HNO.out i x (by omega) (by rw [List.getElem?_eq_getElem hi, e])
        simpa using this
end Go.Proofs.Ythnbmeihaojfnaa
