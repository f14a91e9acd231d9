/- Contract: the answer's place that a node tells, by the document's answer (a recursion). -/
import Derived.Test.YtcpmbjlhblkniaaTreV
import Derived.Test.YtcpmbjlhblkniaaGr
import Derived.Test.YtcpmbjlhblkniaaRows
import Derived.WalkKit
import Derived.ProofKit
import Derived.OpenShut
namespace Go.Proofs.Ytcpmbjlhblkniaa
open Go.ChangeShapes Go.WideShapes Go.ChangeAt Go.RowKit
set_option linter.unusedVariables false
set_option maxHeartbeats 1600000 in
theorem valueOf_any (f : Fst) (hG : Good f) (t : Int) : ∀ (n : Nat) (i : Int) (w : World), 0 ≤ i → i < n → i < f.nodes.length → FstOk w f →
    Calls Try.prog 19 #[.agg f.cells.toArray, .int .i64 i, .int .i64 t] w fun e w' => e = .returned (.int .i64 (valN f.nodes t n i.toNat)) ∧ Grown w w' := by
  obtain ⟨na, ncap, nodes, aa, acap, answers⟩ := f
  intro n
  induction n with
  | zero => intro i w h0 h1; omega
  | succ n ih =>
    intro i w h0 h1 h2 hf
    have IH : Hid _ := ih
    clear ih
    obtain ⟨k, rfl⟩ := Int.eq_ofNat_of_zero_le h0
    clear h0
    have l1 := hf.nat.len
    unfold maxLen at l1
    simp only [Fst.cells, Int.toNat_natCast] at l1 h2 ⊢
    obtain ⟨x, hx⟩ : ∃ x, nodes[k]? = some x := ⟨_, List.getElem?_eq_getElem (by omega)⟩
    obtain ⟨b, o, rfl, hb, hc⟩ := hf.nat.cell k x hx
    obtain ⟨leaf, a, bo, l, m⟩ := x
    obtain ⟨q0, q1, q2, q3, q4⟩ := hc
    simp [Nod.cells] at q0 q1 q2 q3 q4
    have Hx : Hid _ := hx
    clear hx
    cases leaf with
    | true =>
      have E : Hid _ := valN_leaf (t := t) (n := n) Hx.out
      go_enter Try.func19, Try.ntmps19
      go_wp2_with fail
      go_ret
      exact ⟨ret_int E.out.symm, ((Grown.refl _).alloc _ _).alloc _ _⟩
    | false =>
      have hr := hG.inner Hx.out
      obtain ⟨r1, r2, r3, r4⟩ := hr
      by_cases ht : t < bo
      · have E : Hid _ := valN_less (n := n) Hx.out ht
        go_enter Try.func19, Try.ntmps19
        go_wp2_with (go_at_call 19; refine (IH.out l _ r1 (by omega) (by simp only; omega) (hf.grown (by exact ((Grown.refl _).alloc _ _).alloc _ _))).mono ?_; rintro e w1 ⟨rfl, hg1⟩)
        go_ret
        exact ⟨ret_int E.out.symm, Grown_trans (((Grown.refl _).alloc _ _).alloc _ _) hg1⟩
      · have E : Hid _ := valN_more (n := n) Hx.out ht
        go_enter Try.func19, Try.ntmps19
        go_wp2_with (go_at_call 19; refine (IH.out m _ r3 (by omega) (by simp only; omega) (hf.grown (by exact ((Grown.refl _).alloc _ _).alloc _ _))).mono ?_; rintro e w1 ⟨rfl, hg1⟩)
        go_ret
        exact ⟨ret_int E.out.symm, Grown_trans (((Grown.refl _).alloc _ _).alloc _ _) hg1⟩
end Go.Proofs.Ytcpmbjlhblkniaa
