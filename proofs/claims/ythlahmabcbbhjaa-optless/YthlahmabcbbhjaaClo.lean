/- Contract: slices.Clone of nodes. -/
import Derived.Test.YthlahmabcbbhjaaFinP
import Derived.Test.YthlahmabcbbhjaaFlat
import Derived.Test.YthlahmabcbbhjaaTreC
import Derived.Deep.Cut
import Derived.Lib.SliceRun
namespace Go.Proofs.Ythlahmabcbbhjaa
open Go.ChangeShapes Go.WideShapes Go.ChangeAt Go.RowKit Go.Maps
set_option linter.unusedVariables false
theorem nodL_len (l : List Tre.Nod) : (nodL l).length = l.length * 5 := by
  unfold nodL
  induction l with
  | nil => rfl
  | cons x l ih => rw [List.flatMap_cons, List.length_append, ih]; simp [Nod.cells]; omega
theorem news_nodes {w : World} {b o : Nat} {l : List Tre.Nod} (h : FivesAt w (some ⟨b, o, none⟩) l Nod.cells) : ∀ j u, (nodL l)[j]? = some u → w.cell? ⟨b, o + j, none⟩ = some u := by
  intro j u hu
  have hj := (List.getElem?_eq_some_iff.1 hu).1
  rw [nodL_len] at hj
  obtain ⟨i, r, rfl, hr⟩ : ∃ i r, j = i * 5 + r ∧ r < 5 := ⟨j / 5, j % 5, by omega, by omega⟩
  obtain ⟨x, hx⟩ : ∃ x, l[i]? = some x := ⟨_, List.getElem?_eq_getElem (by omega)⟩
  have hf := flat5V (cells := Nod.cells) (fun _ => rfl) l i r x hx hr
  obtain ⟨b', o', e, _, h0, h1, h2, h3, h4⟩ := h.cell i x hx
  cases e
  unfold nodL at hu
  rw [hf] at hu
  rw [show o + (i * 5 + r) = o + i * 5 + r by omega]
  match r, hr with
  | 0, _ => rw [Nat.add_zero]; exact h0.trans hu
  | 1, _ => exact h1.trans hu
  | 2, _ => exact h2.trans hu
  | 3, _ => exact h3.trans hu
  | 4, _ => exact h4.trans hu
theorem nodL_one (l : List Tre.Nod) : ∀ u ∈ nodL l, u.oneCell' = true := fun u hu => by
  obtain ⟨x, _, hx⟩ := List.mem_flatMap.1 hu
  exact nod_cellF x u hx
set_option maxHeartbeats 1600000 in
theorem cloneN_any (a : Option Addr) (cap : Nat) (l : List Tre.Nod) (w : World) (hN : FivesAt w a l Nod.cells) (h0 : 0 < l.length) (h8 : l.length ≤ 8000) :
    Calls Try.prog 23 #[.slice a l.length cap] w fun e w' => ∃ v base, e = .returned v ∧ w'.ownsRow base 47 5 v l.length (nodL l) ∧ w.heap.size ≤ base ∧ Gr w w' := by
  obtain ⟨x, hx⟩ : ∃ x, l[0]? = some x := ⟨_, List.getElem?_eq_getElem h0⟩
  obtain ⟨b, o, rfl, hb, _⟩ := hN.cell 0 x hx
  have q22 : ∀ (w : World) (a : Option Addr) (n c n' c' : Nat), (binOp .eql 22 (.slice a n c) (.slice none n' c')).run Try.prog w = .ok (.bool a.isNone) w := fun w a n c n' c' => Go.Lib.run_eql_slice_nil w _ _ a n c n' c' Try.underlying22
  obtain ⟨i0, hi, hi1, hi2, hi3⟩ := Try.infoNodeF
  go_enter Try.func23, Try.ntmps23
  go_wp2_with (at_builtin; refine wpList_append_own _ rfl _ _ 22 rfl w.heap.size 47 i0 _ 5 40 Try.underlying22 hi hi1 hi2 hi3 rfl (by decide) _ _ _ rfl (World.ownsRow_made w #[] 0 (Nat.le_refl _) (Nat.zero_le _) (by simp)) ⟨b, o, none⟩ l.length cap (nodL l) rfl (nodL_len l) ?qc2 (nodL_one l) (by unfold maxLen; omega) (by omega) (by simp) ?_)
  case qc2 =>
    intro j u hj
    rw [Addr.add_lit]
    exact Go.Lib.cell?_alloc_some _ (news_nodes hN j u hj)
  intro v' w1 hown hgrow hnil
  go_wp2
  go_ret
  exact ⟨v', w.heap.size, rfl, by simpa using hown, Nat.le_refl _, ((Gr.refl _).alloc _).by_ hgrow (by intro k hk; simp [Value.ownBlock] at hk; omega)⟩
end Go.Proofs.Ythlahmabcbbhjaa
