/- A forest stays as it is where a box of two slices is written. -/
import Derived.Test.YthnbmeihaojfnaaGr
namespace Go.Proofs.Ythnbmeihaojfnaa
open Go.ChangeShapes Go.WideShapes Go.ChangeAt Go.RowKit
set_option linter.unusedVariables false
/-- A box of two slices. -/
structure Box2 (w : World) (rb : Nat) : Prop where
  row : ∃ T, w.heap[rb]? = some (.cells #[.slice none 0 0, .slice none 0 0] T)
theorem Box2.ne {w : World} {rb b o : Nat} {v : Value} (h : Box2 w rb) (hc : w.cell? ⟨b, o, none⟩ = some v) (hv : ∀ a n c, v ≠ .slice a n c) : b ≠ rb := by
  rintro rfl
  obtain ⟨T, k⟩ := h.row
  rw [(row_all k).1 o] at hc
  match o with
  | 0 => exact hv _ _ _ (by simpa using hc.symm)
  | 1 => exact hv _ _ _ (by simpa using hc.symm)
  | n + 2 => simp at hc
/-- Nothing but one block has been written. -/
structure But (w w' : World) (rb : Nat) : Prop where
  size : w'.heap.size = w.heap.size
  block : ∀ b, b ≠ rb → w'.heap[b]? = w.heap[b]?
theorem but2 (w : World) (rb : Nat) (u u' : Value) : But w ((w.setCell ⟨rb, 0, none⟩ u).setCell ⟨rb, 1, none⟩ u') rb :=
  ⟨by simp [World.setCell], fun b hb => (heap_setCell_other _ ⟨rb, 1, none⟩ b u' (by simpa using hb)).trans (heap_setCell_other _ ⟨rb, 0, none⟩ b u (by simpa using hb))⟩
theorem AnsOk.but {w w' : World} {rb : Nat} {x : Ans} (h : AnsOk w x) (k : Box2 w rb) (hb : But w w' rb) : AnsOk w' x :=
  ⟨h.off, h.jump, h.nm, h.cap, ⟨h.zs.len, fun i z hz => by
    obtain ⟨b, o, e, hlt, hc⟩ := h.zs.cell i z hz
    have hne := k.ne hc (fun _ _ _ e => by cases e)
    exact ⟨b, o, e, by rw [hb.size]; exact hlt, (World.cell?_of_block (w := w) (a := ⟨b, o + i, none⟩) (hb.block b hne)).trans hc⟩⟩, h.wz⟩
theorem FivesAt.but {α : Type} {w w' : World} {rb : Nat} {a : Option Addr} {l : List α} {cells : α → List Value} (h : FivesAt w a l cells) (k : Box2 w rb) (hb : But w w' rb) (hc : ∀ x, ∃ v, (cells x)[0]? = some v ∧ ∀ a n c, v ≠ .slice a n c) : FivesAt w' a l cells :=
  ⟨h.len, fun i x hx => by
    obtain ⟨b, o, e, hlt, h0, h1, h2, h3, h4⟩ := h.cell i x hx
    obtain ⟨v, hv, hv2⟩ := hc x
    have hne := k.ne (h0.trans hv) hv2
    have g := fun o => World.cell?_of_block (w := w) (a := ⟨b, o, none⟩) (hb.block b hne)
    exact ⟨b, o, e, by rw [hb.size]; exact hlt, (g _).trans h0, (g _).trans h1, (g _).trans h2, (g _).trans h3, (g _).trans h4⟩⟩
theorem FstOk.but {w w' : World} {rb : Nat} {f : Fst} (h : FstOk w f) (k : Box2 w rb) (hb : But w w' rb) : FstOk w' f :=
  ⟨h.ncap, h.acap, h.nat.but k hb (fun x => ⟨_, rfl, fun _ _ _ e => by cases e⟩), h.nok, h.aat.but k hb (fun x => ⟨_, rfl, fun _ _ _ e => by cases e⟩), fun x hx => (h.aok x hx).but k hb⟩
end Go.Proofs.Ythnbmeihaojfnaa
