/- A world that has grown: what was there lies on as it was. -/
import Derived.Test.YtcpmbjlhblkniaaDoorTreM
import Derived.Test.YtcpmbjlhblkniaaDoorBoxes
import Derived.Below
import Derived.OwnWalk
import Derived.Deep.AppendLies
import Derived.Laws.Rows
import Derived.WalkSmall
namespace Go.Proofs.YtcpmbjlhblkniaaDoor
open Go.ChangeShapes Go.WideShapes Go.ChangeAt Go.RowKit
set_option linter.unusedVariables false
structure Gr (w w' : World) : Prop where
  os : w'.os = w.os
  out : w'.output = w.output
  size : w.heap.size ≤ w'.heap.size
  block : ∀ b, b < w.heap.size → w'.heap[b]? = w.heap[b]?
theorem Gr.refl (w : World) : Gr w w := ⟨rfl, rfl, Nat.le_refl _, fun _ _ => rfl⟩
theorem Gr.trans {a b c : World} (h : Gr a b) (k : Gr b c) : Gr a c :=
  ⟨k.os.trans h.os, k.out.trans h.out, Nat.le_trans h.size k.size, fun i hi => (k.block i (Nat.lt_of_lt_of_le hi h.size)).trans (h.block i hi)⟩
theorem Gr.ofGrown {w w' : World} (h : Grown w w') : Gr w w' := ⟨h.1.1, h.1.2.1, h.2.2, fun b hb => Grown_block h b hb⟩
theorem Gr.ofBelow {B : Nat} {w w' : World} (h : Below B w w') (hB : w.heap.size ≤ B) : Gr w w' := ⟨h.os, h.output, h.size, fun b hb => h.block b (Nat.lt_of_lt_of_le hb hB)⟩
theorem Gr.alloc {a w : World} (h : Gr a w) (o : Obj) : Gr a (w.alloc o) :=
  ⟨h.os, h.out, Nat.le_trans h.size (by show w.heap.size ≤ (w.heap.push _).size; simp), fun b hb => (Below.heap_alloc w o b (Nat.lt_of_lt_of_le hb h.size)).trans (h.block b hb)⟩
theorem Gr.setCell {a w : World} (h : Gr a w) {p : Addr} (hp : a.heap.size ≤ p.block) (u : Value) : Gr a (w.setCell p u) :=
  ⟨h.os, h.out, by simpa [World.setCell] using h.size, fun b hb => (Below.heap_setCell w p u b (by omega)).trans (h.block b hb)⟩
theorem Gr.drew {a w : World} (h : Gr a w) : Gr a w.drew := ⟨h.os, h.out, h.size, h.block⟩
theorem Gr.drewN {a w : World} (h : Gr a w) (n : Nat) : Gr a (w.drewN n) := h.trans (Gr.ofBelow (B := w.heap.size) ⟨rfl, rfl, rfl, Nat.le_refl _, fun _ _ => rfl⟩ (Nat.le_refl _))
theorem Gr.by_ {a w w' : World} {row : Option Nat} (h : Gr a w) (hg : w.grownBy w' row) (hr : ∀ k, row = some k → a.heap.size ≤ k) : Gr a w' :=
  ⟨hg.os.trans h.os, hg.output.trans h.out, Nat.le_trans h.size hg.size, fun b hb => (hg.block b (Nat.lt_of_lt_of_le hb h.size) (fun e => by have := hr b e.symm; omega)).trans (h.block b hb)⟩
theorem Gr.cell {w w' : World} (h : Gr w w') (b o : Nat) (hb : b < w.heap.size) : w'.cell? ⟨b, o, none⟩ = w.cell? ⟨b, o, none⟩ :=
  World.cell?_of_block (w := w) (h.block b hb)
theorem Gr.frame {W w' : World} (h : Gr W w') (may : MemPlace → Prop) : W.keptBut w' may := by
  refine ⟨h.os, h.out, fun i hi => ?_⟩
  rw [h.block i hi]
  split <;> simp_all
theorem Gr.same {W W' : World} (h : Gr W W') {p : MemPlace} (hp : p.block < W.heap.size) : W.sameAt W' p := by
  cases p with
  | cell b o => exact World.cell?_of_block (w := W) (h.block b hp)
  | map b => exact h.block b hp
theorem IntsAt.gr {w w' : World} {a : Option Addr} {zs : List Int} (h : IntsAt w a zs) (hg : Gr w w') : IntsAt w' a zs :=
  ⟨h.len, fun i z hz => by
    obtain ⟨b, o, e, hb, hc⟩ := h.cell i z hz
    exact ⟨b, o, e, Nat.lt_of_lt_of_le hb hg.size, (hg.cell b _ hb).trans hc⟩⟩
theorem AnsOk.gr {w w' : World} {x : Ans} (h : AnsOk w x) (hg : Gr w w') : AnsOk w' x := ⟨h.off, h.jump, h.nm, h.cap, h.zs.gr hg, h.wz⟩
theorem Five.gr {w w' : World} {b o : Nat} {cs : List Value} (h : Five w b o cs) (hb : b < w.heap.size) (hg : Gr w w') : Five w' b o cs :=
  ⟨(hg.cell b _ hb).trans h.1, (hg.cell b _ hb).trans h.2.1, (hg.cell b _ hb).trans h.2.2.1, (hg.cell b _ hb).trans h.2.2.2.1, (hg.cell b _ hb).trans h.2.2.2.2⟩
theorem FivesAt.gr {α : Type} {w w' : World} {a : Option Addr} {l : List α} {cells : α → List Value} (h : FivesAt w a l cells) (hg : Gr w w') : FivesAt w' a l cells :=
  ⟨h.len, fun i x hx => by
    obtain ⟨b, o, e, hb, hc⟩ := h.cell i x hx
    exact ⟨b, o, e, Nat.lt_of_lt_of_le hb hg.size, hc.gr hb hg⟩⟩
theorem FstOk.gr {w w' : World} {f : Fst} (h : FstOk w f) (hg : Gr w w') : FstOk w' f :=
  ⟨h.ncap, h.acap, h.nat.gr hg, h.nok, h.aat.gr hg, fun x hx => (h.aok x hx).gr hg⟩
theorem heapA (w : World) (o1 : Obj) : (w.alloc o1).heap[w.heap.size]? = some o1 := (MapKept.heap_alloc w _).1
theorem heapB (w : World) (o1 o2 : Obj) : ((w.alloc o1).alloc o2).heap[w.heap.size]? = some o1 := by
  rw [Below.heap_alloc _ _ _ (by simp)]; exact heapA w o1
theorem heapC (w : World) (o1 o2 : Obj) : ((w.alloc o1).alloc o2).heap[w.heap.size + 1]? = some o2 := by
  have := (MapKept.heap_alloc (w.alloc o1) o2).1
  simpa using this
/-- A block of cells that is known whole. -/
theorem row_all {w : World} {b : Nat} {c : Array Value} {t : TypeId} (h : w.heap[b]? = some (.cells c t)) : (∀ j, w.cell? ⟨b, j, none⟩ = c[j]?) ∧ ∀ j, w.frozen? ⟨b, j, none⟩ = false :=
  ⟨fun j => cell_of_row w b j c t (0, 0) h, fun j => frozen_of_row w b j c t h⟩
theorem IntsAt.set {w : World} {b o : Nat} {zs : List Int} (h : IntsAt w (some ⟨b, o, none⟩) zs) {p : Addr} (hp : b ≠ p.block) (u : Value) : IntsAt (w.setCell p u) (some ⟨b, o, none⟩) zs :=
  ⟨h.len, fun i z hz => by
    obtain ⟨b', o', e, hb, hc⟩ := h.cell i z hz
    cases e
    exact ⟨b, o, rfl, by simpa [World.setCell] using hb, (World.cell?_of_block (w := w) (a := ⟨b, o + i, none⟩) (heap_setCell_other w p b u hp)).trans hc⟩⟩
/-- It leads into memory that is new. -/
structure NewAt (n : Nat) (a : Option Addr) : Prop where
  le : ∀ b o sp, a = some ⟨b, o, sp⟩ → n ≤ b
theorem NewAt.none (n : Nat) : NewAt n none := ⟨fun _ _ _ h => by cases h⟩
theorem IntsAt.sets {w : World} {a : Option Addr} {zs : List Int} (h : IntsAt w a zs) {n : Nat} (hn : NewAt n a) {p : Addr} (hp : p.block < n) (u : Value) : IntsAt (w.setCell p u) a zs :=
  ⟨h.len, fun i z hz => by
    obtain ⟨b, o, e, hb, hc⟩ := h.cell i z hz
    have := hn.le b o _ e
    exact ⟨b, o, e, by simpa [World.setCell] using hb, (World.cell?_of_block (w := w) (a := ⟨b, o + i, none⟩) (heap_setCell_other w p b u (by omega))).trans hc⟩⟩
theorem IntsAt.nil (w : World) (a : Option Addr) : IntsAt w a [] := ⟨Nat.zero_le _, fun i z hz => by simp at hz⟩
/-- A row of ints that the call owns. -/
def ints (zs : List Int) : List Value := zs.map fun z => .int .i64 z
theorem ints_len (zs : List Int) : (ints zs).length = zs.length := by simp [ints]
theorem owns_same {w w' : World} {base : Nat} {e : TypeId} {size : Nat} {v : Value} {n : Nat} {xs : List Value} (h : w.ownsRow base e size v n xs) (hs : ∀ g, v.ownBlock = some g → w'.heap[g]? = w.heap[g]?) : w'.ownsRow base e size v n xs := by
  refine ⟨h.1, ?_⟩
  rcases h.2 with h2 | ⟨g, cap, cur, hv, hg, hh, r⟩
  · exact Or.inl h2
  · exact Or.inr ⟨g, cap, cur, hv, hg, (hs g (by rw [hv]; rfl)).trans hh, r⟩
theorem owns_lt {w : World} {base : Nat} {e : TypeId} {size : Nat} {v : Value} {n : Nat} {xs : List Value} (h : w.ownsRow base e size v n xs) {g : Nat} (hg : v.ownBlock = some g) : base ≤ g ∧ g < w.heap.size := by
  rcases h.2 with ⟨rfl, _⟩ | ⟨g', cap, cur, rfl, hb, hh, r⟩
  · simp [Value.ownBlock] at hg
  · simp [Value.ownBlock] at hg
    subst hg
    exact ⟨hb, (Array.getElem?_eq_some_iff.1 hh).1⟩
theorem owns_gr {w w' : World} {base : Nat} {e : TypeId} {size : Nat} {v : Value} {n : Nat} {xs : List Value} (h : w.ownsRow base e size v n xs) (hg : Gr w w') : w'.ownsRow base e size v n xs :=
  owns_same h fun g hv => hg.block g (owns_lt h hv).2
theorem ints_snoc {zs : List Int} {k : Nat} {z : Int} (h : zs[k]? = some z) : ints (zs.take (k + 1)) = ints (zs.take k) ++ [.int .i64 z] := by
  rw [List.take_add_one, h]; simp [ints]
theorem owns_ints {w : World} {base : Nat} {e : TypeId} {v : Value} {zs : List Int} (h : w.ownsRow base e 1 v zs.length (ints zs)) : ∃ a cap, v = .slice a zs.length cap ∧ zs.length ≤ cap ∧ IntsAt w a zs := by
  rcases h.2 with ⟨hv, hn⟩ | ⟨g, cap, cur, hv, hb, hg, h1, h2, h3⟩
  · refine ⟨none, 0, by rw [hv, hn], by omega, by rw [hn]; exact Nat.zero_le _, fun i z hz => ?_⟩
    have := (List.getElem?_eq_some_iff.1 hz).1
    omega
  · refine ⟨some ⟨g, 0, none⟩, cap, hv, h1, Nat.le_trans h1 h2, fun i z hz => ⟨g, 0, rfl, ?_, ?_⟩⟩
    · exact (Array.getElem?_eq_some_iff.1 hg).1
    · have hc := h.cells (g := g) (by rw [hv]; rfl) i (.int .i64 z) (by simp [ints, hz])
      rw [show (⟨g, 0, none⟩ : Addr).add i = ⟨g, 0 + i, none⟩ from Go.WideShapes.add_plain ..] at hc
      exact hc
end Go.Proofs.YtcpmbjlhblkniaaDoor
