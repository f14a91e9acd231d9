/- Slices of bytes as arguments: what they hold. -/
import Derived.Test.YtddamfnoggjkfaaDoorOpnT
import Derived.Test.YtddamfnoggjkfaaDoorDecW
namespace Go.Proofs.YtddamfnoggjkfaaDoor
open Go.ChangeShapes Go.WideShapes Go.ChangeAt Go.RowKit
set_option linter.unusedVariables false
structure Bya where
  a : Option Addr
  cap : Nat
  l : List Int
structure ByaOk (w : World) (x : Bya) : Prop where
  cap : x.l.length ≤ x.cap
  cap2 : x.cap ≤ 9223372036854775807
  at_ : BysAt w x.a x.l
  byt : ∀ z ∈ x.l, 0 ≤ z ∧ z ≤ 255
section
variable {H : Type} {enc : TypeId × Value → H} {w : World} {base : Nat} {spare : Nat → Bool} {held : Bool}
theorem Tryd.cByte : Tryd.prog.cellsOf 5 = 1 := by kernel_rfl
theorem open_bytes {r : Reach} {b0 : Nat} {v : Value} {d : DataW H} {p : List MemPlace} (hv : Value.okWide Tryd.prog w r b0 27 v) (h : DataW.Trod enc Tryd.prog w base spare held 27 v d p) :
    ∃ x : Bya, v = .slice x.a x.l.length x.cap ∧ ByaOk w x := by
  obtain ⟨a0, n0, c0, rfl⟩ := okWide_slice Tryd.underlying27 hv
  obtain ⟨fuel, hf⟩ := h
  obtain ⟨a, len, cap, n, e, hl, hm, hx⟩ := open_rows Tryd.underlying27 Tryd.cByte (by decide) (by simpa [Value.cells] using hf : DataW.trod enc Tryd.prog w base spare held fuel 27 [.slice a0 n0 c0] = some (d, p))
  simp at e
  obtain ⟨rfl, rfl, rfl⟩ := e
  obtain ⟨f, hf2⟩ := Go.Deep.choose_lt (α := Int) (n := n0) (p := fun i z => ∃ b o, a0 = some ⟨b, o, none⟩ ∧ b < w.heap.size ∧ w.cell? ⟨b, o + i, none⟩ = some (.int .u8 z) ∧ (Lit.int .u8 z).wf = true) (fun i hi => by
    obtain ⟨b, o, vs, d, ha, hb, hlen, hcell, hd⟩ := hx i hi
    obtain ⟨z, rfl, _, hw⟩ := DataW.trod_int Tryd.underlying5 hd
    exact ⟨z, b, o, ha, hb, by simpa using hcell 0 (by decide), hw⟩)
  have hm2 := hm
  unfold maxLen at hm2
  refine ⟨⟨a0, c0, (List.range n0).map f⟩, by simp, ⟨by simpa using hl, by omega, ⟨by simp; exact Nat.le_trans hl hm, fun i z hz => ?_⟩, fun z hz => ?_⟩⟩
  · simp only [List.getElem?_map, Option.map_eq_some_iff] at hz
    obtain ⟨j, hj, rfl⟩ := hz
    have hi : i < n0 := by rcases Nat.lt_or_ge i n0 with g | g; exact g; simp [Nat.not_lt.2 g] at hj
    simp [hi] at hj
    subst hj
    obtain ⟨b, o, ha, hb, hcell, _⟩ := hf2 i hi
    exact ⟨b, o, ha, hb, hcell⟩
  · obtain ⟨i, hi, rfl⟩ := List.mem_map.1 hz
    obtain ⟨b, o, _, _, _, hw⟩ := hf2 i (List.mem_range.1 hi)
    exact bounds_u8 hw
end
end Go.Proofs.YtddamfnoggjkfaaDoor
