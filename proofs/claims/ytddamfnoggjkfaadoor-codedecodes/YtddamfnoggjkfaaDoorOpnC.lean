/- Slices of bytes as arguments: how long they may be. -/
import Derived.Test.YtddamfnoggjkfaaDoorOpnZ
import Derived.Test.YtddamfnoggjkfaaDoorOpnB
namespace Go.Proofs.YtddamfnoggjkfaaDoor
open Go.ChangeShapes Go.WideShapes Go.ChangeAt Go.RowKit
set_option linter.unusedVariables false
theorem Tryd.bByte : Tryd.prog.bytesOf 5 = 1 := by kernel_rfl
theorem bytes_reach {H : Type} {enc : TypeId × Value → H} {w : World} {base : Nat} {spare : Nat → Bool} {held : Bool} {x : Bya} {d : DataW H} {p : List MemPlace} (h : DataW.Trod enc Tryd.prog w base spare held 27 (.slice x.a x.l.length x.cap) d p) (hw : ∀ k ∈ d.weights Tryd.prog 27, k ≤ reachBytes) : x.l.length ≤ 140737488351232 := by
  obtain ⟨fuel, hf⟩ := h
  have := slice_reach Tryd.underlying27 (by simpa [Value.cells] using hf : DataW.trod enc Tryd.prog w base spare held fuel 27 [.slice x.a x.l.length x.cap] = some (d, p)) hw
  rw [Tryd.bByte] at this
  simpa [reachBytes] using this
theorem owns_bys {w : World} {base n : Nat} {v : Value} {l : List Int} (hn : n = l.length) (h : w.ownsRow base 5 1 v n (bys l)) : ∃ a cap, v = .slice a l.length cap ∧ l.length ≤ cap ∧ cap ≤ maxLen ∧ BysAt w a l := by
  subst hn
  rcases h.2 with ⟨hv, hn⟩ | ⟨g, cap, cur, hv, hb, hg, h1, h2, h3⟩
  · refine ⟨none, 0, by rw [hv, hn], by omega, Nat.zero_le _, by rw [hn]; exact Nat.zero_le _, fun i z hz => ?_⟩
    have := (List.getElem?_eq_some_iff.1 hz).1
    omega
  · refine ⟨some ⟨g, 0, none⟩, cap, hv, h1, h2, Nat.le_trans h1 h2, fun i z hz => ⟨g, 0, rfl, ?_, ?_⟩⟩
    · exact (Array.getElem?_eq_some_iff.1 hg).1
    · have hc := h.cells (g := g) (by rw [hv]; rfl) i (.int .u8 z) (by simp [bys, hz])
      rw [show (⟨g, 0, none⟩ : Addr).add i = ⟨g, 0 + i, none⟩ from Go.WideShapes.add_plain ..] at hc
      exact hc
end Go.Proofs.YtddamfnoggjkfaaDoor
