/- How great an argument may be: a slice's bytes are within reach. -/
import Derived.Test.YtcpmbjlhblkniaaOpnT
import Derived.Test.YtcpmbjlhblkniaaGr
import Derived.SizedLaws
namespace Go.Proofs.Ytcpmbjlhblkniaa
open Go.ChangeShapes Go.WideShapes Go.ChangeAt Go.RowKit
set_option linter.unusedVariables false
section
variable {H : Type} {enc : TypeId × Value → H} {P : Program}
theorem gr_trodAll (hl : laidOutB P = true) {W W' : World} (hg : Gr W W') {sp : Nat → Bool} : ∀ {ts : List TypeId} {vs : List Value} {ds : List (DataW H)} {ps : List MemPlace},
    (∀ t ∈ ts, P.readableRec t = true ∧ t < P.types.size) → DataW.TrodAll enc P W 0 (fun _ => true) true ts vs ds ps → (∀ x ∈ ps, x.block < W.heap.size) → (∀ x ∈ ps, sp x.block = true) → DataW.TrodAll enc P W' 0 sp true ts vs ds ps
  | [], [], [], _, _, h, _, _ => h
  | _ :: _, _ :: _, _ :: _, _, hT, ⟨p, q, h1, h2, e⟩, hlt, hs =>
    ⟨p, q, WideElems.Trod_stays hl (hT _ (List.mem_cons.2 (Or.inl rfl))).1 (hT _ (List.mem_cons.2 (Or.inl rfl))).2 h1 (fun x hx => hg.same (hlt x (by rw [e]; exact List.mem_append_left _ hx))) (fun x hx => hs x (by rw [e]; exact List.mem_append_left _ hx)),
      gr_trodAll hl hg (fun t ht => hT t (List.mem_cons.2 (Or.inr ht))) h2 (fun x hx => hlt x (by rw [e]; exact List.mem_append_right _ hx)) (fun x hx => hs x (by rw [e]; exact List.mem_append_right _ hx)), e⟩
variable {w : World} {base : Nat} {spare : Nat → Bool} {held : Bool}
theorem slice_reach {t e : TypeId} {fuel : Nat} {a : Option Addr} {n cap : Nat} {y : DataW H × List MemPlace} (ht : P.underlying t = some (.slice e)) (h : DataW.trod enc P w base spare held fuel t [.slice a n cap] = some y)
    (hw : ∀ k ∈ y.1.weights P t, k ≤ reachBytes) : n * P.bytesOf e ≤ reachBytes := by
  rcases Go.Deep.open_slice ht h with ⟨h1, _⟩ | ⟨a', len, cap', m, n', D, Pl, h1, _, hl, hm, hmm, rfl, hx⟩
  · simp at h1; rw [h1.2.1]; simp
  · simp at h1
    obtain ⟨_, rfl, _⟩ := h1
    have := hw ((((List.range n).map D).length + ((List.range (m - n)).map fun j => D (n + j)).length) * P.bytesOf e) (by simp [DataW.weights, ht])
    simp at this
    have h2 : n ≤ n + (m - n) := by omega
    exact Nat.le_trans (Nat.mul_le_mul_right _ h2) this
end
section
variable {H : Type} {enc : TypeId × Value → H} {w : World} {base : Nat} {spare : Nat → Bool} {held : Bool}
theorem Try.bNode : Try.prog.bytesOf 56 = 40 := by kernel_rfl
theorem forest_reach {f : Fst} {d : DataW H} {p : List MemPlace} (h : DataW.Trod enc Try.prog w base spare held 25 (.agg f.cells.toArray) d p) (hw : ∀ k ∈ d.weights Try.prog 25, k ≤ reachBytes) : f.nodes.length * 40 ≤ 140737488351232 := by
  obtain ⟨fuel, hf⟩ := h
  have hf' : DataW.trod enc Try.prog w base spare held fuel 25 [.slice f.na f.nodes.length f.ncap, .slice f.aa f.answers.length f.acap] = some (d, p) := by simpa [Value.cells, Fst.cells] using hf
  obtain ⟨xs, n, _, hd, _, hlen, hg⟩ := DataW.trod_struct Try.underlying25 hf'
  have e0 : DataW.trod enc Try.prog w base spare held n 22 (([.slice f.na f.nodes.length f.ncap, .slice f.aa f.answers.length f.acap] : List Value).drop 0 |>.take (Try.prog.cellsOf 22)) = xs[0]? := hg 0 _ rfl
  rw [Try.cNodes] at e0
  match xs, hlen with
  | [y0, y1], _ =>
    simp at e0 hd
    have := slice_reach Try.underlying22 e0 (fun k hk => hw k (by rw [hd.1]; simp [DataW.weights, Try.underlying25, DataW.weightsEach]; exact Or.inl hk))
    rw [Try.bNode] at this
    simpa [reachBytes] using this
end
end Go.Proofs.Ytcpmbjlhblkniaa
