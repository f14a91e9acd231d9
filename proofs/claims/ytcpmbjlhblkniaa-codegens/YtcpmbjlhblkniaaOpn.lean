/- Arguments of whatever type: a slice opened element by element; that what was read reads so again in a world that has grown. -/
import Derived.Test.YtcpmbjlhblkniaaTreM
import Derived.Test.YtcpmbjlhblkniaaRows
import Derived.WalkKit
import Derived.ProofKit
import Derived.OpenShut
import Derived.Deep.Slices
namespace Go.Proofs.Ytcpmbjlhblkniaa
open Go.ChangeShapes Go.WideShapes Go.ChangeAt Go.RowKit
set_option linter.unusedVariables false
section
variable {H : Type} {enc : TypeId × Value → H} {P : Program}
theorem grown_same {W W' : World} (h : Grown W W') {p : MemPlace} (hp : p.block < W.heap.size) : W.sameAt W' p := by
  cases p with
  | cell b o => exact World.cell?_of_block (w := W) (Grown_block h b hp)
  | map b => exact Grown_block h b hp
theorem grown_trodAll (hl : laidOutB P = true) {W W' : World} (hg : Grown W W') {sp : Nat → Bool} : ∀ {ts : List TypeId} {vs : List Value} {ds : List (DataW H)} {ps : List MemPlace},
    (∀ t ∈ ts, P.readableRec t = true ∧ t < P.types.size) → DataW.TrodAll enc P W 0 (fun _ => true) true ts vs ds ps → (∀ x ∈ ps, x.block < W.heap.size) → (∀ x ∈ ps, sp x.block = true) → DataW.TrodAll enc P W' 0 sp true ts vs ds ps
  | [], [], [], _, _, h, _, _ => h
  | _ :: _, _ :: _, _ :: _, _, hT, ⟨p, q, h1, h2, e⟩, hlt, hs =>
    ⟨p, q, WideElems.Trod_stays hl (hT _ (List.mem_cons.2 (Or.inl rfl))).1 (hT _ (List.mem_cons.2 (Or.inl rfl))).2 h1 (fun x hx => grown_same hg (hlt x (by rw [e]; exact List.mem_append_left _ hx))) (fun x hx => hs x (by rw [e]; exact List.mem_append_left _ hx)),
      grown_trodAll hl hg (fun t ht => hT t (List.mem_cons.2 (Or.inr ht))) h2 (fun x hx => hlt x (by rw [e]; exact List.mem_append_right _ hx)) (fun x hx => hs x (by rw [e]; exact List.mem_append_right _ hx)), e⟩
end
section
variable {H : Type} {enc : TypeId × Value → H} {P : Program} {w : World} {base : Nat} {spare : Nat → Bool} {held : Bool}
theorem add_none (b o j : Nat) : Addr.add ⟨b, o, none⟩ j = ⟨b, o + j, none⟩ := Go.WideShapes.add_plain ..
/-- A slice whose elements fill k cells each. -/
theorem open_rows {t e : TypeId} {k fuel : Nat} {cs : List Value} {x : DataW H × List MemPlace} (ht : P.underlying t = some (.slice e)) (hc : P.cellsOf e = k) (hk : 0 < k) (h : DataW.trod enc P w base spare held fuel t cs = some x) :
    ∃ (a : Option Addr) (len cap n : Nat), cs = [.slice a len cap] ∧ len ≤ cap ∧ cap ≤ maxLen ∧
      ∀ i, i < len → ∃ b o vs d, a = some ⟨b, o, none⟩ ∧ b < w.heap.size ∧ vs.length = k ∧ (∀ j, j < k → w.cell? ⟨b, o + (i * k + j), none⟩ = vs[j]?) ∧ DataW.trod enc P w base spare held n e vs = some d := by
  rcases Go.Deep.open_slice ht h with ⟨rfl, _⟩ | ⟨a, len, cap, m, n, D, Pl, rfl, _, hl, hm, hmm, _, hx⟩
  · exact ⟨none, 0, 0, 0, rfl, Nat.le_refl _, Nat.zero_le _, fun i hi => absurd hi (Nat.not_lt_zero _)⟩
  · refine ⟨some a, len, cap, n, rfl, hl, hm, fun i hi => ?_⟩
    obtain ⟨cs', h1, h2⟩ := hx i (by rw [hmm]; split <;> omega)
    rw [hc] at h1
    obtain ⟨_, hlen, hcell⟩ := World.cells?_some h1
    have h0 := hcell 0 hk
    rw [List.getElem?_eq_getElem (by omega)] at h0
    obtain ⟨b, o, spot⟩ := a
    rw [Go.Deep.add_add] at h0
    have hspot : spot = none := by
      obtain ⟨cs0, g1, _⟩ := hx 0 (by rw [hmm]; split <;> omega)
      rw [hc] at g1
      obtain ⟨_, glen, gcell⟩ := World.cells?_some g1
      have g0 := gcell 0 hk
      rw [List.getElem?_eq_getElem (by omega)] at g0
      simpa [Addr.add] using World.cell?_spot g0
    subst hspot
    rw [add_none] at h0
    refine ⟨b, o, cs', (D i, Pl i), rfl, ?_, hlen, fun j hj => ?_, h2⟩
    · rcases Nat.lt_or_ge b w.heap.size with g | g
      · exact g
      · have nn : w.heap[b]? = none := Array.getElem?_eq_none g
        simp [World.cell?, nn] at h0
    · have := hcell j hj
      rw [Go.Deep.add_add, add_none] at this
      exact this
/-- A slice of ints. -/
theorem ints_cells {t e : TypeId} {fuel : Nat} {cs : List Value} {x : DataW H × List MemPlace} (ht : P.underlying t = some (.slice e)) (he : P.underlying e = some (.int .i64)) (hc : P.cellsOf e = 1) (h : DataW.trod enc P w base spare held fuel t cs = some x) :
    ∃ (a : Option Addr) (cap : Nat) (zs : List Int), cs = [.slice a zs.length cap] ∧ zs.length ≤ cap ∧ cap ≤ maxLen ∧ IntsAt w a zs ∧ ∀ z ∈ zs, (Lit.int .i64 z).wf = true := by
  obtain ⟨a, len, cap, n, rfl, hl, hm, hx⟩ := open_rows ht hc (by decide) h
  obtain ⟨f, hf⟩ := Go.Deep.choose_lt (α := Int) (n := len) (p := fun i z => ∃ b o, a = some ⟨b, o, none⟩ ∧ b < w.heap.size ∧ w.cell? ⟨b, o + i, none⟩ = some (.int .i64 z) ∧ (Lit.int .i64 z).wf = true) (fun i hi => by
    obtain ⟨b, o, vs, d, ha, hb, hlen, hcell, hd⟩ := hx i hi
    obtain ⟨z, rfl, _, hw⟩ := DataW.trod_int he hd
    exact ⟨z, b, o, ha, hb, by simpa using hcell 0 (by decide), hw⟩)
  refine ⟨a, cap, (List.range len).map f, by simp, by simpa using hl, hm, ⟨by simp; exact Nat.le_trans hl hm, fun i z hz => ?_⟩, fun z hz => ?_⟩
  · simp only [List.getElem?_map, Option.map_eq_some_iff] at hz
    obtain ⟨j, hj, rfl⟩ := hz
    have hi : i < len := by rcases Nat.lt_or_ge i len with g | g; exact g; simp [Nat.not_lt.2 g] at hj
    simp [hi] at hj
    subst hj
    obtain ⟨b, o, ha, hb, hcell, _⟩ := hf i hi
    exact ⟨b, o, ha, hb, hcell⟩
  · obtain ⟨i, hi, rfl⟩ := List.mem_map.1 hz
    obtain ⟨b, o, _, _, _, hw⟩ := hf i (List.mem_range.1 hi)
    exact hw
end
end Go.Proofs.Ytcpmbjlhblkniaa
