/- Rows of bytes as strings. -/
import Derived.Test.YtddamfnoggjkfaaDoorEncQ
import Derived.Laws.IdiomStrings
namespace Go.Proofs.YtddamfnoggjkfaaDoor
open Go.ChangeShapes Go.WideShapes Go.ChangeAt Go.RowKit
set_option linter.unusedVariables false
def byt (z : Int) : UInt8 := UInt8.ofNat z.toNat
theorem byt_toNat {z : Int} (h : 0 ≤ z ∧ z ≤ 255) : ((byt z).toNat : Int) = z := by
  unfold byt
  rw [UInt8.toNat_ofNat']
  omega
/-- A row of bytes as a string. -/
def bst (l : List Int) : ByteArray := ⟨(l.map byt).toArray⟩
structure Bytes (l : List Int) : Prop where
  ok : ∀ z ∈ l, 0 ≤ z ∧ z ≤ 255
theorem run_bst {w : World} {B : Nat} {v : Value} {l : List Int} (h : OwR w B v l) (hb : Bytes l) : (convert 27 9 v).run Tryd.prog w = .ok (.string (bst l)) w := by
  rcases h.row.2 with ⟨rfl, hn⟩ | ⟨g, cap, cur, rfl, _⟩
  · have : l = [] := List.length_eq_zero_iff.1 hn
    subst this
    rw [run_convert_bytes_string w _ _ 5 none 0 0 Tryd.underlying27 Tryd.underlying5 Tryd.underlying9]
    rfl
  · have := run_convert_bytes_back (P := Tryd.prog) w 27 9 5 ⟨g, 0, none⟩ cap (l.map byt) Tryd.underlying27 Tryd.underlying5 Tryd.underlying9 (fun j hj => by
      have hj' : j < l.length := by simpa using hj
      have hc := h.row.cells (g := g) rfl j (.int .u8 l[j]) (by simp [bys, hj'])
      rw [hc, List.getElem_map, byt_toNat (hb.ok _ (List.getElem_mem hj'))])
    rw [List.length_map] at this
    exact this
theorem Bytes.app {a b : List Int} (ha : Bytes a) (hb : Bytes b) : Bytes (a ++ b) := ⟨fun z hz => by
  rcases List.mem_append.1 hz with h | h
  · exact ha.ok z h
  · exact hb.ok z h⟩
theorem Bytes.flat {α : Type} {f : α → List Int} {l : List α} (h : ∀ x ∈ l, Bytes (f x)) : Bytes (l.flatMap f) := ⟨fun z hz => by
  obtain ⟨x, hx, hzx⟩ := List.mem_flatMap.1 hz
  exact (h x hx).ok z hzx⟩
theorem Bytes.sev (n : Int) : Bytes (Enc.sev n) := ⟨fun z hz => Enc.sev_byte hz⟩
theorem Bytes.text (s : ByteArray) : Bytes (Enc.text s) := ⟨fun z hz => by
  obtain ⟨b, _, rfl⟩ := List.mem_map.1 hz
  have := b.toNat_lt
  omega⟩
theorem Bytes.many (l : List Int) : Bytes (Enc.many l) := (Bytes.sev _).app (Bytes.flat fun z _ => Bytes.sev z)
theorem Bytes.answer (a : Ans) : Bytes (Enc.answer a) := (((((Bytes.sev _).app (Bytes.sev _)).app (Bytes.sev _)).app (Bytes.text _)).app (Bytes.many _)).app (Bytes.sev _)
theorem Bytes.ins {x : Ins} (h : 1 ≤ x.op ∧ x.op ≤ 6) : Bytes (Enc.ins x) := ⟨fun z hz => by
  unfold Enc.ins at hz
  rcases List.mem_cons.1 hz with rfl | hz
  · omega
  · split at hz
    · exact Enc.sev_byte hz
    · cases hz⟩
theorem Bytes.encB (p : Prg) : Bytes (encB p) := by
  unfold Proofs.YtddamfnoggjkfaaDoor.encB
  split
  · rename_i h0
    obtain ⟨s, m, hv⟩ : ∃ s m, Ver.verify p = (s, m, 0) := ⟨(Ver.verify p).1, (Ver.verify p).2.1, by rw [← h0]⟩
    have hG := (Ver.ways_of hv).1
    exact (((⟨by decide⟩ : Bytes [115, 100, 49]).app ((Bytes.sev _).app (Bytes.flat fun x hx => by obtain ⟨i, hi⟩ := List.getElem?_of_mem hx; exact Bytes.ins (hG.ins i x hi).1))).app (Bytes.many _) |>.app (Bytes.sev _)).app (Bytes.flat fun x _ => Bytes.answer x)
  · exact ⟨fun z hz => by cases hz⟩
end Go.Proofs.YtddamfnoggjkfaaDoor
