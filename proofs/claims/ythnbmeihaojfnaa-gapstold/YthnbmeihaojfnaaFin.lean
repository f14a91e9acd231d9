/- A finder of nodes: a map that a call has made, and the list beside it, as closures write them. -/
import Derived.Test.YthnbmeihaojfnaaGr
import Derived.Test.YthnbmeihaojfnaaTreN
import Derived.Maps.OwnSet
import Derived.DeepKeys4
import Derived.MapViews
import Derived.Deep.Cut
namespace Go.Proofs.Ythnbmeihaojfnaa
open Go.ChangeShapes Go.WideShapes Go.ChangeAt Go.RowKit Go.Maps
set_option linter.unusedVariables false
set_option maxRecDepth 100000
theorem Try.laidOutN : laidOutB Try.prog = true := by kernel_rfl
theorem Try.rowNode : (71 : TypeId) < Try.prog.types.size := of_decide_eq_true (by kernel_rfl)
theorem Try.wideNode : (match Try.prog.underlying 71 with | some (.array _ _) | some (.struct _) => true | _ => false) = true := by kernel_rfl
theorem Try.deepNode : Try.prog.keyTypeAt (Try.prog.types.size + 1) 71 = true := by kernel_rfl
theorem lawNode : Keyed Try.prog 71 := Keyed.of_law (deep_law_laid Try.laidOutN (m := 3) (by omega) Try.rowNode (by kernel_rfl) Try.wideNode)
theorem Try.cNodeN : Try.prog.cellsOf 71 = 5 := by kernel_rfl
theorem Try.cIntN : Try.prog.cellsOf 3 = 1 := by kernel_rfl
theorem Try.cBoolN : Try.prog.cellsOf 4 = 1 := by kernel_rfl
theorem formedNode (n : Tre.Nod) : (Value.agg (Nod.cells n).toArray).formed Try.prog 71 = true := by
  have h : (Nod.cells n).toArray.size = 5 := rfl
  simp [Value.formed, Try.underlying71, Try.cNodeN, h]
theorem trodNode {H : Type} {enc : TypeId × Value → H} {w : World} {base : Nat} {sp : Nat → Bool} {held : Bool} {n : Tre.Nod} (hn : NodOk n) : ∃ d : DataW H, DataW.Trod enc Try.prog w base sp held 71 (.agg (Nod.cells n).toArray) d [] := by
  have := trod_struct_mk (enc := enc) (w := w) (base := base) (spare := sp) (held := held) (n := 1) (cs := Nod.cells n)
    (xs := [(.lit (.bool n.leaf), []), (.lit (.int .i64 n.ans), []), (.lit (.int .i64 n.bound), []), (.lit (.int .i64 n.less), []), (.lit (.int .i64 n.more), [])]) Try.underlying71 (by rw [Try.cNodeN]; rfl)
    (by simp [Nod.cells, Try.cIntN, Try.cBoolN, DataW.trod, Try.underlying3, Try.underlying4, hn.ans, hn.bound, hn.less, hn.more])
  exact ⟨_, 2, by simpa [Value.cells] using this⟩
theorem keyNode (W : World) {n : Tre.Nod} (hn : NodOk n) : ∃ l, keyOf Try.prog 71 (.agg (Nod.cells n).toArray) = some l := by
  obtain ⟨d, hd⟩ := trodNode (H := Unit) (enc := fun _ => ()) (w := W) (base := 0) (sp := fun _ => false) (held := false) hn
  exact ⟨_, (keyOf_asKey Try.deepNode Try.wideNode (formedNode n) hd).1⟩
theorem Try.tiledNode : Try.prog.tiled 3 71 = true := by kernel_rfl
theorem keyNode_inj {n m : Tre.Nod} {l : Lit} (hn : keyOf Try.prog 71 (.agg (Nod.cells n).toArray) = some l) (hm : keyOf Try.prog 71 (.agg (Nod.cells m).toArray) = some l) : n = m := by
  have h := keyOf_inj_deep Try.tiledNode Try.wideNode hn hm
  obtain ⟨a, b, c, d, e⟩ := n
  obtain ⟨a', b', c', d', e'⟩ := m
  simp [Nod.cells] at h
  obtain ⟨rfl, rfl, rfl, rfl, rfl⟩ := h
  rfl
def nodL (l : List Tre.Nod) : List Value := l.flatMap Nod.cells
/-- A finder: the key's function, the map, the list; what they hold. -/
structure FinN (w : World) (kb mb lb M base : Nat) (v : Value) (ns : List Tre.Nod) (D : DataW Unit) : Prop where
  kbox : w.heap[kb]? = some (.cells #[.func (.func 48) #[] #[]] 88)
  mbox : w.heap[mb]? = some (.cells #[.map (some M)] 95)
  lbox : w.heap[lb]? = some (.cells #[v] 23)
  row : w.ownsRow base 71 5 v ns.length (nodL ns)
  map : w.ownsMap Try.prog 71 (plainElem Try.prog 3) M ns.length D
  isMap : IsMap D
  ok : ∀ n ∈ ns, NodOk n
  has : ∀ n l, keyOf Try.prog 71 (.agg (Nod.cells n).toArray) = some l → (Maps.has D l = true ↔ n ∈ ns)
  at_ : ∀ (i : Nat) n l, ns[i]? = some n → keyOf Try.prog 71 (.agg (Nod.cells n).toArray) = some l → D.atKey l (.lit (.int .i64 0)) = .lit (.int .i64 i)
  nodup : ns.Nodup
  k1 : kb < base
  m1 : mb < base
  l1 : lb < base
  M1 : M < base
  ne1 : lb ≠ kb
  ne2 : lb ≠ mb
  size : base ≤ w.heap.size
/-- What a finder leaves alone. -/
structure Fg (base M lb : Nat) (w w' : World) : Prop where
  os : w'.os = w.os
  out : w'.output = w.output
  size : w.heap.size ≤ w'.heap.size
  block : ∀ b, b < base → b ≠ M → b ≠ lb → w'.heap[b]? = w.heap[b]?
set_option maxHeartbeats 1600000 in
theorem nodeKey_any (n : Tre.Nod) (w : World) :
    Calls Try.prog 48 #[.agg (Nod.cells n).toArray] w fun e w' => e = .returned (.agg (Nod.cells n).toArray) ∧ Gr w w' := by
  obtain ⟨leaf, a, b, l, m⟩ := n
  simp only [Nod.cells]
  go_enter Try.func48, Try.ntmps48
  go_wp2
  refine bodyPost_ret (v := .agg #[.bool leaf, .int .i64 a, .int .i64 b, .int .i64 l, .int .i64 m]) (by simp [results, Try.results48, go_sem]) rfl ⟨rfl, ?_⟩
  repeat (with_reducible first | exact Gr.refl _ | refine Gr.alloc ?_ _ | refine Gr.setCell ?_ (by simp) _)
end Go.Proofs.Ythnbmeihaojfnaa
