/- A finder of nodes: a map that a call has made, and the list beside it, as closures write them. -/
import Derived.Test.YtcpmbjlhblkniaaDoorGr
import Derived.Test.YtcpmbjlhblkniaaDoorTreN
import Derived.Maps.OwnSet
import Derived.DeepKeys4
import Derived.MapViews
import Derived.Deep.Cut
namespace Go.Proofs.YtcpmbjlhblkniaaDoor
open Go.ChangeShapes Go.WideShapes Go.ChangeAt Go.RowKit Go.Maps
set_option linter.unusedVariables false
set_option maxRecDepth 100000
theorem Tryd.laidOutN : laidOutB Tryd.prog = true := by kernel_rfl
theorem Tryd.rowNode : (65 : TypeId) < Tryd.prog.types.size := of_decide_eq_true (by kernel_rfl)
theorem Tryd.wideNode : (match Tryd.prog.underlying 65 with | some (.array _ _) | some (.struct _) => true | _ => false) = true := by kernel_rfl
theorem Tryd.deepNode : Tryd.prog.keyTypeAt (Tryd.prog.types.size + 1) 65 = true := by kernel_rfl
theorem lawNode : Keyed Tryd.prog 65 := Keyed.of_law (deep_law_laid Tryd.laidOutN (m := 3) (by omega) Tryd.rowNode (by kernel_rfl) Tryd.wideNode)
theorem Tryd.cNodeN : Tryd.prog.cellsOf 65 = 5 := by kernel_rfl
theorem Tryd.cIntN : Tryd.prog.cellsOf 3 = 1 := by kernel_rfl
theorem Tryd.cBoolN : Tryd.prog.cellsOf 4 = 1 := by kernel_rfl
theorem formedNode (n : Tre.Nod) : (Value.agg (Nod.cells n).toArray).formed Tryd.prog 65 = true := by
  have h : (Nod.cells n).toArray.size = 5 := rfl
  simp [Value.formed, Tryd.underlying65, Tryd.cNodeN, h]
theorem trodNode {H : Type} {enc : TypeId × Value → H} {w : World} {base : Nat} {sp : Nat → Bool} {held : Bool} {n : Tre.Nod} (hn : NodOk n) : ∃ d : DataW H, DataW.Trod enc Tryd.prog w base sp held 65 (.agg (Nod.cells n).toArray) d [] := by
  have := trod_struct_mk (enc := enc) (w := w) (base := base) (spare := sp) (held := held) (n := 1) (cs := Nod.cells n)
    (xs := [(.lit (.bool n.leaf), []), (.lit (.int .i64 n.ans), []), (.lit (.int .i64 n.bound), []), (.lit (.int .i64 n.less), []), (.lit (.int .i64 n.more), [])]) Tryd.underlying65 (by rw [Tryd.cNodeN]; rfl)
    (by simp [Nod.cells, Tryd.cIntN, Tryd.cBoolN, DataW.trod, Tryd.underlying3, Tryd.underlying4, hn.ans, hn.bound, hn.less, hn.more])
  exact ⟨_, 2, by simpa [Value.cells] using this⟩
theorem keyNode (W : World) {n : Tre.Nod} (hn : NodOk n) : ∃ l, keyOf Tryd.prog 65 (.agg (Nod.cells n).toArray) = some l := by
  obtain ⟨d, hd⟩ := trodNode (H := Unit) (enc := fun _ => ()) (w := W) (base := 0) (sp := fun _ => false) (held := false) hn
  exact ⟨_, (keyOf_asKey Tryd.deepNode Tryd.wideNode (formedNode n) hd).1⟩
theorem Tryd.tiledNode : Tryd.prog.tiled 3 65 = true := by kernel_rfl
theorem keyNode_inj {n m : Tre.Nod} {l : Lit} (hn : keyOf Tryd.prog 65 (.agg (Nod.cells n).toArray) = some l) (hm : keyOf Tryd.prog 65 (.agg (Nod.cells m).toArray) = some l) : n = m := by
  have h := keyOf_inj_deep Tryd.tiledNode Tryd.wideNode hn hm
  obtain ⟨a, b, c, d, e⟩ := n
  obtain ⟨a', b', c', d', e'⟩ := m
  simp [Nod.cells] at h
  obtain ⟨rfl, rfl, rfl, rfl, rfl⟩ := h
  rfl
def nodL (l : List Tre.Nod) : List Value := l.flatMap Nod.cells
/-- A finder: the key's function, the map, the list; what they hold. -/
structure FinN (w : World) (kb mb lb M base : Nat) (v : Value) (ns : List Tre.Nod) (D : DataW Unit) : Prop where
  kbox : w.heap[kb]? = some (.cells #[.func (.func 62) #[] #[]] 133)
  mbox : w.heap[mb]? = some (.cells #[.map (some M)] 151)
  lbox : w.heap[lb]? = some (.cells #[v] 40)
  row : w.ownsRow base 65 5 v ns.length (nodL ns)
  map : w.ownsMap Tryd.prog 65 (plainElem Tryd.prog 3) M ns.length D
  isMap : IsMap D
  ok : ∀ n ∈ ns, NodOk n
  has : ∀ n l, keyOf Tryd.prog 65 (.agg (Nod.cells n).toArray) = some l → (Maps.has D l = true ↔ n ∈ ns)
  at_ : ∀ (i : Nat) n l, ns[i]? = some n → keyOf Tryd.prog 65 (.agg (Nod.cells n).toArray) = some l → D.atKey l (.lit (.int .i64 0)) = .lit (.int .i64 i)
  nodup : ns.Nodup
  k1 : kb < base
  m1 : mb < base
  l1 : lb < base
  M1 : M < base
  ne1 : lb ≠ kb
  ne2 : lb ≠ mb
  size : base ≤ w.heap.size
/-- What a finder leaves alone. -/
structure Fg (base M lb : Nat) (w w' : World) : Prop where
  os : w'.os = w.os
  out : w'.output = w.output
  size : w.heap.size ≤ w'.heap.size
  block : ∀ b, b < base → b ≠ M → b ≠ lb → w'.heap[b]? = w.heap[b]?
set_option maxHeartbeats 1600000 in
theorem nodeKey_any (n : Tre.Nod) (w : World) :
    Calls Tryd.prog 62 #[.agg (Nod.cells n).toArray] w fun e w' => e = .returned (.agg (Nod.cells n).toArray) ∧ Gr w w' := by
  obtain ⟨leaf, a, b, l, m⟩ := n
  simp only [Nod.cells]
  go_enter Tryd.func62, Tryd.ntmps62
  go_wp2
  refine bodyPost_ret (v := .agg #[.bool leaf, .int .i64 a, .int .i64 b, .int .i64 l, .int .i64 m]) (by simp [results, Tryd.results62, go_sem]) rfl ⟨rfl, ?_⟩
  repeat (with_reducible first | exact Gr.refl _ | refine Gr.alloc ?_ _ | refine Gr.setCell ?_ (by simp) _)
end Go.Proofs.YtcpmbjlhblkniaaDoor
