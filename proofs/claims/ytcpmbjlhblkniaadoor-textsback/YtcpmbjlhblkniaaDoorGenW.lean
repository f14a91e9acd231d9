/- The writer of Gen in memory. -/
import Derived.Test.YtcpmbjlhblkniaaDoorGenV
import Derived.Test.YtcpmbjlhblkniaaDoorTreC
import Derived.Test.YtcpmbjlhblkniaaDoorSlots
import Derived.Deep.AppendLies
import Derived.Deep.RegionHeld3
import Derived.Deep.Cut
import Derived.Deep.DeepCutAuto
import Derived.Deep.CutBlock
import Derived.Maps.OwnSet
import Derived.Maps.OwnOps
import Derived.MapViews
namespace Go.Proofs.YtcpmbjlhblkniaaDoor
open Go.ChangeShapes Go.WideShapes Go.ChangeAt Go.RowKit Go.Maps
set_option linter.unusedVariables false
set_option maxRecDepth 100000
def insG (l : List Ins) : List Value := l.flatMap Ins.cells
theorem insG_len (l : List Ins) : (insG l).length = l.length * 2 := by
  induction l with
  | nil => rfl
  | cons x l ih => simp [insG, Ins.cells] at ih ⊢; omega
theorem insG_app (a b : List Ins) : insG (a ++ b) = insG a ++ insG b := by simp [insG]
theorem Tryd.infoInsG : ∃ i, Tryd.prog.info? 54 = some i ∧ i.zero = some (.agg #[.int .i64 0, .int .i64 0]) ∧ i.size = 2 ∧ i.bytes = 16 :=
  ⟨_, rfl, by kernel_rfl, by kernel_rfl, by kernel_rfl⟩
theorem row_formG {w : World} {base : Nat} {e : TypeId} {size : Nat} {v : Value} {n : Nat} {xs : List Value} (h : w.ownsRow base e size v n xs) : ∃ a cap, v = .slice a n cap := by
  rcases h.2 with ⟨hv, hn⟩ | ⟨g, cap, cur, hv, _⟩
  · exact ⟨none, 0, by rw [hv, hn]⟩
  · exact ⟨some ⟨g, 0, none⟩, cap, hv⟩
theorem owns_otherG {w w' : World} {b1 b2 : Nat} {e1 e2 : TypeId} {s1 s2 : Nat} {u v : Value} {n m : Nat} {xs ys : List Value} (hu : w.ownsRow b1 e1 s1 u n xs) (hv : w.ownsRow b2 e2 s2 v m ys) (hne : e1 ≠ e2) (hg : w.grownBy w' v.ownBlock) : w'.ownsRow b1 e1 s1 u n xs :=
  owns_same hu fun g hgu => hg.block g (owns_lt hu hgu).2 fun e => by
    rcases hu.2 with ⟨rfl, _⟩ | ⟨g1, cap1, cur1, rfl, _, h1, _⟩
    · simp [Value.ownBlock] at hgu
    · rcases hv.2 with ⟨rfl, _⟩ | ⟨g2, cap2, cur2, rfl, _, h2, _⟩
      · simp [Value.ownBlock] at e
      · simp [Value.ownBlock] at hgu e
        subst hgu
        subst e
        rw [h1] at h2
        cases h2
        exact hne rfl
/-- A row that the call owns: its block's type. -/
theorem owns_type {w : World} {base : Nat} {e : TypeId} {size : Nat} {v : Value} {n : Nat} {xs : List Value} (h : w.ownsRow base e size v n xs) {g : Nat} (hg : v.ownBlock = some g) : ∃ c, w.heap[g]? = some (.cells c e) := by
  rcases h.2 with ⟨rfl, _⟩ | ⟨g1, cap1, cur1, rfl, _, h1, _⟩
  · simp [Value.ownBlock] at hg
  · simp [Value.ownBlock] at hg
    subst hg
    exact ⟨_, h1⟩
theorem lawIntG : Keyed Tryd.prog 3 := int_keyed Tryd.underlying3
theorem keyZ {z : Int} (hz : (Lit.int .i64 z).wf = true) : keyOf Tryd.prog 3 (.int .i64 z) = some (.int .i64 z) := keyOf_int_mk Tryd.underlying3 hz
theorem zeroG (w : World) : (zeroValue 3).run Tryd.prog w = .ok (.int .i64 0) w := by kernel_rfl
/-- A map of the numbers' places. -/
structure MapZ (w : World) (M : Nat) (D : DataW Unit) (pool : List Int) : Prop where
  own : w.ownsMap Tryd.prog 3 (plainElem Tryd.prog 3) M pool.length D
  isMap : IsMap D
  has : ∀ z : Int, Maps.has D (.int .i64 z) = decide (z ∈ pool)
  at_ : ∀ z : Int, z ∈ pool → D.atKey (.int .i64 z) (.lit (.int .i64 0)) = .lit (.int .i64 (Gn.place pool z))
theorem MapZ.same {w w' : World} {M : Nat} {D : DataW Unit} {pool : List Int} (h : MapZ w M D pool) (hs : w'.heap[M]? = w.heap[M]?) : MapZ w' M D pool := by
  refine ⟨?_, h.isMap, h.has, h.at_⟩
  obtain ⟨es, clock, h1, h2⟩ := h.own
  exact ⟨es, clock, hs.trans h1, h2⟩
theorem MapZ.lookOk {w : World} {M : Nat} {D : DataW Unit} {pool : List Int} (h : MapZ w M D pool) {z : Int} (hz : (Lit.int .i64 z).wf = true) :
    ∃ v, (Instr.lookup 89 (.map (some M)) (.int .i64 z) true).run Tryd.prog w = .ok (.tuple #[.int .i64 v, .bool (decide (z ∈ pool))]) w ∧ (z ∈ pool → v = Gn.place pool z) := by
  obtain ⟨v, ps, hrun, hv⟩ := h.own.look_ok lawIntG Tryd.underlying89 (zeroG w) (zd := .lit (.int .i64 0)) (zp := []) (plainElem_int Tryd.underlying3 (by decide)) (keyZ hz)
  obtain ⟨c, rfl, hc, hwc⟩ := plainElem_int_inv Tryd.underlying3 hv
  refine ⟨c, by rw [hrun, h.has], fun hm => ?_⟩
  have hc' := congrArg Prod.fst hc
  simp only at hc'
  rw [h.at_ z hm] at hc'
  simpa using hc'.symm
theorem litNeZ {y z : Int} (q : Lit.int .i64 y = Lit.int .i64 z) : y = z := by simpa using q
theorem MapZ.put {w w' : World} {M : Nat} {D : DataW Unit} {pool : List Int} (h : MapZ w M D pool) {z : Int} (hn : z ∉ pool) (ho : w'.ownsMap Tryd.prog 3 (plainElem Tryd.prog 3) M (pool.length + 1) (D.put (.int .i64 z) (.lit (.int .i64 pool.length)))) :
    MapZ w' M (D.put (.int .i64 z) (.lit (.int .i64 pool.length))) (pool ++ [z]) := by
  refine ⟨by rw [List.length_append]; exact ho, h.isMap.put _ _, fun y => ?_, fun y hy => ?_⟩
  · by_cases e : y = z
    · subst e
      simp [has_put_same h.isMap (show WideAt.IsKeyLit (.int .i64 y) from trivial)]
    · have hne : Lit.int .i64 y ≠ Lit.int .i64 z := fun q => e (litNeZ q)
      rw [has_put_other hne, h.has]; simp [e]
  · by_cases e : y = z
    · subst e
      rw [atKey_put_same h.isMap (show WideAt.IsKeyLit (.int .i64 y) from trivial)]
      unfold Gn.place
      rw [List.idxOf_append, if_neg hn]
      simp
    · have hne : Lit.int .i64 y ≠ Lit.int .i64 z := fun q => e (litNeZ q)
      have hm : y ∈ pool := by
        rcases List.mem_append.1 hy with h1 | h1
        · exact h1
        · exact absurd (List.mem_singleton.1 h1) e
      rw [atKey_put_other hne, h.at_ y hm]
      unfold Gn.place
      rw [List.idxOf_append, if_pos hm]
theorem MapZ.made (w : World) : MapZ (w.alloc (.map #[] 0)) w.heap.size (.map []) [] :=
  ⟨World.ownsMap_made w Tryd.prog 3 (plainElem Tryd.prog 3), ⟨_, rfl⟩, fun i => rfl, fun i h => by simp at h⟩
/-- The writer: a box of five cells, and what they hold. -/
structure GW (w0 w : World) (base wb lb M : Nat) (na : Option Addr) (ncap : Nat) (nodes : List Tre.Nod) (s : Gn.GS) (cv pv : Value) (cs : Array Value) (D : DataW Unit) : Prop where
  box : w.heap[wb]? = some (.cells #[.slice na nodes.length ncap, cv, .slice (some ⟨lb, 0, none⟩) nodes.length nodes.length, pv, .map (some M)] 91)
  code : w.ownsRow base 54 2 cv s.code.length (insG s.code.reverse)
  lens : w.heap[lb]? = some (.cells cs 3)
  lsize : cs.size = nodes.length
  lat : ∀ i, i < nodes.length → cs[i]? = some (.int .i64 (s.len i))
  pool : w.ownsRow base 3 1 pv s.pool.length (ints s.pool)
  map : MapZ w M D s.pool
  gr : Gr w0 w
  ns : FivesAt w0 na nodes Nod.cells
  nok : ∀ x ∈ nodes, NodOk x
  b0 : w0.heap.size ≤ wb
  l0 : w0.heap.size ≤ lb
  m0 : w0.heap.size ≤ M
  b1 : wb < base
  l1 : lb < base
  m1 : M < base
  base : base ≤ w.heap.size
structure GM (w0 : World) (base wb lb M : Nat) (na : Option Addr) (ncap : Nat) (nodes : List Tre.Nod) (s : Gn.GS) (w : World) : Prop where
  ex : ∃ cv pv cs D, GW w0 w base wb lb M na ncap nodes s cv pv cs D
/-- What the writer leaves alone: all but its box, instructions and ints. -/
structure Kp (wb : Nat) (w w' : World) : Prop where
  size : w.heap.size ≤ w'.heap.size
  kp : ∀ (b : Nat) (c : Array Value) (t : TypeId), w.heap[b]? = some (.cells c t) → t ≠ 54 → t ≠ 3 → b ≠ wb → w'.heap[b]? = some (.cells c t)
theorem Kp.trans {wb : Nat} {a b c : World} (h : Kp wb a b) (g : Kp wb b c) : Kp wb a c := ⟨Nat.le_trans h.size g.size, fun x y t h1 h2 h3 h4 => g.kp x y t (h.kp x y t h1 h2 h3 h4) h2 h3 h4⟩
theorem Kp.ofGr {wb : Nat} {w w' : World} (h : Gr w w') : Kp wb w w' := ⟨h.size, fun x y t h1 _ _ _ => (h.block x (Array.getElem?_eq_some_iff.1 h1).1).trans h1⟩
theorem GW.ne {w0 w : World} {base wb lb M : Nat} {na : Option Addr} {ncap : Nat} {nodes : List Tre.Nod} {s : Gn.GS} {cv pv : Value} {cs : Array Value} {D : DataW Unit} (h : GW w0 w base wb lb M na ncap nodes s cv pv cs D) : wb ≠ lb ∧ wb ≠ M ∧ lb ≠ M := by
  obtain ⟨es, cl, h3, _⟩ := h.map.own
  have h1 := h.box
  have h2 := h.lens
  refine ⟨fun e => ?_, fun e => ?_, fun e => ?_⟩
  · rw [e, h2] at h1
    injection h1 with h1
    injection h1 with h4 h5
    exact absurd h5 (by decide)
  · rw [e, h3] at h1; cases h1
  · rw [e, h3] at h2; cases h2
theorem GW.gr_ {w0 w w' : World} {base wb lb M : Nat} {na : Option Addr} {ncap : Nat} {nodes : List Tre.Nod} {s : Gn.GS} {cv pv : Value} {cs : Array Value} {D : DataW Unit} (h : GW w0 w base wb lb M na ncap nodes s cv pv cs D) (g : Gr w w') : GW w0 w' base wb lb M na ncap nodes s cv pv cs D :=
  ⟨(g.block wb (Nat.lt_of_lt_of_le h.b1 h.base)).trans h.box, owns_gr h.code g, (g.block lb (Nat.lt_of_lt_of_le h.l1 h.base)).trans h.lens, h.lsize, h.lat, owns_gr h.pool g, h.map.same (g.block M (Nat.lt_of_lt_of_le h.m1 h.base)), h.gr.trans g, h.ns, h.nok, h.b0, h.l0, h.m0, h.b1, h.l1, h.m1, Nat.le_trans h.base g.size⟩
end Go.Proofs.YtcpmbjlhblkniaaDoor
