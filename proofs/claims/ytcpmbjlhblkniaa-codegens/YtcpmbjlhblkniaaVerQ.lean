/- Maps of numbers that a call has made: what they hold, as equations for the walk. -/
import Derived.Test.YtcpmbjlhblkniaaVerP
import Derived.Maps.OwnSet
import Derived.Maps.OwnOps
import Derived.MapViews
namespace Go.Proofs.Ytcpmbjlhblkniaa
open Go.ChangeShapes Go.WideShapes Go.ChangeAt Go.RowKit Go.Maps
set_option linter.unusedVariables false
theorem lawInt : Keyed Try.prog 3 := int_keyed Try.underlying3
theorem keyI {i : Nat} (hi : i ≤ 100000) : keyOf Try.prog 3 (.int .i64 i) = some (.int .i64 i) := keyOf_int_mk Try.underlying3 (WalkArith.wf_i64 (by omega))
theorem zeroI (w : World) : (zeroValue 3).run Try.prog w = .ok (.int .i64 0) w := by kernel_rfl
structure MapR (w : World) (M n : Nat) (D : DataW Unit) (f : Nat → Option Int) : Prop where
  own : w.ownsMap Try.prog 3 (plainElem Try.prog 3) M n D
  isMap : IsMap D
  has : ∀ i : Nat, Maps.has D (.int .i64 i) = (f i).isSome
  at_ : ∀ i : Nat, D.atKey (.int .i64 i) (.lit (.int .i64 0)) = .lit (.int .i64 ((f i).getD 0))
theorem MapR.same {w w' : World} {M n : Nat} {D : DataW Unit} {f : Nat → Option Int} (h : MapR w M n D f) (hs : w'.heap[M]? = w.heap[M]?) : MapR w' M n D f := by
  refine ⟨?_, h.isMap, h.has, h.at_⟩
  obtain ⟨es, clock, h1, h2⟩ := h.own
  exact ⟨es, clock, hs.trans h1, h2⟩
theorem MapR.lt {w : World} {M n : Nat} {D : DataW Unit} {f : Nat → Option Int} (h : MapR w M n D f) : M < w.heap.size := h.own.lt
theorem MapR.look {w : World} {M n : Nat} {D : DataW Unit} {f : Nat → Option Int} (h : MapR w M n D f) {i : Nat} (hi : i ≤ 100000) :
    (Instr.lookup 46 (.map (some M)) (.int .i64 i) false).run Try.prog w = .ok (.int .i64 ((f i).getD 0)) w := by
  obtain ⟨c, hrun, hat, -⟩ := h.own.lookup_int lawInt Try.underlying46 Try.underlying3 (zeroI w) (keyI hi)
  rw [h.at_ i] at hat
  simp at hat
  rw [hrun, hat]
theorem MapR.lookOk {w : World} {M n : Nat} {D : DataW Unit} {f : Nat → Option Int} (h : MapR w M n D f) {i : Nat} (hi : i ≤ 100000) :
    (Instr.lookup 46 (.map (some M)) (.int .i64 i) true).run Try.prog w = .ok (.tuple #[.int .i64 ((f i).getD 0), .bool (f i).isSome]) w := by
  obtain ⟨v, ps, hrun, hv⟩ := h.own.look_ok lawInt Try.underlying46 (zeroI w) (zd := .lit (.int .i64 0)) (zp := []) (plainElem_int Try.underlying3 (by decide)) (keyI hi)
  obtain ⟨c, rfl, hc, hwc⟩ := plainElem_int_inv Try.underlying3 hv
  have hc' := congrArg Prod.fst hc
  simp only at hc'
  rw [h.at_ i] at hc'
  simp at hc'
  rw [hrun, h.has, hc']
def put1 (f : Nat → Option Int) (j : Nat) (v : Int) : Nat → Option Int := fun i => if i = j then some v else f i
theorem litNe {i j : Nat} (q : Lit.int .i64 (i : Int) = Lit.int .i64 (j : Int)) : i = j := by
  have : (i : Int) = j := by simpa using q
  omega
theorem MapR.put {w w' : World} {M n : Nat} {D : DataW Unit} {f : Nat → Option Int} (h : MapR w M n D f) {j : Nat} {v : Int} (ho : w'.ownsMap Try.prog 3 (plainElem Try.prog 3) M (n + 1) (D.put (.int .i64 j) (.lit (.int .i64 v)))) :
    MapR w' M (n + 1) (D.put (.int .i64 j) (.lit (.int .i64 v))) (put1 f j v) := by
  refine ⟨ho, h.isMap.put _ _, fun i => ?_, fun i => ?_⟩
  · by_cases e : i = j
    · subst e
      simp [put1, has_put_same h.isMap (show WideAt.IsKeyLit (.int .i64 i) from trivial)]
    · have hne : (Lit.int .i64 (i : Int)) ≠ Lit.int .i64 (j : Int) := fun q => e (litNe q)
      rw [has_put_other hne, h.has]; simp [put1, e]
  · by_cases e : i = j
    · subst e
      rw [atKey_put_same h.isMap (show WideAt.IsKeyLit (.int .i64 i) from trivial)]; simp [put1]
    · have hne : (Lit.int .i64 (i : Int)) ≠ Lit.int .i64 (j : Int) := fun q => e (litNe q)
      rw [atKey_put_other hne, h.at_]; simp [put1, e]
theorem MapR.upd {w : World} {M n : Nat} {D : DataW Unit} {f : Nat → Option Int} (h : MapR w M n D f) {j : Nat} (hj : j ≤ 100000) {v : Int} (h1 : -1000000 ≤ v) (h2 : v ≤ 1000000) (hn : n ≤ 1000000) :
    ∃ w', (Instr.mapUpdate 46 (.map (some M)) (.int .i64 j) (.int .i64 v)).run Try.prog w = .ok () w' ∧ MapR w' M (n + 1) (D.put (.int .i64 j) (.lit (.int .i64 v))) (put1 f j v) ∧ w.grownBy w' (some M) := by
  obtain ⟨w', hrun, ho, hg⟩ := h.own.update lawInt Try.underlying46 (by unfold maxLen; omega) (keyI hj) (val := .int .i64 v) (plainElem_int Try.underlying3 (WalkArith.wf_i64 (by omega)))
  exact ⟨w', hrun, h.put ho, hg⟩
/-- A map that is made. -/
theorem MapR.made (w : World) : MapR (w.alloc (.map #[] 0)) w.heap.size 0 (.map []) (fun _ => none) :=
  ⟨World.ownsMap_made w Try.prog 3 (plainElem Try.prog 3), ⟨_, rfl⟩, fun i => rfl, fun i => rfl⟩
theorem grBy {w w' : World} {M : Nat} (h : w.grownBy w' (some M)) {a : World} (ha : Gr a w) (hM : a.heap.size ≤ M) : Gr a w' := ha.by_ h (fun k e => by cases e; exact hM)
theorem blkBy {w w' : World} {M : Nat} (h : w.grownBy w' (some M)) {b : Nat} (hb : b < w.heap.size) (hne : b ≠ M) : w'.heap[b]? = w.heap[b]? := h.block b hb (fun e => hne (by simpa using e))
namespace Ver
def f1 (on : On) : Nat → Option Int := fun i => (on i).map (·.1)
def f2 (on : On) : Nat → Option Int := fun i => (on i).map (·.2 + 1)
theorem f1_join (on : On) (j : Nat) (d k : Int) : put1 (f1 on) j d = f1 (joinU on j d k) := by
  funext i
  by_cases e : i = j <;> simp [put1, f1, joinU, upd, e]
theorem f2_join (on : On) (j : Nat) (d k : Int) (h : stp (on j) ≤ k) : put1 (f2 on) j (k + 1) = f2 (joinU on j d k) := by
  funext i
  by_cases e : i = j
  · subst e; simp [put1, f2, joinU, upd]; omega
  · simp [put1, f2, joinU, upd, e]
theorem f2_stay (on : On) (j : Nat) (d k : Int) (h : k ≤ stp (on j)) (hs : (on j).isSome = true) : f2 on = f2 (joinU on j d k) := by
  funext i
  by_cases e : i = j
  · subst e
    cases ho : on i with
    | none => rw [ho] at hs; cases hs
    | some v => obtain ⟨a, b⟩ := v; rw [ho] at h; simp [stp] at h; simp [f2, joinU, upd, ho, stp]; omega
  · simp [f2, joinU, upd, e]
theorem f1_none {on : On} {i : Nat} (h : on i = none) : f1 on i = none := by simp [f1, h]
theorem f1_some {on : On} {i : Nat} {d k : Int} (h : on i = some (d, k)) : f1 on i = some d := by simp [f1, h]
theorem f2_some {on : On} {i : Nat} {d k : Int} (h : on i = some (d, k)) : f2 on i = some (k + 1) := by simp [f2, h]
theorem f1_start : put1 (fun _ => none) 0 0 = f1 on0 := by
  funext i
  by_cases e : i = 0 <;> simp [put1, f1, on0, e]
theorem f2_start : put1 (fun _ => none) 0 1 = f2 on0 := by
  funext i
  by_cases e : i = 0 <;> simp [put1, f2, on0, e]
theorem f1_stk (on : On) (j : Nat) : (f1 on j).getD 0 = stk (on j) ∧ (f1 on j).isSome = (on j).isSome := by
  cases h : on j with
  | none => simp [f1, h, stk]
  | some v => obtain ⟨a, b⟩ := v; simp [f1, h, stk]
theorem f2_stp (on : On) (j : Nat) : (f2 on j).getD 0 = if (on j).isSome = true then stp (on j) + 1 else 0 := by
  cases h : on j with
  | none => simp [f2, h]
  | some v => obtain ⟨a, b⟩ := v; simp [f2, h, stp]
end Ver
end Go.Proofs.Ytcpmbjlhblkniaa
