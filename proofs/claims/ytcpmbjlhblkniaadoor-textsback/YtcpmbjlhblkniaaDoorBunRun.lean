/- Contracts: what a program tells (P5.4), by the program and by the document. -/
import Derived.Test.YtcpmbjlhblkniaaDoorVerF
import Derived.Test.YtcpmbjlhblkniaaDoorVerC
import Derived.Maps.OwnSet
import Derived.Maps.OwnOps
import Derived.MapViews
import Derived.Deep.CutRange
import Derived.Deep.CutBlock
import Derived.Test.YtcpmbjlhblkniaaDoorRunU
import Derived.Test.YtcpmbjlhblkniaaDoorCodC
import Derived.Test.YtcpmbjlhblkniaaDoorAnsV
namespace Go.Proofs.YtcpmbjlhblkniaaDoor
open Go.ChangeShapes Go.WideShapes Go.ChangeAt Go.RowKit
set_option linter.unusedVariables false
set_option maxRecDepth 100000
theorem ret3_tail {R : Int × Int × Int} {v : Value} (h : ret3 R = .returned v) : v = .tuple #[.int .i64 R.1, .int .i64 R.2.1, .int .i64 R.2.2] := by
  unfold ret3 at h
  cases h
  rfl
set_option maxHeartbeats 1600000 in
theorem verify_any (p : Prg) (w : World) (hp : PrgOk w p) (hT : Opr w) :
    Calls Tryd.prog 10 #[.agg p.cells.toArray] w fun e w' => e = ret3 (Ver.verify p) ∧ Gr w w' := by
  have HC : Hid _ := fun W (hW : PrgOk W p) => checkParts_any p W hW
  by_cases h0 : Ver.prgF p = 0
  · have HF : Hid _ := fun W (hW : PrgOk W p) (hT' : Opr W) => follow_any p W hW hT' (Ver.good h0)
    have E : Hid _ := Ver.verify_yes h0
    have g : (Ver.prgF p != 0) = false := by simpa using h0
    obtain ⟨R, hR⟩ : ∃ R, R = Ver.run p.code.length p.code 0 Ver.on0 0 0 := ⟨_, rfl⟩
    rw [E.out, ← hR]
    rw [← hR] at HF
    clear E hR h0
    obtain ⟨ca, ccap, code, pa, pcap, pool, aa, acap, answers⟩ := p
    simp only [Prg.cells] at HC HF ⊢
    go_enter Tryd.func10, Tryd.ntmps10
    go_wp2_with (go_at_call 21; refine (HC.out _ (hp.gr (by exact (Gr.refl _).alloc _))).mono ?_; rintro e w1 ⟨rfl, hg1⟩; have k1 := (hg1.block w.heap.size (by simp)).trans (heapA w _); have c1 := (row_all k1).1; have z1 : w.heap.size < w1.heap.size := by have := hg1.size; simp at this; omega)
    refine (HF.out _ (hp.gr (((Gr.refl _).alloc _).trans hg1)) (hT.gr (((Gr.refl _).alloc _).trans hg1))).mono ?_
    rintro e w2 ⟨rfl, hg2⟩
    simp only [ret3]
    go_wp2
    exact bodyPost_ret (v := .tuple #[.int .i64 R.1, .int .i64 R.2.1, .int .i64 R.2.2]) (by simp [results, Tryd.results10, go_sem]) rfl ⟨rfl, (((Gr.refl _).alloc _).trans hg1).trans hg2⟩
  · have g : (Ver.prgF p != 0) = true := by simpa using h0
    have E : Hid _ := Ver.verify_no h0
    rw [E.out]
    clear E h0
    obtain ⟨F, hF⟩ : ∃ F, F = Ver.prgF p := ⟨_, rfl⟩
    rw [← hF] at HC g ⊢
    clear hF
    obtain ⟨ca, ccap, code, pa, pcap, pool, aa, acap, answers⟩ := p
    simp only [Prg.cells] at HC ⊢
    go_enter Tryd.func10, Tryd.ntmps10
    go_wp2_with (go_at_call 21; refine (HC.out _ (hp.gr (by exact (Gr.refl _).alloc _))).mono ?_; rintro e w1 ⟨rfl, hg1⟩)
    exact bodyPost_ret (v := .tuple #[.int .i64 0, .int .i64 0, .int .i64 F]) (by simp [results, Tryd.results10, go_sem]) rfl ⟨rfl, ((Gr.refl _).alloc _).trans hg1⟩
end Go.Proofs.YtcpmbjlhblkniaaDoor
namespace Go.Proofs.YtcpmbjlhblkniaaDoor
open Go.ChangeShapes Go.WideShapes Go.ChangeAt Go.RowKit
set_option linter.unusedVariables false
theorem inB_iff (n l h : Int) : Tre.inB n l h = true ↔ l ≤ n ∧ n ≤ h := by simp [Tre.inB]
end Go.Proofs.YtcpmbjlhblkniaaDoor
namespace Go.Proofs.YtcpmbjlhblkniaaDoor
open Go.ChangeShapes Go.WideShapes Go.ChangeAt Go.RowKit Go.Maps
set_option linter.unusedVariables false
theorem lawInt : Keyed Tryd.prog 3 := int_keyed Tryd.underlying3
theorem keyI {i : Nat} (hi : i ≤ 100000) : keyOf Tryd.prog 3 (.int .i64 i) = some (.int .i64 i) := keyOf_int_mk Tryd.underlying3 (WalkArith.wf_i64 (by omega))
theorem zeroI (w : World) : (zeroValue 3).run Tryd.prog w = .ok (.int .i64 0) w := by kernel_rfl
structure MapR (w : World) (M n : Nat) (D : DataW Unit) (f : Nat → Option Int) : Prop where
  own : w.ownsMap Tryd.prog 3 (plainElem Tryd.prog 3) M n D
  isMap : IsMap D
  has : ∀ i : Nat, Maps.has D (.int .i64 i) = (f i).isSome
  at_ : ∀ i : Nat, D.atKey (.int .i64 i) (.lit (.int .i64 0)) = .lit (.int .i64 ((f i).getD 0))
theorem MapR.same {w w' : World} {M n : Nat} {D : DataW Unit} {f : Nat → Option Int} (h : MapR w M n D f) (hs : w'.heap[M]? = w.heap[M]?) : MapR w' M n D f := by
  refine ⟨?_, h.isMap, h.has, h.at_⟩
  obtain ⟨es, clock, h1, h2⟩ := h.own
  exact ⟨es, clock, hs.trans h1, h2⟩
theorem MapR.lt {w : World} {M n : Nat} {D : DataW Unit} {f : Nat → Option Int} (h : MapR w M n D f) : M < w.heap.size := h.own.lt
theorem MapR.look {w : World} {M n : Nat} {D : DataW Unit} {f : Nat → Option Int} (h : MapR w M n D f) {i : Nat} (hi : i ≤ 100000) :
    (Instr.lookup 89 (.map (some M)) (.int .i64 i) false).run Tryd.prog w = .ok (.int .i64 ((f i).getD 0)) w := by
  obtain ⟨c, hrun, hat, -⟩ := h.own.lookup_int lawInt Tryd.underlying89 Tryd.underlying3 (zeroI w) (keyI hi)
  rw [h.at_ i] at hat
  simp at hat
  rw [hrun, hat]
theorem MapR.lookOk {w : World} {M n : Nat} {D : DataW Unit} {f : Nat → Option Int} (h : MapR w M n D f) {i : Nat} (hi : i ≤ 100000) :
    (Instr.lookup 89 (.map (some M)) (.int .i64 i) true).run Tryd.prog w = .ok (.tuple #[.int .i64 ((f i).getD 0), .bool (f i).isSome]) w := by
  obtain ⟨v, ps, hrun, hv⟩ := h.own.look_ok lawInt Tryd.underlying89 (zeroI w) (zd := .lit (.int .i64 0)) (zp := []) (plainElem_int Tryd.underlying3 (by decide)) (keyI hi)
  obtain ⟨c, rfl, hc, hwc⟩ := plainElem_int_inv Tryd.underlying3 hv
  have hc' := congrArg Prod.fst hc
  simp only at hc'
  rw [h.at_ i] at hc'
  simp at hc'
  rw [hrun, h.has, hc']
def put1 (f : Nat → Option Int) (j : Nat) (v : Int) : Nat → Option Int := fun i => if i = j then some v else f i
theorem litNe {i j : Nat} (q : Lit.int .i64 (i : Int) = Lit.int .i64 (j : Int)) : i = j := by
  have : (i : Int) = j := by simpa using q
  omega
theorem MapR.put {w w' : World} {M n : Nat} {D : DataW Unit} {f : Nat → Option Int} (h : MapR w M n D f) {j : Nat} {v : Int} (ho : w'.ownsMap Tryd.prog 3 (plainElem Tryd.prog 3) M (n + 1) (D.put (.int .i64 j) (.lit (.int .i64 v)))) :
    MapR w' M (n + 1) (D.put (.int .i64 j) (.lit (.int .i64 v))) (put1 f j v) := by
  refine ⟨ho, h.isMap.put _ _, fun i => ?_, fun i => ?_⟩
  · by_cases e : i = j
    · subst e
      simp [put1, has_put_same h.isMap (show WideAt.IsKeyLit (.int .i64 i) from trivial)]
    · have hne : (Lit.int .i64 (i : Int)) ≠ Lit.int .i64 (j : Int) := fun q => e (litNe q)
      rw [has_put_other hne, h.has]; simp [put1, e]
  · by_cases e : i = j
    · subst e
      rw [atKey_put_same h.isMap (show WideAt.IsKeyLit (.int .i64 i) from trivial)]; simp [put1]
    · have hne : (Lit.int .i64 (i : Int)) ≠ Lit.int .i64 (j : Int) := fun q => e (litNe q)
      rw [atKey_put_other hne, h.at_]; simp [put1, e]
theorem MapR.upd {w : World} {M n : Nat} {D : DataW Unit} {f : Nat → Option Int} (h : MapR w M n D f) {j : Nat} (hj : j ≤ 100000) {v : Int} (h1 : -1000000 ≤ v) (h2 : v ≤ 1000000) (hn : n ≤ 1000000) :
    ∃ w', (Instr.mapUpdate 89 (.map (some M)) (.int .i64 j) (.int .i64 v)).run Tryd.prog w = .ok () w' ∧ MapR w' M (n + 1) (D.put (.int .i64 j) (.lit (.int .i64 v))) (put1 f j v) ∧ w.grownBy w' (some M) := by
  obtain ⟨w', hrun, ho, hg⟩ := h.own.update lawInt Tryd.underlying89 (by unfold maxLen; omega) (keyI hj) (val := .int .i64 v) (plainElem_int Tryd.underlying3 (WalkArith.wf_i64 (by omega)))
  exact ⟨w', hrun, h.put ho, hg⟩
/-- A map that is made. -/
theorem MapR.made (w : World) : MapR (w.alloc (.map #[] 0)) w.heap.size 0 (.map []) (fun _ => none) :=
  ⟨World.ownsMap_made w Tryd.prog 3 (plainElem Tryd.prog 3), ⟨_, rfl⟩, fun i => rfl, fun i => rfl⟩
theorem grBy {w w' : World} {M : Nat} (h : w.grownBy w' (some M)) {a : World} (ha : Gr a w) (hM : a.heap.size ≤ M) : Gr a w' := ha.by_ h (fun k e => by cases e; exact hM)
theorem blkBy {w w' : World} {M : Nat} (h : w.grownBy w' (some M)) {b : Nat} (hb : b < w.heap.size) (hne : b ≠ M) : w'.heap[b]? = w.heap[b]? := h.block b hb (fun e => hne (by simpa using e))
namespace Ver
def f1 (on : On) : Nat → Option Int := fun i => (on i).map (·.1)
def f2 (on : On) : Nat → Option Int := fun i => (on i).map (·.2 + 1)
theorem f1_join (on : On) (j : Nat) (d k : Int) : put1 (f1 on) j d = f1 (joinU on j d k) := by
  funext i
  by_cases e : i = j <;> simp [put1, f1, joinU, upd, e]
theorem f2_join (on : On) (j : Nat) (d k : Int) (h : stp (on j) ≤ k) : put1 (f2 on) j (k + 1) = f2 (joinU on j d k) := by
  funext i
  by_cases e : i = j
  · subst e; simp [put1, f2, joinU, upd]; omega
  · simp [put1, f2, joinU, upd, e]
theorem f2_stay (on : On) (j : Nat) (d k : Int) (h : k ≤ stp (on j)) (hs : (on j).isSome = true) : f2 on = f2 (joinU on j d k) := by
  funext i
  by_cases e : i = j
  · subst e
    cases ho : on i with
    | none => rw [ho] at hs; cases hs
    | some v => obtain ⟨a, b⟩ := v; rw [ho] at h; simp [stp] at h; simp [f2, joinU, upd, ho, stp]; omega
  · simp [f2, joinU, upd, e]
theorem f1_none {on : On} {i : Nat} (h : on i = none) : f1 on i = none := by simp [f1, h]
theorem f1_some {on : On} {i : Nat} {d k : Int} (h : on i = some (d, k)) : f1 on i = some d := by simp [f1, h]
theorem f2_some {on : On} {i : Nat} {d k : Int} (h : on i = some (d, k)) : f2 on i = some (k + 1) := by simp [f2, h]
theorem f1_start : put1 (fun _ => none) 0 0 = f1 on0 := by
  funext i
  by_cases e : i = 0 <;> simp [put1, f1, on0, e]
theorem f2_start : put1 (fun _ => none) 0 1 = f2 on0 := by
  funext i
  by_cases e : i = 0 <;> simp [put1, f2, on0, e]
theorem f1_stk (on : On) (j : Nat) : (f1 on j).getD 0 = stk (on j) ∧ (f1 on j).isSome = (on j).isSome := by
  cases h : on j with
  | none => simp [f1, h, stk]
  | some v => obtain ⟨a, b⟩ := v; simp [f1, h, stk]
theorem f2_stp (on : On) (j : Nat) : (f2 on j).getD 0 = if (on j).isSome = true then stp (on j) + 1 else 0 := by
  cases h : on j with
  | none => simp [f2, h]
  | some v => obtain ⟨a, b⟩ := v; simp [f2, h, stp]
end Ver
end Go.Proofs.YtcpmbjlhblkniaaDoor
namespace Go.Proofs.YtcpmbjlhblkniaaDoor
open Go.ChangeShapes Go.WideShapes Go.ChangeAt Go.RowKit Go.Maps
set_option linter.unusedVariables false
/-- The loop's memory. -/
structure RefR (w wr : World) (M1 M2 : Nat) (box : Obj) (code : List Ins) (R : Int × Int × Int) (i : Nat) (s t : Int) (on : Ver.On) (n1 n2 : Nat) (D1 D2 : DataW Unit) : Prop where
  gr : Gr w wr
  box : wr.heap[w.heap.size]? = some box
  m1 : MapR wr M1 n1 D1 (Ver.f1 on)
  m2 : MapR wr M2 n2 D2 (Ver.f2 on)
  c1 : n1 ≤ 1 + 2 * i
  c2 : n2 ≤ 1 + 2 * i
  ok : Ver.OnOk on
  eq : Ver.run code.length (code.drop i) i on s t = R
  s0 : 0 ≤ s
  s1 : s ≤ 8001
  t0 : 0 ≤ t
  t1 : t ≤ 8
theorem IntsAt.by_ {w w' : World} {a : Option Addr} {zs : List Int} {M : Nat} (h : IntsAt w a zs) (hg : w.grownBy w' (some M)) (hn : NewAt (M + 1) a) : IntsAt w' a zs :=
  ⟨h.len, fun i z hz => by
    obtain ⟨b, o, e, hb, hc⟩ := h.cell i z hz
    have hle := hn.le b o _ e
    have hne : b ≠ M := by omega
    exact ⟨b, o, e, Nat.lt_of_lt_of_le hb hg.size, (World.cell?_of_block (w := w) (a := ⟨b, o + i, none⟩) (blkBy hg hb hne)).trans hc⟩⟩
theorem IntsAt.drew {w : World} {a : Option Addr} {zs : List Int} (h : IntsAt w a zs) : IntsAt w.drew a zs := h.gr (Gr.refl _).drew
/-- The inner loop's memory. -/
structure RinR (w ws : World) (M1 M2 : Nat) (box : Obj) (a : Option Addr) (js : List Nat) (n i q : Nat) (D k : Int) (J : Int × Ver.On) (on : Ver.On) (d : Int) (n1 n2 : Nat) (D1 D2 : DataW Unit) : Prop where
  gr : Gr w ws
  box : ws.heap[w.heap.size]? = some box
  m1 : MapR ws M1 n1 D1 (Ver.f1 on)
  m2 : MapR ws M2 n2 D2 (Ver.f2 on)
  c1 : n1 ≤ 1 + 2 * i + q
  c2 : n2 ≤ 1 + 2 * i + q
  ok : Ver.OnOk on
  at_ : on i = some (d, k)
  ints : IntsAt ws a (js.map fun j => ((j : Nat) : Int))
  eq : Ver.joins n D (k + 1) (js.drop q) on = J
end Go.Proofs.YtcpmbjlhblkniaaDoor
namespace Go.Proofs.YtcpmbjlhblkniaaDoor
open Go.ChangeShapes Go.WideShapes Go.ChangeAt Go.RowKit
set_option linter.unusedVariables false
set_option maxRecDepth 100000
/-- What is told for a number, and in how many steps; with an error nothing. -/
def ranA (p : Prg) (t : Int) : Ans := if (Ver.verify p).2.2 = 0 then p.answers.getD (Ver.ran p t).1.toNat zeroA else zeroA
def ranK (p : Prg) (t : Int) : Int := if (Ver.verify p).2.2 = 0 then (Ver.ran p t).2 else 0
theorem ranA_no {p : Prg} {t : Int} (h : (Ver.verify p).2.2 ≠ 0) : ranA p t = zeroA := by rw [ranA, if_neg h]
theorem ranK_no {p : Prg} {t : Int} (h : (Ver.verify p).2.2 ≠ 0) : ranK p t = 0 := by rw [ranK, if_neg h]
theorem ranA_yes {p : Prg} {t : Int} (h : (Ver.verify p).2.2 = 0) {x : Ans} (hx : p.answers[(Ver.ran p t).1.toNat]? = some x) : ranA p t = x := by rw [ranA, if_pos h, List.getD_eq_getElem?_getD, hx]; rfl
theorem ranK_yes {p : Prg} {t : Int} (h : (Ver.verify p).2.2 = 0) : ranK p t = (Ver.ran p t).2 := by rw [ranK, if_pos h]
structure RanPost (p : Prg) (t : Int) (w : World) (e : Ending) (w' : World) : Prop where
  ex : ∃ y : Ans, e = .returned (.tuple #[.agg y.cells.toArray, .int .i64 (ranK p t), .int .i64 (Ver.verify p).2.2]) ∧ AnsOk w' y ∧ y.val = (ranA p t).val ∧ Gr w w'
theorem ranPost_no {p : Prg} {t : Int} {w w' : World} {e : Ending} (h : (Ver.verify p).2.2 ≠ 0) (he : e = .returned (.tuple #[.agg #[.int .i64 0, .bool false, .string ⟨#[]⟩, .slice none 0 0, .int .i64 0], .int .i64 0, .int .i64 (Ver.verify p).2.2])) (hg : Gr w w') : RanPost p t w e w' :=
  ⟨zeroA, by rw [he, ranK_no h]; rfl, ⟨by show (Lit.int .i64 0).wf = true; decide, by show (Lit.int .i64 0).wf = true; decide, by show (ByteArray.mk #[]).size ≤ _; simp [ByteArray.size, maxLen], Nat.le_refl _, IntsAt.nil _ _, fun z hz => by cases hz⟩, by rw [ranA_no h], hg⟩
theorem ranPost_yes {p : Prg} {t : Int} {w w' : World} {e : Ending} {x : Ans} {a' : Option Addr} {cap' : Nat} (h : (Ver.verify p).2.2 = 0) (hx : p.answers[(Ver.ran p t).1.toNat]? = some x) (ho : AnsOk w x) (he : e = .returned (.tuple #[.agg #[.int .i64 x.off, .bool x.sv, .string x.nm, .slice a' x.zs.length cap', .int .i64 x.jump], .int .i64 (Ver.ran p t).2, .int .i64 0]))
    (hc : x.zs.length ≤ cap') (hz : IntsAt w' a' x.zs) (hg : Gr w w') : RanPost p t w e w' :=
  ⟨⟨x.off, x.sv, x.nm, a', cap', x.zs, x.jump⟩, by rw [he, ranK_yes h, h]; rfl, ⟨ho.off, ho.jump, ho.nm, hc, hz, ho.wz⟩, by rw [ranA_yes h hx]; rfl, hg⟩
/-- What lies in memory while a program is run by the document. -/
structure RanM (p : Prg) (w wr : World) (v : Value) (l : List Int) : Prop where
  gr : Gr w wr
  pbox : wr.heap[w.heap.size]? = some (.cells p.cells.toArray 27)
  rbox : wr.heap[w.heap.size + 1]? = some (.cells #[.int .i64 0, .bool false, .string ⟨#[]⟩, .slice none 0 0, .int .i64 0] 34)
  size : w.heap.size + 2 ≤ wr.heap.size
  row : wr.ownsRow (w.heap.size + 2) 3 1 v l.length (ints l)
theorem RanM.more {p : Prg} {w wr w2 : World} {v : Value} {l : List Int} (h : RanM p w wr v l) (hg : Gr wr w2) : RanM p w w2 v l :=
  ⟨h.gr.trans hg, (hg.block _ (by have := h.size; omega)).trans h.pbox, (hg.block _ (by have := h.size; omega)).trans h.rbox, Nat.le_trans h.size hg.size, owns_gr h.row hg⟩
theorem RanM.cut {p : Prg} {w wr : World} {a : Option Addr} {n cap m : Nat} {l : List Int} (h : RanM p w wr (.slice a n cap) l) (hn : l.length = n) (hm : m ≤ n) : RanM p w wr (.slice a m cap) (l.take m) := by
  subst hn
  refine ⟨h.gr, h.pbox, h.rbox, h.size, ?_⟩
  rw [ints_take, List.length_take, Nat.min_eq_left hm]
  exact owns_take h.row hm
theorem RanM.push {p : Prg} {w wr w2 w3 : World} {v v' : Value} {l : List Int} {z : Int} (h : RanM p w wr v l) (hg : Gr wr w2) (hgrow : w2.grownBy w3 v.ownBlock) (hown : w3.ownsRow (w.heap.size + 2) 3 1 v' (l.length + 1) (ints l ++ [.int .i64 z])) :
    RanM p w w3 v' (l ++ [z]) := by
  have h2 := h.more hg
  have hs := h2.size
  refine ⟨h2.gr.by_ hgrow (fun k hk => ?_), (hgrow.block w.heap.size (by omega) (fun e => own_ge h2.row (by omega) e.symm)).trans h2.pbox, (hgrow.block (w.heap.size + 1) (by omega) (fun e => own_ge h2.row (by omega) e.symm)).trans h2.rbox, Nat.le_trans hs hgrow.size, ?_⟩
  · have := (owns_lt h2.row hk).1
    omega
  · have : ints (l ++ [z]) = ints l ++ [.int .i64 z] := by simp [ints]
    rw [this, List.length_append, List.length_singleton]
    exact hown
set_option maxHeartbeats 3200000 in
theorem run_any (p : Prg) (t : Int) (w : World) (hp : PrgOk w p) (hT : Opr w) :
    Calls Tryd.prog 7 #[.agg p.cells.toArray, .int .i64 t] w (RanPost p t w) := by
  have HO : Hid _ := fun W (hW : PrgOk W p) (hT' : Opr W) => verify_any p W hW hT'
  have ec : p.cells = [.slice p.ca p.code.length p.ccap, .slice p.pa p.pool.length p.pcap, .slice p.aa p.answers.length p.acap] := rfl
  by_cases h0 : (Ver.verify p).2.2 = 0
  · obtain ⟨s, m, hv⟩ : ∃ s m, Ver.verify p = (s, m, 0) := ⟨(Ver.verify p).1, (Ver.verify p).2.1, by rw [← h0]⟩
    obtain ⟨hG, on, hw⟩ := Ver.ways_of hv
    obtain ⟨e1, e2, e3, e4⟩ := Ver.ran_ends (t := t) hG hw
    have l3 := hG.alen
    have HTO : Hid _ := fun W (hW : PrgOk W p) => told_any p t W hW hG hw
    obtain ⟨x, hx⟩ : ∃ x, p.answers[(Ver.ran p t).1.toNat]? = some x := ⟨_, List.getElem?_eq_getElem (by omega)⟩
    have HYES : Hid _ := fun (e : Ending) (w' : World) (a' : Option Addr) (cap' : Nat) => ranPost_yes (w := w) (w' := w') (e := e) (a' := a') (cap' := cap') h0 hx (hp.aok x (List.mem_of_getElem? hx))
    have hzl := Ver.ans_ok hv (List.mem_of_getElem? hx)
    rw [hv] at HO
    obtain ⟨ab, ao, haa, hab, hac⟩ := hp.aat.cell _ x hx
    have ho := hp.aok x (List.mem_of_getElem? hx)
    obtain ⟨⟨R1, R2⟩, hR⟩ : ∃ R, R = Ver.ran p t := ⟨_, rfl⟩
    rw [← hR] at HYES HTO hac e1 e2 e3 e4
    simp only at HYES HTO hac e1 e2 e3 e4
    have HAA : Hid _ := haa
    have HP : Hid _ := hp
    have HTT : Hid _ := hT
    clear hR hv hG hw hp h0 hx haa hT
    obtain ⟨off, sv, nm, a, cap, zs, jump⟩ := x
    simp only at hzl HYES
    rw [ec] at HO HTO ⊢
    go_enter Tryd.func7, Tryd.ntmps7
    go_upto_region 4 with (go_at_call 10; refine (HO.out _ (HP.out.gr (by exact ((Gr.refl _).alloc _).alloc _)) (HTT.out.gr (by exact ((Gr.refl _).alloc _).alloc _))).mono ?_; rintro e w1 ⟨rfl, hg1⟩; simp only [ret3])
    have hgW : Gr w w1 := (((Gr.refl _).alloc _).alloc _).trans hg1
    have kP := (hg1.block w.heap.size (by simp; omega)).trans (heapB w _ _)
    have kR := (hg1.block (w.heap.size + 1) (by simp)).trans (heapC w _ _)
    have zz : w.heap.size + 2 ≤ w1.heap.size := by have := hg1.size; simpa using this
    obtain ⟨cp, _⟩ := row_all kP
    have KP : Hid _ := kP
    have KR : Hid _ := kR
    clear kP kR hg1
    go_upto_region 5 with (go_at_call 17; refine (HTO.out _ (HP.out.gr hgW)).mono ?_; rintro e w2 ⟨rfl, hg2⟩)
    have hgW2 := hgW.trans hg2
    have kP := (hg2.block w.heap.size (by omega)).trans KP.out
    have kR := (hg2.block (w.heap.size + 1) (by omega)).trans KR.out
    have zz2 : w.heap.size + 2 ≤ w2.heap.size := Nat.le_trans zz hg2.size
    replace cp := (row_all kP).1
    rw [HAA.out] at cp
    have KR2 : Hid _ := kR
    obtain ⟨c0, c1, c2, c3, c4⟩ := hac.gr hab hgW2
    simp [Ans.cells] at c0 c1 c2 c3 c4
    have zp : ab < w2.heap.size := Nat.lt_of_lt_of_le hab hgW2.size
    clear kP kR KP KR
    go_wp2_with (go_at_call 18; refine (copied2_any off jump sv nm a cap zs _ (by exact (ho.gr hgW2).zs) (by omega) (by omega)).mono ?_; rintro e w3 ⟨a', cap', rfl, hc', hn', hz', hg3⟩; have kR := (hg3.block (w.heap.size + 1) (by omega)).trans KR2.out; have cR := (row_all kR).1; have fR := (row_all kR).2; have d0 := cR 0; have d1 := cR 1; have d2 := cR 2; have d3 := cR 3; have d4 := cR 4; simp at d0 d1 d2 d3 d4; clear cR kR)
    have hgE := hgW2.trans hg3
    have hz8 : w.heap.size + 1 < w2.heap.size := by omega
    refine bodyPost_ret (v := .tuple #[.agg #[.int .i64 off, .bool sv, .string nm, .slice a' zs.length cap', .int .i64 jump], .int .i64 R2, .int .i64 0]) (by simp [results, Tryd.results7, go_sem, d0, d1, d2, d3, d4]) rfl ?_
    refine HYES.out _ _ a' cap' rfl hc' ?_ ?_
    · repeat (with_reducible first | exact hz' | refine IntsAt.sets ?_ hn' (by exact hz8) _)
    · repeat (with_reducible first | exact hgE | refine Gr.setCell ?_ (by simp) _)
  · have g : ((Ver.verify p).2.2 != 0) = true := by simpa using h0
    have HN : Hid _ := fun e w' => ranPost_no (t := t) (w := w) (w' := w') (e := e) h0
    obtain ⟨V, hV⟩ : ∃ V, V = Ver.verify p := ⟨_, rfl⟩
    rw [← hV] at HO HN g
    have HP : Hid _ := hp
    have HTT : Hid _ := hT
    clear h0 hV hp hT
    obtain ⟨x, y, z⟩ := V
    simp only at g HN
    rw [ec] at HO ⊢
    go_enter Tryd.func7, Tryd.ntmps7
    go_wp2_with (go_at_call 10; refine (HO.out _ (HP.out.gr (by exact ((Gr.refl _).alloc _).alloc _)) (HTT.out.gr (by exact ((Gr.refl _).alloc _).alloc _))).mono ?_; rintro e w1 ⟨rfl, hg1⟩; simp only [ret3]; have kR := (hg1.block (w.heap.size + 1) (by simp)).trans (heapC w _ _); have cR := (row_all kR).1; have fR := (row_all kR).2; have d0 := cR 0; have d1 := cR 1; have d2 := cR 2; have d3 := cR 3; have d4 := cR 4; simp at d0 d1 d2 d3 d4; clear cR kR)
    have hg : Gr w w1 := (((Gr.refl _).alloc _).alloc _).trans hg1
    refine bodyPost_ret (v := .tuple #[.agg #[.int .i64 0, .bool false, .string ⟨#[]⟩, .slice none 0 0, .int .i64 0], .int .i64 0, .int .i64 z]) (by simp [results, Tryd.results7, go_sem, d0, d1, d2, d3, d4]) rfl ?_
    refine HN.out _ _ rfl ?_
    repeat (with_reducible first | exact hg | refine Gr.setCell ?_ (by simp) _)
end Go.Proofs.YtcpmbjlhblkniaaDoor
