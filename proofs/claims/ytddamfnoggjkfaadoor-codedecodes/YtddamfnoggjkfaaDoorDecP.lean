/- Contract: a program is read (P5.6), by the program. -/
import Derived.Test.YtddamfnoggjkfaaDoorDecA
import Derived.Deep.RegionHeld3
import Derived.Deep.RegionLaw
import Derived.Deep.AppendLies
namespace Go.Proofs.YtddamfnoggjkfaaDoor
open Go.ChangeShapes Go.WideShapes Go.ChangeAt Go.RowKit
set_option linter.unusedVariables false
/-- All that a program leads to is new. -/
structure PrgNew (n : Nat) (p : Prg) : Prop where
  ca : NewAt n p.ca
  pa : NewAt n p.pa
  aa : NewAt n p.aa
  ya : ∀ y ∈ p.answers, NewAt n y.a
theorem owns_new {w : World} {base n : Nat} {e : TypeId} {size : Nat} {a : Option Addr} {m cap : Nat} {xs : List Value} (h : w.ownsRow base e size (.slice a m cap) m xs) (hn : n ≤ base) : NewAt n a := ⟨fun b o sp he => by
  subst he
  exact Nat.le_trans hn (owns_lt h rfl).1⟩
theorem PrgOk.sets {w : World} {p : Prg} (h : PrgOk w p) {n : Nat} (hn : PrgNew n p) {q : Addr} (hq : q.block < n) (u : Value) : PrgOk (w.setCell q u) p := by
  have keep : ∀ b o, n ≤ b → b < w.heap.size → (w.setCell q u).cell? ⟨b, o, none⟩ = w.cell? ⟨b, o, none⟩ := fun b o hb _ => World.cell?_of_block (w := w) (a := ⟨b, o, none⟩) (heap_setCell_other w q b u (by omega))
  have hs : (w.setCell q u).heap.size = w.heap.size := by simp [World.setCell]
  refine ⟨h.ccap, h.pcap, h.acap, ⟨h.cat.len, fun i x hx => ?_⟩, h.cok, h.pat.sets hn.pa hq u, h.pok, ⟨h.aat.len, fun i x hx => ?_⟩, fun x hx => ?_⟩
  · obtain ⟨b, o, e, hb, h1, h2⟩ := h.cat.cell i x hx
    have := hn.ca.le b o _ e
    exact ⟨b, o, e, by omega, (keep b _ this hb).trans h1, (keep b _ this hb).trans h2⟩
  · obtain ⟨b, o, e, hb, h0, h1, h2, h3, h4⟩ := h.aat.cell i x hx
    have := hn.aa.le b o _ e
    exact ⟨b, o, e, by omega, (keep b _ this hb).trans h0, (keep b _ this hb).trans h1, (keep b _ this hb).trans h2, (keep b _ this hb).trans h3, (keep b _ this hb).trans h4⟩
  · have hx1 := h.aok x hx
    exact ⟨hx1.off, hx1.jump, hx1.nm, hx1.cap, hx1.zs.sets (hn.ya x hx) hq u, hx1.wz⟩
structure PrgPost (W w : World) (rb : Nat) (R : Dec.PV × List Int × Int) (en : Ending) (w' : World) : Prop where
  ex : ∃ p : Prg, en = .returned (.agg p.cells.toArray) ∧ PrgOk w' p ∧ p.code = R.1.1 ∧ p.pool = R.1.2.1 ∧ p.answers.map Ans.val = R.1.2.2 ∧ PrgNew (rb + 1) p
  rd : Rd True W w' rb R.2.1 R.2.2
  bg : Bg rb w w'
def insC (l : List Ins) : List Value := l.flatMap Ins.cells
theorem insC_len (l : List Ins) : (insC l).length = l.length * 2 := by
  induction l with
  | nil => rfl
  | cons x l ih => simp [insC, Ins.cells] at ih ⊢; omega
theorem insC_app (a b : List Ins) : insC (a ++ b) = insC a ++ insC b := by simp [insC]
def ansC (l : List Ans) : List Value := l.flatMap Ans.cells
theorem ansC_len (l : List Ans) : (ansC l).length = l.length * 5 := by
  induction l with
  | nil => rfl
  | cons x l ih => simp [ansC, Ans.cells] at ih ⊢; omega
theorem ansC_app (a b : List Ans) : ansC (a ++ b) = ansC a ++ ansC b := by simp [ansC]
theorem Tryd.infoIns : ∃ i, Tryd.prog.info? 48 = some i ∧ i.zero = some (.agg #[.int .i64 0, .int .i64 0]) ∧ i.size = 2 ∧ i.bytes = 16 :=
  ⟨_, rfl, by kernel_rfl, by kernel_rfl, by kernel_rfl⟩
theorem Tryd.infoAns : ∃ i, Tryd.prog.info? 44 = some i ∧ i.zero = some (.agg #[.int .i64 0, .bool false, .string ⟨#[]⟩, .slice none 0 0, .int .i64 0]) ∧ i.size = 5 ∧ i.bytes = 64 :=
  ⟨_, rfl, by kernel_rfl, by kernel_rfl, by kernel_rfl⟩
theorem flat_get {α : Type} {f : α → List Value} {c : Nat} (hf : ∀ x, (f x).length = c) : ∀ {l : List α} {i j : Nat} {x : α}, l[i]? = some x → j < c → (l.flatMap f)[i * c + j]? = (f x)[j]?
  | y :: l, 0, j, x, h, hj => by
    simp at h
    subst h
    rw [List.flatMap_cons, Nat.zero_mul, Nat.zero_add, List.getElem?_append_left (by rw [hf]; exact hj)]
  | y :: l, i + 1, j, x, h, hj => by
    rw [List.flatMap_cons, List.getElem?_append_right (by rw [hf, Nat.succ_mul]; omega), hf]
    have := flat_get hf (l := l) (i := i) (j := j) (x := x) (by simpa using h) hj
    rw [← this]
    congr 1
    rw [Nat.succ_mul]
    omega
  | [], i, j, x, h, hj => by simp at h
theorem owns_inss {w : World} {base : Nat} {v : Value} {l : List Ins} (h : w.ownsRow base 48 2 v l.length (insC l)) : ∃ a cap, v = .slice a l.length cap ∧ l.length ≤ cap ∧ InssAt w a l := by
  rcases h.2 with ⟨hv, hn⟩ | ⟨g, cap, cur, hv, hb, hg, h1, h2, h3⟩
  · refine ⟨none, 0, by rw [hv, hn], by omega, by rw [hn]; exact Nat.zero_le _, fun i x hx => ?_⟩
    have := (List.getElem?_eq_some_iff.1 hx).1
    omega
  · refine ⟨some ⟨g, 0, none⟩, cap, hv, h1, Nat.le_trans h1 h2, fun i x hx => ⟨g, 0, rfl, (Array.getElem?_eq_some_iff.1 hg).1, ?_, ?_⟩⟩
    · have hc := h.cells (g := g) (by rw [hv]; rfl) (i * 2 + 0) (.int .i64 x.op) (by rw [insC, flat_get (c := 2) (fun _ => rfl) hx (by decide)]; rfl)
      rw [show (⟨g, 0, none⟩ : Addr).add (i * 2 + 0) = ⟨g, 0 + (i * 2 + 0), none⟩ from Go.WideShapes.add_plain ..] at hc
      exact hc
    · have hc := h.cells (g := g) (by rw [hv]; rfl) (i * 2 + 1) (.int .i64 x.n) (by rw [insC, flat_get (c := 2) (fun _ => rfl) hx (by decide)]; rfl)
      rw [show (⟨g, 0, none⟩ : Addr).add (i * 2 + 1) = ⟨g, 0 + (i * 2 + 1), none⟩ from Go.WideShapes.add_plain ..] at hc
      exact hc
theorem owns_anss {w : World} {base : Nat} {v : Value} {l : List Ans} (h : w.ownsRow base 44 5 v l.length (ansC l)) : ∃ a cap, v = .slice a l.length cap ∧ l.length ≤ cap ∧ FivesAt w a l Ans.cells := by
  rcases h.2 with ⟨hv, hn⟩ | ⟨g, cap, cur, hv, hb, hg, h1, h2, h3⟩
  · refine ⟨none, 0, by rw [hv, hn], by omega, by rw [hn]; exact Nat.zero_le _, fun i x hx => ?_⟩
    have := (List.getElem?_eq_some_iff.1 hx).1
    omega
  · have cl : ∀ i (x : Ans) j (u : Value), l[i]? = some x → j < 5 → (Ans.cells x)[j]? = some u → w.cell? ⟨g, 0 + i * 5 + j, none⟩ = some u := fun i x j u hx hj hu => by
      have hc := h.cells (g := g) (by rw [hv]; rfl) (i * 5 + j) u (by rw [ansC, flat_get (c := 5) (fun _ => rfl) hx hj]; exact hu)
      rw [show (⟨g, 0, none⟩ : Addr).add (i * 5 + j) = ⟨g, 0 + (i * 5 + j), none⟩ from Go.WideShapes.add_plain .., ← Nat.add_assoc] at hc
      exact hc
    exact ⟨some ⟨g, 0, none⟩, cap, hv, h1, Nat.le_trans h1 h2, fun i x hx => ⟨g, 0, rfl, (Array.getElem?_eq_some_iff.1 hg).1, cl i x 0 _ hx (by decide) rfl, cl i x 1 _ hx (by decide) rfl, cl i x 2 _ hx (by decide) rfl, cl i x 3 _ hx (by decide) rfl, cl i x 4 _ hx (by decide) rfl⟩⟩
theorem prog_eq {l : List Int} (N1 : List Int × List Int × Int) (h1 : Dec.bytes 3 l 0 = N1) (e2 : Int) (h2 : (if N1.1 = [115, 100, 49] then N1.2.2 else Dec.fail N1.2.2 4) = e2) (N3 : Int × List Int × Int) (h3 : Dec.count 8000 N1.2.1 e2 = N3) (N4 : List Ins × List Int × Int) (h4 : Dec.times Dec.instruction N3.1.toNat N3.2.1 N3.2.2 = N4)
    (N5 : List Int × List Int × Int) (h5 : Dec.numbers 2000 N4.2.1 N4.2.2 = N5) (N6 : Int × List Int × Int) (h6 : Dec.count 2000 N5.2.1 N5.2.2 = N6) (N7 : List Dec.AV × List Int × Int) (h7 : Dec.times Dec.answer N6.1.toNat N6.2.1 N6.2.2 = N7) :
    Dec.prog l = ((N4.1, N5.1, N7.1), N7.2.1, if 0 < N7.2.1.length then Dec.fail N7.2.2 4 else N7.2.2) := by
  subst h1 h2 h3 h4 h5 h6 h7
  rfl
theorem head_eq {z : List Int} (h : ∀ x ∈ z, 0 ≤ x ∧ x ≤ 255) (hz : z ≠ [115, 100, 49]) : ((Dec.bst z).toList == [115, 100, 49]) = false := by
  rw [Dec.bst, ByteArray.toList_mk]
  simp only [beq_eq_false_iff_ne]
  intro e
  apply hz
  have hl : z.length = 3 := by have := congrArg List.length e; simpa using this
  match z, hl, h, e with
  | [a, b, c], _, h, e =>
    simp only [List.map_cons, List.map_nil, List.cons.injEq, and_true] at e
    have ha := byt_toNat (h a (by simp))
    have hb := byt_toNat (h b (by simp))
    have hc := byt_toNat (h c (by simp))
    obtain ⟨e1, e2, e3⟩ := e
    rw [show byt a = 115 from e1] at ha
    rw [show byt b = 100 from e2] at hb
    rw [show byt c = 49 from e3] at hc
    rw [← ha, ← hb, ← hc]
    rfl
theorem step_callD {w : World} {ops : Array Oper} {a : Act} {K : Act → World → Prop} {Q : Exit → Act → World → Prop} {E : Prop} {d : Option Tmp} {ty : TypeId} {pos : String} {after : Array Edge} {args : Array Operand} {ats : Array TypeId} {vs : Array Value} {f : Nat} {R : Ending → World → Prop} (hf : ∀ vs w, (callFunc f vs).run Tryd.prog w = .ok (.enter f vs) w) (ha : args.map a.eval = vs) (hc : Calls Tryd.prog f vs w R) (hK : ∀ e w', R e w' → ∃ v, e = .returned v ∧ K (a.put d v) w') :
    if Region.wanted ⟨d, .call { callee := .value (.func f), args := args, argTypes := ats }, ty, pos, after, none⟩ (yielded ops a.tmps) = true then Oper.wp Tryd.prog ⟨d, .call { callee := .value (.func f), args := args, argTypes := ats }, ty, pos, after, none⟩ a w K Q else E := by
  have hw : Region.wanted ⟨d, .call { callee := .value (.func f), args := args, argTypes := ats }, ty, pos, after, none⟩ (yielded ops a.tmps) = true := by simp [Region.wanted]
  rw [if_pos hw]
  unfold Oper.wp
  have hfun : a.eval (.func f) = .func (.func f) #[] #[] := rfl
  generalize a.eval = ev at *
  simp only [execOp, resolve, ha, hfun]
  simp [go_sem, hf]
  refine hc.mono ?_
  intro e w' h
  obtain ⟨v, rfl, hk⟩ := hK e w' h
  exact hk
theorem run_instr (vs : Array Value) (w : World) : (callFunc 35 vs).run Tryd.prog w = .ok (.enter 35 vs) w := by
  have h1 : (Tryd.f35.name == "runtime.NumGoroutine") = false := by kernel_rfl
  have h2 : Tryd.f35.body.isNone = false := by kernel_rfl
  have h1' : ¬ Tryd.f35.name = "runtime.NumGoroutine" := by simpa using h1
  have h2' : ¬ Tryd.f35.body = none := by intro h; rw [h] at h2; cases h2
  simp [callFunc, go_sem, Tryd.func35, h1', h2']
theorem run_answ (vs : Array Value) (w : World) : (callFunc 37 vs).run Tryd.prog w = .ok (.enter 37 vs) w := by
  have h1 : (Tryd.f37.name == "runtime.NumGoroutine") = false := by kernel_rfl
  have h2 : Tryd.f37.body.isNone = false := by kernel_rfl
  have h1' : ¬ Tryd.f37.name = "runtime.NumGoroutine" := by simpa using h1
  have h2' : ¬ Tryd.f37.body = none := by intro h; rw [h] at h2; cases h2
  simp [callFunc, go_sem, Tryd.func37, h1', h2']
/-- What lies in memory while a program is read: the instructions. -/
structure PrA (W w wr : World) (rb pv : Nat) (v : Value) (T : List Ins × List Int × Int) : Prop where
  rd : Rd True W wr rb T.2.1 T.2.2
  bg : Bg rb w wr
  rbox : wr.heap[w.heap.size]? = some (.cells #[.slice none 0 0, .slice none 0 0, .slice none 0 0] 26)
  pbox : wr.heap[pv]? = some (.cells #[v, .slice none 0 0, .slice none 0 0] 26)
  own : wr.ownsRow (pv + 1) 48 2 v T.1.length (insC T.1)
  ok : ∀ x ∈ T.1, InsOk x
theorem PrA.step {W w wr w2 w3 w4 : World} {rb pv : Nat} {v v' : Value} {T : List Ins × List Int × Int} {R : Ins × List Int × Int} (h : PrA W w wr rb pv v T) (hrb : rb < w.heap.size) (hpv : w.heap.size < pv) (hB : Bg rb wr w2) (hR : Rd True W w2 rb R.2.1 R.2.2) (hok : InsOk R.1) (hg : Gr w2 w3) (hgrow : w3.grownBy w4 v.ownBlock) (hown : w4.ownsRow (pv + 1) 48 2 v' (T.1.length + 1) (insC T.1 ++ [.int .i64 R.1.op, .int .i64 R.1.n])) :
    PrA W w (w4.setCell ⟨pv, 0, none⟩ v') rb pv v' (T.1 ++ [R.1], R.2) := by
  have hown2 : w3.ownsRow (pv + 1) 48 2 v T.1.length (insC T.1) := owns_gr (owns_bg h.own (by omega) hB) hg
  have hrow : ∀ x, v.ownBlock = some x → pv + 1 ≤ x := fun x hx => (owns_lt hown2 hx).1
  have hpw : pv < wr.heap.size := lt_of_someE h.pbox
  have hp2 : w4.heap[pv]? = some (.cells #[v, .slice none 0 0, .slice none 0 0] 26) := (hgrow.block pv (Nat.lt_of_lt_of_le (Nat.lt_of_lt_of_le hpw hB.size) hg.size) (fun e => by have := hrow _ e.symm; omega)).trans ((hg.block pv (Nat.lt_of_lt_of_le hpw hB.size)).trans (hB.row h.pbox (by omega)))
  have hsz := h.bg.size
  have hr2 : w4.heap[w.heap.size]? = some (.cells #[.slice none 0 0, .slice none 0 0, .slice none 0 0] 26) := (hgrow.block _ (Nat.lt_of_lt_of_le (Nat.lt_of_lt_of_le (lt_of_someE h.rbox) hB.size) hg.size) (fun e => by have := hrow _ e.symm; omega)).trans ((hg.block _ (Nat.lt_of_lt_of_le (lt_of_someE h.rbox) hB.size)).trans (hB.row h.rbox (by omega)))
  refine ⟨((hR.bg hg).bgr hgrow (fun x hx => by have := hrow x hx; omega)).set (by simp; omega) _, (((h.bg.trans hB).gr0 hg).by_ hgrow (fun x hx => by have := hrow x hx; omega)).setNew (by simp; omega) _, ?_, ?_, ?_, fun x hx => ?_⟩
  · exact (heap_setCell_other _ ⟨pv, 0, none⟩ w.heap.size _ (by simp; omega)).trans hr2
  · have := five_set hp2 0 v'
    simpa using this
  · rw [insC_app, List.length_append, List.length_singleton]
    exact ownsRow_setCell_other hown (own_geB hown (by simp)) _
  · rcases List.mem_append.1 hx with hx | hx
    · exact h.ok x hx
    · rw [List.mem_singleton.1 hx]; exact hok
theorem owns_other {w w' : World} {b1 b2 : Nat} {e1 e2 : TypeId} {s1 s2 : Nat} {u v : Value} {n m : Nat} {xs ys : List Value} (hu : w.ownsRow b1 e1 s1 u n xs) (hv : w.ownsRow b2 e2 s2 v m ys) (hne : e1 ≠ e2) (hg : w.grownBy w' v.ownBlock) : w'.ownsRow b1 e1 s1 u n xs :=
  owns_same hu fun g hgu => hg.block g (owns_lt hu hgu).2 fun e => by
    rcases hu.2 with ⟨rfl, _⟩ | ⟨g1, cap1, cur1, rfl, _, h1, _⟩
    · simp [Value.ownBlock] at hgu
    · rcases hv.2 with ⟨rfl, _⟩ | ⟨g2, cap2, cur2, rfl, _, h2, _⟩
      · cases e
      · simp [Value.ownBlock] at hgu e
        subst hgu
        subst e
        rw [h1] at h2
        cases h2
        exact hne rfl
/-- What lies in memory while a program is read: its answers. -/
structure PrB (W w wr : World) (rb pv : Nat) (cv pl v : Value) (code : List Ins) (pool : List Int) (ys : List Ans) (T : List Dec.AV × List Int × Int) : Prop where
  rd : Rd True W wr rb T.2.1 T.2.2
  bg : Bg rb w wr
  rbox : wr.heap[w.heap.size]? = some (.cells #[.slice none 0 0, .slice none 0 0, .slice none 0 0] 26)
  pbox : wr.heap[pv]? = some (.cells #[cv, pl, v] 26)
  ownC : wr.ownsRow (pv + 1) 48 2 cv code.length (insC code)
  ownP : wr.ownsRow (pv + 1) 3 1 pl pool.length (ints pool)
  own : wr.ownsRow (pv + 1) 44 5 v ys.length (ansC ys)
  vals : ys.map Ans.val = T.1
  ok : ∀ y ∈ ys, AnsOk wr y ∧ wr.ownsRow (pv + 1) 3 1 (.slice y.a y.zs.length y.cap) y.zs.length (ints y.zs)
theorem ansOk_own {w w' : World} {y : Ans} (h : AnsOk w y) {B : Nat} (ho : w'.ownsRow B 3 1 (.slice y.a y.zs.length y.cap) y.zs.length (ints y.zs)) : AnsOk w' y := ⟨h.off, h.jump, h.nm, h.cap, owns_intsD ho, h.wz⟩
theorem PrB.step {W w wr w2 w3 w4 : World} {rb pv : Nat} {cv pl v v' : Value} {code : List Ins} {pool : List Int} {ys : List Ans} {T : List Dec.AV × List Int × Int} {R : Dec.AV × List Int × Int} {y : Ans} (h : PrB W w wr rb pv cv pl v code pool ys T) (hrb : rb < w.heap.size) (hpv : w.heap.size < pv) (hB : Bg rb wr w2) (hR : Rd True W w2 rb R.2.1 R.2.2) (hy : AnsOk w2 y) (hyo : w2.ownsRow (wr.heap.size + 2) 3 1 (.slice y.a y.zs.length y.cap) y.zs.length (ints y.zs)) (hyv : y.val = R.1) (hg : Gr w2 w3) (hgrow : w3.grownBy w4 v.ownBlock) (hown : w4.ownsRow (pv + 1) 44 5 v' (ys.length + 1) (ansC ys ++ Ans.cells y)) :
    PrB W w (w4.setCell ⟨pv, 2, none⟩ v') rb pv cv pl v' code pool (ys ++ [y]) (T.1 ++ [R.1], R.2) := by
  have hpw : pv < wr.heap.size := lt_of_someE h.pbox
  have hown2 : w3.ownsRow (pv + 1) 44 5 v ys.length (ansC ys) := owns_gr (owns_bg h.own (by omega) hB) hg
  have hrow : ∀ x, v.ownBlock = some x → pv + 1 ≤ x := fun x hx => (owns_lt hown2 hx).1
  have hp2 : w4.heap[pv]? = some (.cells #[cv, pl, v] 26) := (hgrow.block pv (Nat.lt_of_lt_of_le (Nat.lt_of_lt_of_le hpw hB.size) hg.size) (fun e => by have := hrow _ e.symm; omega)).trans ((hg.block pv (Nat.lt_of_lt_of_le hpw hB.size)).trans (hB.row h.pbox (by omega)))
  have hsz := h.bg.size
  have hr2 : w4.heap[w.heap.size]? = some (.cells #[.slice none 0 0, .slice none 0 0, .slice none 0 0] 26) := (hgrow.block _ (Nat.lt_of_lt_of_le (Nat.lt_of_lt_of_le (lt_of_someE h.rbox) hB.size) hg.size) (fun e => by have := hrow _ e.symm; omega)).trans ((hg.block _ (Nat.lt_of_lt_of_le (lt_of_someE h.rbox) hB.size)).trans (hB.row h.rbox (by omega)))
  have keep : ∀ {e s u n xs}, wr.ownsRow (pv + 1) e s u n xs → e ≠ 44 → (w4.setCell ⟨pv, 2, none⟩ v').ownsRow (pv + 1) e s u n xs := fun hu hne => owns_set (owns_other (owns_gr (owns_bg hu (by omega) hB) hg) hown2 hne hgrow) (by simp) _
  refine ⟨((hR.bg hg).bgr hgrow (fun x hx => by have := hrow x hx; omega)).set (by simp; omega) _, (((h.bg.trans hB).gr0 hg).by_ hgrow (fun x hx => by have := hrow x hx; omega)).setNew (by simp; omega) _, ?_, ?_, keep h.ownC (by decide), keep h.ownP (by decide), ?_, by rw [List.map_append, h.vals]; simp [hyv], fun z hz => ?_⟩
  · exact (heap_setCell_other _ ⟨pv, 2, none⟩ w.heap.size _ (by simp; omega)).trans hr2
  · have := five_set hp2 2 v'
    simpa using this
  · rw [ansC_app, List.length_append, List.length_singleton]
    have : ansC [y] = Ans.cells y := by simp [ansC]
    rw [this]
    exact owns_set hown (by simp) _
  · rcases List.mem_append.1 hz with hz | hz
    · have := keep (h.ok z hz).2 (by decide)
      exact ⟨ansOk_own (h.ok z hz).1 this, this⟩
    · rw [List.mem_singleton.1 hz]
      have : (w4.setCell ⟨pv, 2, none⟩ v').ownsRow (pv + 1) 3 1 (.slice y.a y.zs.length y.cap) y.zs.length (ints y.zs) := owns_set (owns_other (owns_gr (owns_up hyo (by omega)) hg) hown2 (by decide) hgrow) (by simp) _
      exact ⟨ansOk_own hy this, this⟩
theorem prgOk_of {X : World} {B : Nat} {ca pa aa : Option Addr} {ccap pcap acap : Nat} {code : List Ins} {pool : List Int} {ys : List Ans} (hc : X.ownsRow B 48 2 (.slice ca code.length ccap) code.length (insC code)) (hp : X.ownsRow B 3 1 (.slice pa pool.length pcap) pool.length (ints pool)) (ha : X.ownsRow B 44 5 (.slice aa ys.length acap) ys.length (ansC ys)) (cok : ∀ x ∈ code, InsOk x) (pok : ∀ z ∈ pool, (Lit.int .i64 z).wf = true) (aok : ∀ y ∈ ys, AnsOk X y) :
    PrgOk X ⟨ca, ccap, code, pa, pcap, pool, aa, acap, ys⟩ := by
  obtain ⟨a1, k1, e1, f1, g1⟩ := owns_inss hc
  obtain ⟨a2, k2, e2, f2, g2⟩ := owns_ints hp
  obtain ⟨a3, k3, e3, f3, g3⟩ := owns_anss ha
  simp only [Value.slice.injEq] at e1 e2 e3
  obtain ⟨rfl, _, rfl⟩ := e1
  obtain ⟨rfl, _, rfl⟩ := e2
  obtain ⟨rfl, _, rfl⟩ := e3
  exact ⟨f1, f2, f3, g1, cok, g2, pok, g3, aok⟩
set_option maxHeartbeats 3200000 in
theorem program_any (W w : World) (rb : Nat) (l : List Int) (hR : Rd False W w rb l 0) (hT : Opr W) :
    Calls Tryd.prog 19 #[.pointer (some ⟨rb, 0, none⟩)] w (PrgPost W w rb (Dec.prog l)) := by
  have hrb := hR.lt
  obtain ⟨RR, hRR⟩ : ∃ R, Dec.prog l = R := ⟨_, rfl⟩
  rw [hRR]
  have H1 : Hid _ := fun W' (h : Rd False W W' rb l 0) => bytes_any False 3 W W' rb l 0 h (Or.inl (by decide)) (by decide)
  have H1m : Hid _ := bytes_mem (n := 3) (e := 0) hR.byt
  obtain ⟨N1, hN1⟩ : ∃ N, Dec.bytes 3 l 0 = N := ⟨_, rfl⟩
  rw [hN1] at H1 H1m
  obtain ⟨z1, l1, e1⟩ := N1
  obtain ⟨e2, he2⟩ : ∃ e2, (if z1 = [115, 100, 49] then e1 else Dec.fail e1 4) = e2 := ⟨_, rfl⟩
  have H3 : Hid _ := fun W' (h : Rd True W W' rb l1 e2) => count_any 8000 W W' rb l1 e2 h
  have hb3 := Dec.count_bd (most := 8000) (by decide) (l := l1) (e := e2)
  obtain ⟨N3, hN3⟩ : ∃ N, Dec.count 8000 l1 e2 = N := ⟨_, rfl⟩
  rw [hN3] at H3 hb3
  obtain ⟨z3, l3, e3⟩ := N3
  simp only at hb3
  obtain ⟨n3, rfl⟩ : ∃ n : Nat, z3 = n := ⟨z3.toNat, by omega⟩
  have HP : Hid _ := fun N4 h4 N5 h5 N6 h6 N7 h7 => hRR.symm.trans (prog_eq _ hN1 _ he2 _ hN3 N4 h4 N5 h5 N6 h6 N7 h7)
  simp only [Int.toNat_natCast] at HP
  clear hRR hN1 hN3
  obtain ⟨i0, hi, hi1, hi2, hi3⟩ := Tryd.infoIns
  obtain ⟨j0, hj, hj1, hj2, hj3⟩ := Tryd.infoAns
  have HR0 : Hid _ := hR
  clear hR
  by_cases hz1 : z1 = [115, 100, 49]
  · rw [if_pos hz1] at he2
    subst he2
    have hst : ((Dec.bst z1).toList == [115, 100, 49]) = true := by rw [hz1, Dec.bst, ByteArray.toList_mk]; rfl
    clear hz1
    go_enter Tryd.func19, Tryd.ntmps19
    go_upto_region 3 with (go_at_call 32; refine (H1.out _ (HR0.out.bg (by exact (Gr.refl _).alloc _))).mono ?_; rintro en w1 ⟨⟨a1, cap1, rfl, hby1⟩, hR1, hB1⟩; have hcv1 := run_bstA (cap := cap1) hby1 hR1.gr H1m.out)
    have R2 := hR1
    have bg2 : Bg rb w w1 := hB1.ofNew ((Gr.refl _).alloc _)
    have kr := hB1.row (heapA w (Obj.cells #[.slice none 0 0, .slice none 0 0, .slice none 0 0] 26)) (by omega)
    clear hcv1 hby1 hR1 hB1 H1 H1m HR0
    obtain ⟨W3, hW3⟩ : ∃ W3, W3 = w1.alloc (Obj.cells #[.slice none 0 0, .slice none 0 0, .slice none 0 0] 26) := ⟨_, rfl⟩
    have g3 : Gr w1 W3 := by rw [hW3]; exact (Gr.refl _).alloc _
    obtain ⟨pv, hpv⟩ : ∃ pv, pv = w1.heap.size := ⟨_, rfl⟩
    have kp : W3.heap[pv]? = some (.cells #[.slice none 0 0, .slice none 0 0, .slice none 0 0] 26) := by rw [hW3, hpv]; exact heapA _ _
    have hpw : w.heap.size < pv := by rw [hpv]; exact lt_of_someE kr
    have kr3 := (g3.block _ (lt_of_someE kr)).trans kr
    have R3 := R2.bg g3
    have bg3 := bg2.gr0 g3
    go_upto_region 4 with fail
    rw [← hpv, ← hW3]
    clear hW3 g3 kr R2 bg2 hpv
    have KR3 : Hid _ := kr3
    have KP3 : Hid _ := kp
    clear kr3 kp
    go_wp2_with (go_at_call 34; refine (H3.out _ R3).mono ?_; rintro en w4 ⟨rfl, hR4, hB4⟩)
    have A0 : PrA W w w4 rb pv (.slice none 0 0) ([], l3, e3) := ⟨hR4, bg3.trans hB4, hB4.row KR3.out (by omega), hB4.row KP3.out (by omega), ⟨rfl, Or.inl ⟨rfl, rfl⟩⟩, fun x hx => by cases hx⟩
    clear hR4 hB4 KR3 KP3 R3 bg3 H3
    go_loopw [12] (fun i wr => ∃ (k : Nat) (v : Value), k ≤ n3 ∧ i = .int .i64 k ∧ PrA W w wr rb pv v (Dec.times Dec.instruction k l3 e3)) (fun i _ => n3 - (intOf i).toNat)
    case atStart => exact ⟨0, _, Nat.zero_le _, rfl, A0⟩
    case round =>
      obtain ⟨k, v, hk, rfl, hPR⟩ := hrel
      clear A0
      have HT : Hid _ := Dec.times_snoc Dec.instruction k l3 e3
      have HL : Hid _ := Dec.times_len Dec.instruction k l3 e3
      by_cases hlt : k < n3
      · obtain ⟨Tk, hTk⟩ : ∃ T, T = Dec.times Dec.instruction k l3 e3 := ⟨_, rfl⟩
        rw [← hTk] at hPR HT HL
        clear hTk
        have HIN : Hid _ := fun W' (h : Rd True W W' rb Tk.2.1 Tk.2.2) => instruction_any W W' rb Tk.2.1 Tk.2.2 h hT
        obtain ⟨Ik, hIk⟩ : ∃ N, N = Dec.instruction Tk.2.1 Tk.2.2 := ⟨_, rfl⟩
        rw [← hIk] at HT HIN
        clear hIk
        obtain ⟨va, vcap, hv⟩ := owns_formK hPR.own
        rw [HL.out] at hv
        subst hv
        obtain ⟨cp, fp⟩ := row_all hPR.pbox
        have hpz := lt_of_someE hPR.pbox
        have PR : Hid _ := hPR
        clear hPR
        go_upto_region 6 with fail
        have HOW : Hid _ := PR.out.own
        rw [HL.out] at HOW
        go_region_law (first
          | (refine step_callD (vs := #[.pointer (some ⟨rb, 0, none⟩)]) run_instr (by first | (simp [Act.eval]; done) | (simp [Act.eval, Act.put]; done)) (HIN.out _ (PR.out.rd.bg (by repeat (with_reducible first | exact Gr.refl _ | refine Gr.drew ?_ | refine Gr.drewN ?_ _ | refine Gr.alloc ?_ _)))) ?_; intro en w5 hpost5; obtain ⟨rfl, hok5, hR5, hB5⟩ := hpost5; refine ⟨_, rfl, ?_⟩; have cp5 := (row_all (hB5.row PR.out.pbox (by omega))).1; have z5 : wr.heap.size ≤ w5.heap.size := hB5.size; have nz5 : ¬ pv = w5.heap.size := (by omega); have nz6 : pv < w5.heap.size := (by omega))
          | (refine step_append_lies _ (by rfl) _ _ _ (by rfl) (pv + 1) 48 i0 _ 2 16 Tryd.underlying22 hi hi1 hi2 hi3 rfl (by decide) (.slice va k vcap) k (insC Tk.1) (by rfl) (owns_gr (w := w5) (owns_bg (rb := rb) (World.ownsRow.drew HOW.out) (by omega) hB5) (by repeat (with_reducible first | exact Gr.refl _ | refine Gr.drew ?_ | refine Gr.drewN ?_ _ | refine Gr.alloc ?_ _))) ⟨w5.heap.size, 0, none⟩ 1 1 [.int .i64 Ik.1.op, .int .i64 Ik.1.n] (by rfl) (by rfl) (World.news_of_block (cs := #[.int .i64 Ik.1.op, .int .i64 Ik.1.n]) (t := 48) (fr := (0, 0)) (heapA w5 _)) (by simp [Value.oneCell']) (by omega) (by unfold maxLen; omega) (by omega) (by simp; omega) (w5.heap.size + 1) (by simp) ?_; intro g6 cap6 w6 hown6 hgrow6 hat6 hlt6; have kp6 := (hgrow6.block pv (by simp; omega) (fun e => by have := (owns_lt HOW.out e.symm).1; omega)).trans ((Below.heap_alloc _ _ _ (by omega)).trans (hB5.row PR.out.pbox (by omega))); have c6 := (row_all kp6).1; have f6 := (row_all kp6).2))
        all_goals
          have Hend : Hid _ := PR.out.step hrb hpw (w2 := w5) (Bg.ofNew hB5 (Gr.drew (Gr.refl _))) hR5 hok5 ((Gr.refl _).alloc _) hgrow6 (by rw [HL.out]; exact hown6)
          clear hown6 hgrow6 hat6 kp6 c6 f6 cp5 hR5 hB5 cp fp
          go_wp2
          refine ⟨⟨k + 1, .slice (some ⟨g6, 0, none⟩) (k + 1) cap6, by omega, by go_num, ?_⟩, by simp [intOf]; omega⟩
          rw [HT.out]
          exact Hend.out
      · have hk' : k = n3 := by omega
        subst hk'
        obtain ⟨N4, hN4⟩ : ∃ T, Dec.times Dec.instruction k l3 e3 = T := ⟨_, rfl⟩
        have HP4 : Hid _ := HP.out N4 hN4
        rw [hN4] at hPR
        clear hN4 HT HL HP
        obtain ⟨code, l4, e4⟩ := N4
        have H5 : Hid _ := fun W' (h : Rd True W W' rb l4 e4) => numbers_any 2000 W W' rb l4 e4 h (by decide) (by decide)
        obtain ⟨N5, hN5⟩ : ∃ N, Dec.numbers 2000 l4 e4 = N := ⟨_, rfl⟩
        have HP5 : Hid _ := HP4.out N5 hN5
        rw [hN5] at H5
        obtain ⟨pool, l5, e5⟩ := N5
        have H6 : Hid _ := fun W' (h : Rd True W W' rb l5 e5) => count_any 2000 W W' rb l5 e5 h
        have hb6 := Dec.count_bd (most := 2000) (by decide) (l := l5) (e := e5)
        obtain ⟨N6, hN6⟩ : ∃ N, Dec.count 2000 l5 e5 = N := ⟨_, rfl⟩
        have HP6 : Hid _ := HP5.out N6 hN6
        rw [hN6] at H6 hb6
        obtain ⟨z6, l6, e6⟩ := N6
        simp only at hb6
        obtain ⟨n6, rfl⟩ : ∃ n : Nat, z6 = n := ⟨z6.toNat, by omega⟩
        simp only [Int.toNat_natCast] at HP6
        clear hN5 hN6 HP4 HP5
        obtain ⟨va, vcap, hv⟩ := owns_formK hPR.own
        simp only at hv
        subst hv
        have hpz := lt_of_someE hPR.pbox
        have PR : Hid _ := hPR
        clear hPR
        go_upto_region 9 with (go_at_call 36; refine (H5.out _ PR.out.rd).mono ?_; rintro en w5 ⟨⟨a5, cap5, rfl, hc5, hz5⟩, hw5, hR5, hB5⟩; obtain ⟨cx5, fx5⟩ := row_all (hB5.row PR.out.pbox (by omega)))
        obtain ⟨X5, hX5⟩ : ∃ X, X = w5.setCell ⟨pv, 1, none⟩ (.slice a5 pool.length cap5) := ⟨_, rfl⟩
        have kr5 : Hid (X5.heap[w.heap.size]? = some (.cells #[.slice none 0 0, .slice none 0 0, .slice none 0 0] 26)) := by show X5.heap[w.heap.size]? = _; rw [hX5]; exact (heap_setCell_other _ ⟨pv, 1, none⟩ w.heap.size _ (by simp; omega)).trans (hB5.row PR.out.rbox (by omega))
        have kp5 : Hid (X5.heap[pv]? = some (.cells #[.slice va code.length vcap, .slice a5 pool.length cap5, .slice none 0 0] 26)) := by show X5.heap[pv]? = _; rw [hX5]; exact five_set (hB5.row PR.out.pbox (by omega)) 1 _
        have R5 : Rd True W X5 rb l5 e5 := by rw [hX5]; exact hR5.set (p := ⟨pv, 1, none⟩) (by simp; omega) _
        have bg5 : Bg rb w X5 := by rw [hX5]; exact (PR.out.bg.trans hB5).setNew (p := ⟨pv, 1, none⟩) (by simp; omega) _
        have oC5 : Hid (X5.ownsRow (pv + 1) 48 2 (.slice va code.length vcap) code.length (insC code)) := by show X5.ownsRow _ _ _ _ _ _; rw [hX5]; exact owns_set (owns_bg PR.out.own (by omega) hB5) (by simp) _
        have oP5 : Hid (X5.ownsRow (pv + 1) 3 1 (.slice a5 pool.length cap5) pool.length (ints pool)) := by show X5.ownsRow _ _ _ _ _ _; rw [hX5]; exact owns_set (owns_up hz5 (by omega)) (by simp) _
        have hcok := PR.out.ok
        simp only at hcok
        have HOK : Hid _ := And.intro hcok hw5
        rw [← hX5]
        clear hX5 PR hcok hw5 hR5 hB5 hz5 cx5 fx5 H5
        go_wp2_with (go_at_call 34; refine (H6.out _ R5).mono ?_; rintro en w6 ⟨rfl, hR6, hB6⟩)
        have B0 : PrB W w w6 rb pv (.slice va code.length vcap) (.slice a5 pool.length cap5) (.slice none 0 0) code pool [] ([], l6, e6) := ⟨hR6, bg5.trans hB6, hB6.row kr5.out (by omega), hB6.row kp5.out (by omega), owns_bg oC5.out (by omega) hB6, owns_bg oP5.out (by omega) hB6, ⟨rfl, Or.inl ⟨rfl, rfl⟩⟩, rfl, fun y hy => by cases hy⟩
        clear hR6 hB6 kr5 kp5 oC5 oP5 R5 bg5 H6
        go_loopw [27] (fun i wx => ∃ (k : Nat) (v : Value) (ys : List Ans), k ≤ n6 ∧ i = .int .i64 k ∧ PrB W w wx rb pv (.slice va code.length vcap) (.slice a5 pool.length cap5) v code pool ys (Dec.times Dec.answer k l6 e6)) (fun i _ => n6 - (intOf i).toNat)
        case atStart => exact ⟨0, _, _, Nat.zero_le _, rfl, B0⟩
        case round =>
          obtain ⟨k2, v2, ys, hk2, rfl, hPB⟩ := hrel
          clear B0
          have HT : Hid _ := Dec.times_snoc Dec.answer k2 l6 e6
          have HL : Hid (ys.length = k2) := by
            have h1 := congrArg List.length hPB.vals
            rw [List.length_map, Dec.times_len] at h1
            exact h1
          by_cases hlt : k2 < n6
          · obtain ⟨Tk, hTk⟩ : ∃ T, T = Dec.times Dec.answer k2 l6 e6 := ⟨_, rfl⟩
            rw [← hTk] at hPB HT
            clear hTk
            have HIN : Hid _ := fun W' (h : Rd True W W' rb Tk.2.1 Tk.2.2) => answer_any W W' rb Tk.2.1 Tk.2.2 h
            obtain ⟨Ik, hIk⟩ : ∃ N, N = Dec.answer Tk.2.1 Tk.2.2 := ⟨_, rfl⟩
            rw [← hIk] at HT HIN
            clear hIk
            obtain ⟨vb, vbcap, hv⟩ := owns_formK hPB.own
            rw [HL.out] at hv
            subst hv
            obtain ⟨cp, fp⟩ := row_all hPB.pbox
            have hpz2 := lt_of_someE hPB.pbox
            have PB : Hid _ := hPB
            have HOW : Hid _ := PB.out.own
            rw [HL.out] at HOW
            clear hPB
            go_upto_region 11 with fail
            go_region_law (first
              | (refine step_callD (vs := #[.pointer (some ⟨rb, 0, none⟩)]) run_answ (by first | (simp [Act.eval]; done) | (simp [Act.eval, Act.put]; done)) (HIN.out _ (PB.out.rd.bg (by repeat (with_reducible first | exact Gr.refl _ | refine Gr.drew ?_ | refine Gr.drewN ?_ _ | refine Gr.alloc ?_ _)))) ?_; intro en w7 hpost7; obtain ⟨⟨⟨yo, ysv, yn, ya, yc, yz, yj⟩, rfl, hy7, hyv7, hyo7⟩, hR7, hB7⟩ := hpost7; refine ⟨_, rfl, ?_⟩; simp only [Ans.cells]; have cp7 := (row_all (hB7.row PB.out.pbox (by omega))).1; have z7 := hB7.size; have nz7 : ¬ pv = w7.heap.size := (by simp at z7; omega); have nz8 : pv < w7.heap.size := (by simp at z7; omega))
              | (refine step_append_lies _ (by rfl) _ _ _ (by rfl) (pv + 1) 44 j0 _ 5 64 Tryd.underlying24 hj hj1 hj2 hj3 rfl (by decide) (.slice vb k2 vbcap) k2 (ansC ys) (by rfl) (owns_gr (w := w7) (owns_bg (rb := rb) (World.ownsRow.drew HOW.out) (by omega) hB7) (by repeat (with_reducible first | exact Gr.refl _ | refine Gr.drew ?_ | refine Gr.drewN ?_ _ | refine Gr.alloc ?_ _))) ⟨w7.heap.size, 0, none⟩ 1 1 [.int .i64 yo, .bool ysv, .string yn, .slice ya yz.length yc, .int .i64 yj] (by rfl) (by rfl) (World.news_of_block (cs := #[.int .i64 yo, .bool ysv, .string yn, .slice ya yz.length yc, .int .i64 yj]) (t := 44) (fr := (0, 0)) (heapA w7 _)) (by simp [Value.oneCell']) (by omega) (by unfold maxLen; omega) (by omega) (by simp; omega) (w7.heap.size + 1) (by simp) ?_; intro g8 cap8 w8 hown8 hgrow8 hat8 hlt8; have kp8 := (hgrow8.block pv (by simp; omega) (fun e => by have := (owns_lt HOW.out e.symm).1; omega)).trans ((Below.heap_alloc _ _ _ (by omega)).trans (hB7.row PB.out.pbox (by omega))); have c8 := (row_all kp8).1; have f8 := (row_all kp8).2))
            all_goals
              have Hend : Hid _ := PB.out.step hrb hpw (w2 := w7) (y := ⟨yo, ysv, yn, ya, yc, yz, yj⟩) (R := Ik) (Bg.ofNew hB7 (Gr.drew (Gr.refl _))) hR7 hy7 hyo7 hyv7 ((Gr.refl _).alloc _) hgrow8 (by rw [HL.out]; exact hown8)
              clear hown8 hgrow8 hat8 kp8 c8 f8 cp7 hR7 hB7 cp fp hy7 hyo7 hyv7
              go_wp2
              refine ⟨⟨k2 + 1, .slice (some ⟨g8, 0, none⟩) (k2 + 1) cap8, ys ++ [⟨yo, ysv, yn, ya, yc, yz, yj⟩], by omega, by go_num, ?_⟩, by simp [intOf]; omega⟩
              rw [HT.out]
              exact Hend.out
          · have hk2' : k2 = n6 := by omega
            obtain ⟨N7, hN7⟩ : ∃ T, Dec.times Dec.answer k2 l6 e6 = T := ⟨_, rfl⟩
            have HRR : Hid _ := HP6.out N7 (by rw [← hk2']; exact hN7)
            rw [hN7] at hPB
            clear hN7 HT HP6
            obtain ⟨avs, l7, e7⟩ := N7
            obtain ⟨vb, vbcap, hv⟩ := owns_formK hPB.own
            subst hv
            have hpw1 : w.heap.size < pv + 1 := by omega
            have HV : Hid _ := hPB.vals
            obtain ⟨ra, rcap, hrb1, hrb2, hrb3, hrb4, _⟩ := hPB.rd.ex
            obtain ⟨cb, fb⟩ := row_all hrb1
            simp only at HRR cb HV
            have PB : Hid _ := hPB
            clear hPB hrb1
            by_cases hl7 : 0 < l7.length
            · rw [if_pos hl7] at HRR
              have g7 : decide (0 < ((l7.length : Nat) : Int)) = true := by rw [decide_eq_true_iff]; omega
              go_upto_region 15 with (go_at_call 33; refine (fail_any True W _ rb _ _ 4 PB.out.rd (by decide)).mono ?_; rintro en w9 ⟨rfl, hR9, hB9⟩)
              have KR : Hid _ := hB9.row PB.out.rbox (by omega)
              have KP : Hid _ := hB9.row PB.out.pbox (by omega)
              have OC : Hid _ := fun (_ : Unit) => owns_bg PB.out.ownC (by omega) hB9
              have OP : Hid _ := fun (_ : Unit) => owns_bg PB.out.ownP (by omega) hB9
              have OA : Hid _ := fun (_ : Unit) => owns_bg PB.out.own (by omega) hB9
              have HA : Hid _ := fun y hy => And.intro (PB.out.ok y hy).1 (owns_bg (PB.out.ok y hy).2 (by omega) hB9)
              have bg9 := PB.out.bg.trans hB9
              clear PB hB9 cb fb
              obtain ⟨cr, fr⟩ := row_all KR.out
              obtain ⟨cq, fq⟩ := row_all KP.out
              have RD : Hid _ := And.intro hR9 bg9
              clear hR9 bg9
              go_wp2
              refine bodyPost_ret (v := .agg #[.slice va code.length vcap, .slice a5 pool.length cap5, .slice vb ys.length vbcap]) (by simp [results, Tryd.results19, go_sem, cr]) rfl ?_
              rw [HRR.out]
              refine ⟨⟨⟨va, vcap, code, a5, cap5, pool, vb, vbcap, ys⟩, rfl, prgOk_of (B := pv + 1) ?_ ?_ ?_ HOK.out.1 HOK.out.2 (fun y hy => ansOk_own (HA.out y hy).1 (B := pv + 1) ?_), rfl, rfl, HV.out, ⟨owns_new (OC.out ()) (by omega), owns_new (OP.out ()) (by omega), owns_new (OA.out ()) (by omega), fun y hy => owns_new (HA.out y hy).2 (by omega)⟩⟩, ?_, ?_⟩
              · repeat (with_reducible first | exact OC.out () | refine owns_set ?_ (by exact hpw1) _)
              · repeat (with_reducible first | exact OP.out () | refine owns_set ?_ (by exact hpw1) _)
              · repeat (with_reducible first | exact OA.out () | refine owns_set ?_ (by exact hpw1) _)
              · have := (HA.out y hy).2
                repeat (with_reducible first | exact this | refine owns_set ?_ (by exact hpw1) _)
              · repeat (with_reducible first | exact RD.out.1 | refine Rd.set ?_ (by exact hrb) _)
              · repeat (with_reducible first | exact RD.out.2 | refine Bg.setNew ?_ (by exact Nat.le_refl _) _)
            · rw [if_neg hl7] at HRR
              have g7 : decide (0 < ((l7.length : Nat) : Int)) = false := by rw [decide_eq_false_iff_not]; omega
              have KR : Hid _ := PB.out.rbox
              have KP : Hid _ := PB.out.pbox
              have OC : Hid _ := fun (_ : Unit) => PB.out.ownC
              have OP : Hid _ := fun (_ : Unit) => PB.out.ownP
              have OA : Hid _ := fun (_ : Unit) => PB.out.own
              have HA : Hid _ := fun y hy => PB.out.ok y hy
              have hR9 := PB.out.rd
              have bg9 := PB.out.bg
              clear PB
              go_upto_region 15 with fail
              clear cb fb
              obtain ⟨cr, fr⟩ := row_all KR.out
              obtain ⟨cq, fq⟩ := row_all KP.out
              have RD : Hid _ := And.intro hR9 bg9
              clear hR9 bg9
              go_wp2
              refine bodyPost_ret (v := .agg #[.slice va code.length vcap, .slice a5 pool.length cap5, .slice vb ys.length vbcap]) (by simp [results, Tryd.results19, go_sem, cr]) rfl ?_
              rw [HRR.out]
              refine ⟨⟨⟨va, vcap, code, a5, cap5, pool, vb, vbcap, ys⟩, rfl, prgOk_of (B := pv + 1) ?_ ?_ ?_ HOK.out.1 HOK.out.2 (fun y hy => ansOk_own (HA.out y hy).1 (B := pv + 1) ?_), rfl, rfl, HV.out, ⟨owns_new (OC.out ()) (by omega), owns_new (OP.out ()) (by omega), owns_new (OA.out ()) (by omega), fun y hy => owns_new (HA.out y hy).2 (by omega)⟩⟩, ?_, ?_⟩
              · repeat (with_reducible first | exact OC.out () | refine owns_set ?_ (by exact hpw1) _)
              · repeat (with_reducible first | exact OP.out () | refine owns_set ?_ (by exact hpw1) _)
              · repeat (with_reducible first | exact OA.out () | refine owns_set ?_ (by exact hpw1) _)
              · have := (HA.out y hy).2
                repeat (with_reducible first | exact this | refine owns_set ?_ (by exact hpw1) _)
              · repeat (with_reducible first | exact RD.out.1 | refine Rd.set ?_ (by exact hrb) _)
              · repeat (with_reducible first | exact RD.out.2 | refine Bg.setNew ?_ (by exact Nat.le_refl _) _)
  · rw [if_neg hz1] at he2
    subst he2
    have hst := head_eq H1m.out hz1
    clear hz1
    go_enter Tryd.func19, Tryd.ntmps19
    go_upto_region 2 with (go_at_call 32; refine (H1.out _ (HR0.out.bg (by exact (Gr.refl _).alloc _))).mono ?_; rintro en w1 ⟨⟨a1, cap1, rfl, hby1⟩, hR1, hB1⟩; have hcv1 := run_bstA (cap := cap1) hby1 hR1.gr H1m.out)
    go_upto_region 3 with (go_at_call 33; refine (fail_any True W _ rb _ _ 4 hR1 (by decide)).mono ?_; rintro en w2 ⟨rfl, R2, hB2⟩)
    have bg2 : Bg rb w w2 := (hB1.ofNew ((Gr.refl _).alloc _)).trans hB2
    have kr := hB2.row (hB1.row (heapA w (Obj.cells #[.slice none 0 0, .slice none 0 0, .slice none 0 0] 26)) (by omega)) (by omega)
    clear hcv1 hby1 hR1 hB1 hB2 H1 H1m HR0
    obtain ⟨W3, hW3⟩ : ∃ W3, W3 = w2.alloc (Obj.cells #[.slice none 0 0, .slice none 0 0, .slice none 0 0] 26) := ⟨_, rfl⟩
    have g3 : Gr w2 W3 := by rw [hW3]; exact (Gr.refl _).alloc _
    obtain ⟨pv, hpv⟩ : ∃ pv, pv = w2.heap.size := ⟨_, rfl⟩
    have kp : W3.heap[pv]? = some (.cells #[.slice none 0 0, .slice none 0 0, .slice none 0 0] 26) := by rw [hW3, hpv]; exact heapA _ _
    have hpw : w.heap.size < pv := by rw [hpv]; exact lt_of_someE kr
    have kr3 := (g3.block _ (lt_of_someE kr)).trans kr
    have R3 := R2.bg g3
    have bg3 := bg2.gr0 g3
    go_upto_region 4 with fail
    rw [← hpv, ← hW3]
    clear hW3 g3 kr R2 bg2 hpv
    have KR3 : Hid _ := kr3
    have KP3 : Hid _ := kp
    clear kr3 kp
    go_wp2_with (go_at_call 34; refine (H3.out _ R3).mono ?_; rintro en w4 ⟨rfl, hR4, hB4⟩)
    have A0 : PrA W w w4 rb pv (.slice none 0 0) ([], l3, e3) := ⟨hR4, bg3.trans hB4, hB4.row KR3.out (by omega), hB4.row KP3.out (by omega), ⟨rfl, Or.inl ⟨rfl, rfl⟩⟩, fun x hx => by cases hx⟩
    clear hR4 hB4 KR3 KP3 R3 bg3 H3
    go_loopw [12] (fun i wr => ∃ (k : Nat) (v : Value), k ≤ n3 ∧ i = .int .i64 k ∧ PrA W w wr rb pv v (Dec.times Dec.instruction k l3 e3)) (fun i _ => n3 - (intOf i).toNat)
    case atStart => exact ⟨0, _, Nat.zero_le _, rfl, A0⟩
    case round =>
      obtain ⟨k, v, hk, rfl, hPR⟩ := hrel
      clear A0
      have HT : Hid _ := Dec.times_snoc Dec.instruction k l3 e3
      have HL : Hid _ := Dec.times_len Dec.instruction k l3 e3
      by_cases hlt : k < n3
      · obtain ⟨Tk, hTk⟩ : ∃ T, T = Dec.times Dec.instruction k l3 e3 := ⟨_, rfl⟩
        rw [← hTk] at hPR HT HL
        clear hTk
        have HIN : Hid _ := fun W' (h : Rd True W W' rb Tk.2.1 Tk.2.2) => instruction_any W W' rb Tk.2.1 Tk.2.2 h hT
        obtain ⟨Ik, hIk⟩ : ∃ N, N = Dec.instruction Tk.2.1 Tk.2.2 := ⟨_, rfl⟩
        rw [← hIk] at HT HIN
        clear hIk
        obtain ⟨va, vcap, hv⟩ := owns_formK hPR.own
        rw [HL.out] at hv
        subst hv
        obtain ⟨cp, fp⟩ := row_all hPR.pbox
        have hpz := lt_of_someE hPR.pbox
        have PR : Hid _ := hPR
        clear hPR
        go_upto_region 6 with fail
        have HOW : Hid _ := PR.out.own
        rw [HL.out] at HOW
        go_region_law (first
          | (refine step_callD (vs := #[.pointer (some ⟨rb, 0, none⟩)]) run_instr (by first | (simp [Act.eval]; done) | (simp [Act.eval, Act.put]; done)) (HIN.out _ (PR.out.rd.bg (by repeat (with_reducible first | exact Gr.refl _ | refine Gr.drew ?_ | refine Gr.drewN ?_ _ | refine Gr.alloc ?_ _)))) ?_; intro en w5 hpost5; obtain ⟨rfl, hok5, hR5, hB5⟩ := hpost5; refine ⟨_, rfl, ?_⟩; have cp5 := (row_all (hB5.row PR.out.pbox (by omega))).1; have z5 : wr.heap.size ≤ w5.heap.size := hB5.size; have nz5 : ¬ pv = w5.heap.size := (by omega); have nz6 : pv < w5.heap.size := (by omega))
          | (refine step_append_lies _ (by rfl) _ _ _ (by rfl) (pv + 1) 48 i0 _ 2 16 Tryd.underlying22 hi hi1 hi2 hi3 rfl (by decide) (.slice va k vcap) k (insC Tk.1) (by rfl) (owns_gr (w := w5) (owns_bg (rb := rb) (World.ownsRow.drew HOW.out) (by omega) hB5) (by repeat (with_reducible first | exact Gr.refl _ | refine Gr.drew ?_ | refine Gr.drewN ?_ _ | refine Gr.alloc ?_ _))) ⟨w5.heap.size, 0, none⟩ 1 1 [.int .i64 Ik.1.op, .int .i64 Ik.1.n] (by rfl) (by rfl) (World.news_of_block (cs := #[.int .i64 Ik.1.op, .int .i64 Ik.1.n]) (t := 48) (fr := (0, 0)) (heapA w5 _)) (by simp [Value.oneCell']) (by omega) (by unfold maxLen; omega) (by omega) (by simp; omega) (w5.heap.size + 1) (by simp) ?_; intro g6 cap6 w6 hown6 hgrow6 hat6 hlt6; have kp6 := (hgrow6.block pv (by simp; omega) (fun e => by have := (owns_lt HOW.out e.symm).1; omega)).trans ((Below.heap_alloc _ _ _ (by omega)).trans (hB5.row PR.out.pbox (by omega))); have c6 := (row_all kp6).1; have f6 := (row_all kp6).2))
        all_goals
          have Hend : Hid _ := PR.out.step hrb hpw (w2 := w5) (Bg.ofNew hB5 (Gr.drew (Gr.refl _))) hR5 hok5 ((Gr.refl _).alloc _) hgrow6 (by rw [HL.out]; exact hown6)
          clear hown6 hgrow6 hat6 kp6 c6 f6 cp5 hR5 hB5 cp fp
          go_wp2
          refine ⟨⟨k + 1, .slice (some ⟨g6, 0, none⟩) (k + 1) cap6, by omega, by go_num, ?_⟩, by simp [intOf]; omega⟩
          rw [HT.out]
          exact Hend.out
      · have hk' : k = n3 := by omega
        subst hk'
        obtain ⟨N4, hN4⟩ : ∃ T, Dec.times Dec.instruction k l3 e3 = T := ⟨_, rfl⟩
        have HP4 : Hid _ := HP.out N4 hN4
        rw [hN4] at hPR
        clear hN4 HT HL HP
        obtain ⟨code, l4, e4⟩ := N4
        have H5 : Hid _ := fun W' (h : Rd True W W' rb l4 e4) => numbers_any 2000 W W' rb l4 e4 h (by decide) (by decide)
        obtain ⟨N5, hN5⟩ : ∃ N, Dec.numbers 2000 l4 e4 = N := ⟨_, rfl⟩
        have HP5 : Hid _ := HP4.out N5 hN5
        rw [hN5] at H5
        obtain ⟨pool, l5, e5⟩ := N5
        have H6 : Hid _ := fun W' (h : Rd True W W' rb l5 e5) => count_any 2000 W W' rb l5 e5 h
        have hb6 := Dec.count_bd (most := 2000) (by decide) (l := l5) (e := e5)
        obtain ⟨N6, hN6⟩ : ∃ N, Dec.count 2000 l5 e5 = N := ⟨_, rfl⟩
        have HP6 : Hid _ := HP5.out N6 hN6
        rw [hN6] at H6 hb6
        obtain ⟨z6, l6, e6⟩ := N6
        simp only at hb6
        obtain ⟨n6, rfl⟩ : ∃ n : Nat, z6 = n := ⟨z6.toNat, by omega⟩
        simp only [Int.toNat_natCast] at HP6
        clear hN5 hN6 HP4 HP5
        obtain ⟨va, vcap, hv⟩ := owns_formK hPR.own
        simp only at hv
        subst hv
        have hpz := lt_of_someE hPR.pbox
        have PR : Hid _ := hPR
        clear hPR
        go_upto_region 9 with (go_at_call 36; refine (H5.out _ PR.out.rd).mono ?_; rintro en w5 ⟨⟨a5, cap5, rfl, hc5, hz5⟩, hw5, hR5, hB5⟩; obtain ⟨cx5, fx5⟩ := row_all (hB5.row PR.out.pbox (by omega)))
        obtain ⟨X5, hX5⟩ : ∃ X, X = w5.setCell ⟨pv, 1, none⟩ (.slice a5 pool.length cap5) := ⟨_, rfl⟩
        have kr5 : Hid (X5.heap[w.heap.size]? = some (.cells #[.slice none 0 0, .slice none 0 0, .slice none 0 0] 26)) := by show X5.heap[w.heap.size]? = _; rw [hX5]; exact (heap_setCell_other _ ⟨pv, 1, none⟩ w.heap.size _ (by simp; omega)).trans (hB5.row PR.out.rbox (by omega))
        have kp5 : Hid (X5.heap[pv]? = some (.cells #[.slice va code.length vcap, .slice a5 pool.length cap5, .slice none 0 0] 26)) := by show X5.heap[pv]? = _; rw [hX5]; exact five_set (hB5.row PR.out.pbox (by omega)) 1 _
        have R5 : Rd True W X5 rb l5 e5 := by rw [hX5]; exact hR5.set (p := ⟨pv, 1, none⟩) (by simp; omega) _
        have bg5 : Bg rb w X5 := by rw [hX5]; exact (PR.out.bg.trans hB5).setNew (p := ⟨pv, 1, none⟩) (by simp; omega) _
        have oC5 : Hid (X5.ownsRow (pv + 1) 48 2 (.slice va code.length vcap) code.length (insC code)) := by show X5.ownsRow _ _ _ _ _ _; rw [hX5]; exact owns_set (owns_bg PR.out.own (by omega) hB5) (by simp) _
        have oP5 : Hid (X5.ownsRow (pv + 1) 3 1 (.slice a5 pool.length cap5) pool.length (ints pool)) := by show X5.ownsRow _ _ _ _ _ _; rw [hX5]; exact owns_set (owns_up hz5 (by omega)) (by simp) _
        have hcok := PR.out.ok
        simp only at hcok
        have HOK : Hid _ := And.intro hcok hw5
        rw [← hX5]
        clear hX5 PR hcok hw5 hR5 hB5 hz5 cx5 fx5 H5
        go_wp2_with (go_at_call 34; refine (H6.out _ R5).mono ?_; rintro en w6 ⟨rfl, hR6, hB6⟩)
        have B0 : PrB W w w6 rb pv (.slice va code.length vcap) (.slice a5 pool.length cap5) (.slice none 0 0) code pool [] ([], l6, e6) := ⟨hR6, bg5.trans hB6, hB6.row kr5.out (by omega), hB6.row kp5.out (by omega), owns_bg oC5.out (by omega) hB6, owns_bg oP5.out (by omega) hB6, ⟨rfl, Or.inl ⟨rfl, rfl⟩⟩, rfl, fun y hy => by cases hy⟩
        clear hR6 hB6 kr5 kp5 oC5 oP5 R5 bg5 H6
        go_loopw [27] (fun i wx => ∃ (k : Nat) (v : Value) (ys : List Ans), k ≤ n6 ∧ i = .int .i64 k ∧ PrB W w wx rb pv (.slice va code.length vcap) (.slice a5 pool.length cap5) v code pool ys (Dec.times Dec.answer k l6 e6)) (fun i _ => n6 - (intOf i).toNat)
        case atStart => exact ⟨0, _, _, Nat.zero_le _, rfl, B0⟩
        case round =>
          obtain ⟨k2, v2, ys, hk2, rfl, hPB⟩ := hrel
          clear B0
          have HT : Hid _ := Dec.times_snoc Dec.answer k2 l6 e6
          have HL : Hid (ys.length = k2) := by
            have h1 := congrArg List.length hPB.vals
            rw [List.length_map, Dec.times_len] at h1
            exact h1
          by_cases hlt : k2 < n6
          · obtain ⟨Tk, hTk⟩ : ∃ T, T = Dec.times Dec.answer k2 l6 e6 := ⟨_, rfl⟩
            rw [← hTk] at hPB HT
            clear hTk
            have HIN : Hid _ := fun W' (h : Rd True W W' rb Tk.2.1 Tk.2.2) => answer_any W W' rb Tk.2.1 Tk.2.2 h
            obtain ⟨Ik, hIk⟩ : ∃ N, N = Dec.answer Tk.2.1 Tk.2.2 := ⟨_, rfl⟩
            rw [← hIk] at HT HIN
            clear hIk
            obtain ⟨vb, vbcap, hv⟩ := owns_formK hPB.own
            rw [HL.out] at hv
            subst hv
            obtain ⟨cp, fp⟩ := row_all hPB.pbox
            have hpz2 := lt_of_someE hPB.pbox
            have PB : Hid _ := hPB
            have HOW : Hid _ := PB.out.own
            rw [HL.out] at HOW
            clear hPB
            go_upto_region 11 with fail
            go_region_law (first
              | (refine step_callD (vs := #[.pointer (some ⟨rb, 0, none⟩)]) run_answ (by first | (simp [Act.eval]; done) | (simp [Act.eval, Act.put]; done)) (HIN.out _ (PB.out.rd.bg (by repeat (with_reducible first | exact Gr.refl _ | refine Gr.drew ?_ | refine Gr.drewN ?_ _ | refine Gr.alloc ?_ _)))) ?_; intro en w7 hpost7; obtain ⟨⟨⟨yo, ysv, yn, ya, yc, yz, yj⟩, rfl, hy7, hyv7, hyo7⟩, hR7, hB7⟩ := hpost7; refine ⟨_, rfl, ?_⟩; simp only [Ans.cells]; have cp7 := (row_all (hB7.row PB.out.pbox (by omega))).1; have z7 := hB7.size; have nz7 : ¬ pv = w7.heap.size := (by simp at z7; omega); have nz8 : pv < w7.heap.size := (by simp at z7; omega))
              | (refine step_append_lies _ (by rfl) _ _ _ (by rfl) (pv + 1) 44 j0 _ 5 64 Tryd.underlying24 hj hj1 hj2 hj3 rfl (by decide) (.slice vb k2 vbcap) k2 (ansC ys) (by rfl) (owns_gr (w := w7) (owns_bg (rb := rb) (World.ownsRow.drew HOW.out) (by omega) hB7) (by repeat (with_reducible first | exact Gr.refl _ | refine Gr.drew ?_ | refine Gr.drewN ?_ _ | refine Gr.alloc ?_ _))) ⟨w7.heap.size, 0, none⟩ 1 1 [.int .i64 yo, .bool ysv, .string yn, .slice ya yz.length yc, .int .i64 yj] (by rfl) (by rfl) (World.news_of_block (cs := #[.int .i64 yo, .bool ysv, .string yn, .slice ya yz.length yc, .int .i64 yj]) (t := 44) (fr := (0, 0)) (heapA w7 _)) (by simp [Value.oneCell']) (by omega) (by unfold maxLen; omega) (by omega) (by simp; omega) (w7.heap.size + 1) (by simp) ?_; intro g8 cap8 w8 hown8 hgrow8 hat8 hlt8; have kp8 := (hgrow8.block pv (by simp; omega) (fun e => by have := (owns_lt HOW.out e.symm).1; omega)).trans ((Below.heap_alloc _ _ _ (by omega)).trans (hB7.row PB.out.pbox (by omega))); have c8 := (row_all kp8).1; have f8 := (row_all kp8).2))
            all_goals
              have Hend : Hid _ := PB.out.step hrb hpw (w2 := w7) (y := ⟨yo, ysv, yn, ya, yc, yz, yj⟩) (R := Ik) (Bg.ofNew hB7 (Gr.drew (Gr.refl _))) hR7 hy7 hyo7 hyv7 ((Gr.refl _).alloc _) hgrow8 (by rw [HL.out]; exact hown8)
              clear hown8 hgrow8 hat8 kp8 c8 f8 cp7 hR7 hB7 cp fp hy7 hyo7 hyv7
              go_wp2
              refine ⟨⟨k2 + 1, .slice (some ⟨g8, 0, none⟩) (k2 + 1) cap8, ys ++ [⟨yo, ysv, yn, ya, yc, yz, yj⟩], by omega, by go_num, ?_⟩, by simp [intOf]; omega⟩
              rw [HT.out]
              exact Hend.out
          · have hk2' : k2 = n6 := by omega
            obtain ⟨N7, hN7⟩ : ∃ T, Dec.times Dec.answer k2 l6 e6 = T := ⟨_, rfl⟩
            have HRR : Hid _ := HP6.out N7 (by rw [← hk2']; exact hN7)
            rw [hN7] at hPB
            clear hN7 HT HP6
            obtain ⟨avs, l7, e7⟩ := N7
            obtain ⟨vb, vbcap, hv⟩ := owns_formK hPB.own
            subst hv
            have hpw1 : w.heap.size < pv + 1 := by omega
            have HV : Hid _ := hPB.vals
            obtain ⟨ra, rcap, hrb1, hrb2, hrb3, hrb4, _⟩ := hPB.rd.ex
            obtain ⟨cb, fb⟩ := row_all hrb1
            simp only at HRR cb HV
            have PB : Hid _ := hPB
            clear hPB hrb1
            by_cases hl7 : 0 < l7.length
            · rw [if_pos hl7] at HRR
              have g7 : decide (0 < ((l7.length : Nat) : Int)) = true := by rw [decide_eq_true_iff]; omega
              go_upto_region 15 with (go_at_call 33; refine (fail_any True W _ rb _ _ 4 PB.out.rd (by decide)).mono ?_; rintro en w9 ⟨rfl, hR9, hB9⟩)
              have KR : Hid _ := hB9.row PB.out.rbox (by omega)
              have KP : Hid _ := hB9.row PB.out.pbox (by omega)
              have OC : Hid _ := fun (_ : Unit) => owns_bg PB.out.ownC (by omega) hB9
              have OP : Hid _ := fun (_ : Unit) => owns_bg PB.out.ownP (by omega) hB9
              have OA : Hid _ := fun (_ : Unit) => owns_bg PB.out.own (by omega) hB9
              have HA : Hid _ := fun y hy => And.intro (PB.out.ok y hy).1 (owns_bg (PB.out.ok y hy).2 (by omega) hB9)
              have bg9 := PB.out.bg.trans hB9
              clear PB hB9 cb fb
              obtain ⟨cr, fr⟩ := row_all KR.out
              obtain ⟨cq, fq⟩ := row_all KP.out
              have RD : Hid _ := And.intro hR9 bg9
              clear hR9 bg9
              go_wp2
              refine bodyPost_ret (v := .agg #[.slice va code.length vcap, .slice a5 pool.length cap5, .slice vb ys.length vbcap]) (by simp [results, Tryd.results19, go_sem, cr]) rfl ?_
              rw [HRR.out]
              refine ⟨⟨⟨va, vcap, code, a5, cap5, pool, vb, vbcap, ys⟩, rfl, prgOk_of (B := pv + 1) ?_ ?_ ?_ HOK.out.1 HOK.out.2 (fun y hy => ansOk_own (HA.out y hy).1 (B := pv + 1) ?_), rfl, rfl, HV.out, ⟨owns_new (OC.out ()) (by omega), owns_new (OP.out ()) (by omega), owns_new (OA.out ()) (by omega), fun y hy => owns_new (HA.out y hy).2 (by omega)⟩⟩, ?_, ?_⟩
              · repeat (with_reducible first | exact OC.out () | refine owns_set ?_ (by exact hpw1) _)
              · repeat (with_reducible first | exact OP.out () | refine owns_set ?_ (by exact hpw1) _)
              · repeat (with_reducible first | exact OA.out () | refine owns_set ?_ (by exact hpw1) _)
              · have := (HA.out y hy).2
                repeat (with_reducible first | exact this | refine owns_set ?_ (by exact hpw1) _)
              · repeat (with_reducible first | exact RD.out.1 | refine Rd.set ?_ (by exact hrb) _)
              · repeat (with_reducible first | exact RD.out.2 | refine Bg.setNew ?_ (by exact Nat.le_refl _) _)
            · rw [if_neg hl7] at HRR
              have g7 : decide (0 < ((l7.length : Nat) : Int)) = false := by rw [decide_eq_false_iff_not]; omega
              have KR : Hid _ := PB.out.rbox
              have KP : Hid _ := PB.out.pbox
              have OC : Hid _ := fun (_ : Unit) => PB.out.ownC
              have OP : Hid _ := fun (_ : Unit) => PB.out.ownP
              have OA : Hid _ := fun (_ : Unit) => PB.out.own
              have HA : Hid _ := fun y hy => PB.out.ok y hy
              have hR9 := PB.out.rd
              have bg9 := PB.out.bg
              clear PB
              go_upto_region 15 with fail
              clear cb fb
              obtain ⟨cr, fr⟩ := row_all KR.out
              obtain ⟨cq, fq⟩ := row_all KP.out
              have RD : Hid _ := And.intro hR9 bg9
              clear hR9 bg9
              go_wp2
              refine bodyPost_ret (v := .agg #[.slice va code.length vcap, .slice a5 pool.length cap5, .slice vb ys.length vbcap]) (by simp [results, Tryd.results19, go_sem, cr]) rfl ?_
              rw [HRR.out]
              refine ⟨⟨⟨va, vcap, code, a5, cap5, pool, vb, vbcap, ys⟩, rfl, prgOk_of (B := pv + 1) ?_ ?_ ?_ HOK.out.1 HOK.out.2 (fun y hy => ansOk_own (HA.out y hy).1 (B := pv + 1) ?_), rfl, rfl, HV.out, ⟨owns_new (OC.out ()) (by omega), owns_new (OP.out ()) (by omega), owns_new (OA.out ()) (by omega), fun y hy => owns_new (HA.out y hy).2 (by omega)⟩⟩, ?_, ?_⟩
              · repeat (with_reducible first | exact OC.out () | refine owns_set ?_ (by exact hpw1) _)
              · repeat (with_reducible first | exact OP.out () | refine owns_set ?_ (by exact hpw1) _)
              · repeat (with_reducible first | exact OA.out () | refine owns_set ?_ (by exact hpw1) _)
              · have := (HA.out y hy).2
                repeat (with_reducible first | exact this | refine owns_set ?_ (by exact hpw1) _)
              · repeat (with_reducible first | exact RD.out.1 | refine Rd.set ?_ (by exact hrb) _)
              · repeat (with_reducible first | exact RD.out.2 | refine Bg.setNew ?_ (by exact Nat.le_refl _) _)
end Go.Proofs.YtddamfnoggjkfaaDoor
