/- What a closure that tells a leaf's answer does, and what parting all numbers leaves alone. -/
import Derived.Test.YtcpmbjlhblkniaaDoorPoM
import Derived.Test.YtcpmbjlhblkniaaDoorGr
import Derived.Test.YtcpmbjlhblkniaaDoorTreE
namespace Go.Proofs.YtcpmbjlhblkniaaDoor
open Go.ChangeShapes Go.WideShapes Go.ChangeAt Go.RowKit
set_option linter.unusedVariables false
/-- Blocks below a number, and rows of cells that are neither answers nor parts nor their slices, lie as they were. -/
structure Wl (low : Nat) (w w' : World) : Prop where
  os : w'.os = w.os
  out : w'.output = w.output
  size : w.heap.size ≤ w'.heap.size
  block : ∀ b, b < low → w'.heap[b]? = w.heap[b]?
  typed : ∀ (b : Nat) (cs : Array Value) (t : TypeId), w.heap[b]? = some (.cells cs t) → t ≠ 34 → t ≠ 25 → t ≠ 147 → t ≠ 123 → w'.heap[b]? = some (.cells cs t)
theorem Wl.refl (low : Nat) (w : World) : Wl low w w := ⟨rfl, rfl, Nat.le_refl _, fun _ _ => rfl, fun _ _ _ h _ _ _ _ => h⟩
theorem Wl.trans {low : Nat} {a b c : World} (h : Wl low a b) (k : Wl low b c) : Wl low a c :=
  ⟨k.os.trans h.os, k.out.trans h.out, Nat.le_trans h.size k.size, fun x hx => (k.block x hx).trans (h.block x hx), fun x cs t hx h1 h2 h3 h4 => k.typed x cs t (h.typed x cs t hx h1 h2 h3 h4) h1 h2 h3 h4⟩
theorem Wl.ofGr {low : Nat} {w w' : World} (h : Gr w w') (hl : low ≤ w.heap.size) : Wl low w w' :=
  ⟨h.os, h.out, h.size, fun b hb => h.block b (by omega), fun b cs t hc _ _ _ _ => (h.block b (Array.getElem?_eq_some_iff.1 hc).1).trans hc⟩
/-- What a closure that tells answers leaves alone: besides, parts and their slices. -/
structure Wc (low : Nat) (w w' : World) : Prop where
  os : w'.os = w.os
  out : w'.output = w.output
  size : w.heap.size ≤ w'.heap.size
  block : ∀ b, b < low → w'.heap[b]? = w.heap[b]?
  typed : ∀ (b : Nat) (cs : Array Value) (t : TypeId), w.heap[b]? = some (.cells cs t) → t ≠ 34 → t ≠ 25 → w'.heap[b]? = some (.cells cs t)
theorem Wc.ofGr {low : Nat} {w w' : World} (h : Gr w w') (hl : low ≤ w.heap.size) : Wc low w w' :=
  ⟨h.os, h.out, h.size, fun b hb => h.block b (by omega), fun b cs t hc _ _ => (h.block b (Array.getElem?_eq_some_iff.1 hc).1).trans hc⟩
theorem Wc.wl {low : Nat} {w w' : World} (h : Wc low w w') : Wl low w w' := ⟨h.os, h.out, h.size, h.block, fun b cs t hc h1 h2 _ _ => h.typed b cs t hc h1 h2⟩
/-- Nothing but parts, and slices of such, from a number on, has been written. -/
structure Pw (low : Nat) (w w' : World) : Prop where
  os : w'.os = w.os
  out : w'.output = w.output
  size : w.heap.size ≤ w'.heap.size
  block : ∀ b, b < w.heap.size → (b < low ∨ ((∀ cs, w.heap[b]? ≠ some (.cells cs 147)) ∧ ∀ cs, w.heap[b]? ≠ some (.cells cs 123))) → w'.heap[b]? = w.heap[b]?
theorem Pw.ofGr {low : Nat} {w w' : World} (h : Gr w w') : Pw low w w' := ⟨h.os, h.out, h.size, fun b hb _ => h.block b hb⟩
theorem Pw.wl {low : Nat} {w w' : World} (h : Pw low w w') (hl : low ≤ w.heap.size) : Wl low w w' :=
  ⟨h.os, h.out, h.size, fun b hb => h.block b (by omega) (Or.inl hb), fun b cs t hc h1 h2 h3 h4 => (h.block b (Array.getElem?_eq_some_iff.1 hc).1 (Or.inr ⟨fun ds e => by rw [hc] at e; cases e; exact h3 rfl, fun ds e => by rw [hc] at e; cases e; exact h4 rfl⟩)).trans hc⟩
def minI : Int := -9223372036854775808
def maxI : Int := 9223372036854775807
/-- The parts of a list, in cells. -/
def partL (qs : List (Int × Int)) : List Value := qs.flatMap fun q => [.int .i64 q.1, .int .i64 q.2]
theorem partL_snoc (l : List (Int × Int)) (q : Int × Int) : partL (l ++ [q]) = partL l ++ [.int .i64 q.1, .int .i64 q.2] := by simp [partL]
/-- Parts as they are told: where each begins, and where its answer lies. -/
structure Says (Say : Int → Nat → Prop) (ps qs : List (Int × Int)) : Prop where
  len : qs.length = ps.length
  at_ : ∀ (j : Nat) p, ps[j]? = some p → ∃ i : Nat, qs[j]? = some (p.1, (i : Int)) ∧ Say p.2 i
theorem Says.mono {S T : Int → Nat → Prop} {ps qs : List (Int × Int)} (h : Says S ps qs) (hm : ∀ n i, S n i → T n i) : Says T ps qs :=
  ⟨h.len, fun j p hp => by
    obtain ⟨i, h1, h2⟩ := h.at_ j p hp
    exact ⟨i, h1, hm _ _ h2⟩⟩
theorem Says.one {S : Int → Nat → Prop} {f a : Int} {i : Nat} (h : S a i) : Says S [(f, a)] [(f, (i : Int))] :=
  ⟨rfl, fun j p hp => by
    match j with
    | 0 => simp at hp; subst hp; exact ⟨i, rfl, h⟩
    | j + 1 => simp at hp⟩
theorem Says.app {S : Int → Nat → Prop} {ps qs ps' qs' : List (Int × Int)} (h : Says S ps qs) (k : Says S ps' qs') : Says S (ps ++ ps') (qs ++ qs') :=
  ⟨by simp [h.len, k.len], fun j p hp => by
    rcases Nat.lt_or_ge j ps.length with g | g
    · rw [List.getElem?_append_left g] at hp
      rw [List.getElem?_append_left (by rw [h.len]; exact g)]
      exact h.at_ j p hp
    · rw [List.getElem?_append_right g] at hp
      rw [List.getElem?_append_right (by rw [h.len]; exact g), h.len]
      exact k.at_ _ p hp⟩
theorem Says.tell {S : Int → Nat → Prop} {ps qs : List (Int × Int)} (h : Says S ps qs) (h0 : ps ≠ []) (t : Int) : ∃ i : Nat, lastA qs t = i ∧ S (lastA ps t) i := by
  have key : ∀ (p q : List (Int × Int)), q.length = p.length → (∀ (j : Nat) x, p[j]? = some x → ∃ i : Nat, q[j]? = some (x.1, (i : Int)) ∧ S x.2 i) → ∀ (d e : Int), (∃ i : Nat, e = i ∧ S d i) → ∃ i : Nat, lastG e q t = i ∧ S (lastG d p t) i := by
    intro p
    induction p with
    | nil =>
      intro q hq _ d e hd
      cases q with
      | nil => exact hd
      | cons _ _ => simp at hq
    | cons x p ih =>
      intro q hq hs d e hd
      cases q with
      | nil => simp at hq
      | cons y q =>
        obtain ⟨i, h1, h2⟩ := hs 0 x rfl
        simp at h1
        subst h1
        rw [lastG_cons, lastG_cons]
        refine ih q (by simpa using hq) (fun j z hz => hs (j + 1) z hz) _ _ ?_
        by_cases g : x.1 ≤ t
        · rw [if_pos g, if_pos g]; exact ⟨i, rfl, h2⟩
        · rw [if_neg g, if_neg g]; exact hd
  cases ps with
  | nil => exact absurd rfl h0
  | cons x p =>
    cases qs with
    | nil => have := h.len; simp at this
    | cons y q =>
      obtain ⟨i, h1, h2⟩ := h.at_ 0 x rfl
      simp at h1
      subst h1
      exact key p q (by simpa using h.len) (fun j z hz => h.at_ (j + 1) z hz) _ _ ⟨i, rfl, h2⟩
theorem Says.rise {S : Int → Nat → Prop} {ps qs : List (Int × Int)} (h : Says S ps qs) (hr : ps.Pairwise (fun a b => a.1 < b.1)) : qs.Pairwise (fun a b => a.1 < b.1) := by
  rw [List.pairwise_iff_getElem] at hr ⊢
  intro i j hi hj hij
  have hl := h.len
  obtain ⟨a, ha, _⟩ := h.at_ i _ (List.getElem?_eq_getElem (by omega))
  obtain ⟨b, hb, _⟩ := h.at_ j _ (List.getElem?_eq_getElem (by omega))
  have e1 : qs[i] = _ := Option.some.inj ((List.getElem?_eq_getElem hi).symm.trans ha)
  have e2 : qs[j] = _ := Option.some.inj ((List.getElem?_eq_getElem hj).symm.trans hb)
  rw [e1, e2]
  exact hr i j (by omega) (by omega) hij
theorem mu_ltD {nodes : List Tre.Nod} (h : Down nodes) {i j : Nat} {a b l m : Int} {nd : Tre.Nod} (hi : nodes[i]? = some ⟨false, a, b, l, m⟩) (hj : nodes[j]? = some nd) (hl : (j : Int) = l ∨ (j : Int) = m) : muN nd < muN ⟨false, a, b, l, m⟩ := by
  obtain ⟨leaf, a', b', l', m'⟩ := nd
  have h1 := h.less i _ hi rfl
  simp only at h1
  have e : muN ⟨false, a, b, l, m⟩ = (max l m).toNat + 1 := rfl
  rw [e]
  cases leaf with
  | true => have : muN ⟨true, a', b', l', m'⟩ = 0 := rfl; omega
  | false =>
    have h2 := h.less j _ hj rfl
    simp only at h2
    have : muN ⟨false, a', b', l', m'⟩ = (max l' m').toNat + 1 := rfl
    omega
theorem wk_step {nodes : List Tre.Nod} (hD : Down nodes) {wr w : World} {T : TypeId} {k j i : Nat} {a bo ls m f l : Int} {x' : Tre.Nod} {P : List (Int × Int)} (hki : k ≤ i) (hk : nodes[k]? = some ⟨false, a, bo, ls, m⟩) (hj : nodes[j]? = some x') (hjl : (j : Int) = ls ∨ (j : Int) = m)
    (hm : wr.heap[w.heap.size]? = some (.cells (Nod.cells ⟨false, a, bo, ls, m⟩).toArray T)) (hg : Gr w wr) (hz : w.heap.size < wr.heap.size) (hv : wkD nodes (k + 1) ⟨false, a, bo, ls, m⟩ f l = wkD nodes (j + 1) x' f l) (hV : wkD nodes (k + 1) ⟨false, a, bo, ls, m⟩ f l = P) :
    (∃ (k : Nat) (nd : Tre.Nod), k ≤ i ∧ nodes[k]? = some nd ∧ Gr w (((((wr.setCell ⟨w.heap.size, 0, none⟩ (.bool x'.leaf)).setCell ⟨w.heap.size, 1, none⟩ (.int .i64 x'.ans)).setCell ⟨w.heap.size, 2, none⟩ (.int .i64 x'.bound)).setCell ⟨w.heap.size, 3, none⟩ (.int .i64 x'.less)).setCell ⟨w.heap.size, 4, none⟩ (.int .i64 x'.more)) ∧ w.heap.size < (((((wr.setCell ⟨w.heap.size, 0, none⟩ (.bool x'.leaf)).setCell ⟨w.heap.size, 1, none⟩ (.int .i64 x'.ans)).setCell ⟨w.heap.size, 2, none⟩ (.int .i64 x'.bound)).setCell ⟨w.heap.size, 3, none⟩ (.int .i64 x'.less)).setCell ⟨w.heap.size, 4, none⟩ (.int .i64 x'.more)).heap.size ∧ (((((wr.setCell ⟨w.heap.size, 0, none⟩ (.bool x'.leaf)).setCell ⟨w.heap.size, 1, none⟩ (.int .i64 x'.ans)).setCell ⟨w.heap.size, 2, none⟩ (.int .i64 x'.bound)).setCell ⟨w.heap.size, 3, none⟩ (.int .i64 x'.less)).setCell ⟨w.heap.size, 4, none⟩ (.int .i64 x'.more)).heap[w.heap.size]? = some (.cells (Nod.cells nd).toArray T) ∧ wkD nodes (k + 1) nd f l = P) ∧
    ∀ W, W = (((((wr.setCell ⟨w.heap.size, 0, none⟩ (.bool x'.leaf)).setCell ⟨w.heap.size, 1, none⟩ (.int .i64 x'.ans)).setCell ⟨w.heap.size, 2, none⟩ (.int .i64 x'.bound)).setCell ⟨w.heap.size, 3, none⟩ (.int .i64 x'.less)).setCell ⟨w.heap.size, 4, none⟩ (.int .i64 x'.more)) → muC (W.cell? ⟨w.heap.size, 0, none⟩) (W.cell? ⟨w.heap.size, 3, none⟩) (W.cell? ⟨w.heap.size, 4, none⟩) < muC (wr.cell? ⟨w.heap.size, 0, none⟩) (wr.cell? ⟨w.heap.size, 3, none⟩) (wr.cell? ⟨w.heap.size, 4, none⟩) := by
  have hn := node_set _ x' hm
  have hi := hD.less k _ hk rfl
  simp only at hi
  refine ⟨⟨j, x', by omega, hj, ?_, ?_, hn, ?_⟩, ?_⟩
  · exact ((((hg.setCell (Nat.le_refl _) _).setCell (Nat.le_refl _) _).setCell (Nat.le_refl _) _).setCell (Nat.le_refl _) _).setCell (Nat.le_refl _) _
  · simpa [World.setCell] using hz
  · rw [← hV, hv]
  · rintro W rfl
    rw [mu_at hn, mu_at hm]
    exact mu_ltD hD hk hj hjl
/-- A call of a closure that a slot holds, as a step of a region that draws. -/
theorem step_callV {w : World} {ops : Array Oper} {a : Act} {K : Act → World → Prop} {Q : Exit → Act → World → Prop} {E : Prop} {d : Option Tmp} {ty : TypeId} {pos : String} {after : Array Edge} {x : Operand} {args : Array Operand} {ats : Array TypeId} {vs bound : Array Value} {f : Nat} {R : Ending → World → Prop} (hf : ∀ vs w, (callFunc f vs).run Tryd.prog w = .ok (.enter f vs) w) (hx : a.eval x = .func (.func f) #[] bound) (ha : args.map a.eval = vs) (hc : Calls Tryd.prog f (vs ++ bound) w R) (hK : ∀ e w', R e w' → ∃ v, e = .returned v ∧ K (a.put d v) w') :
    if Region.wanted ⟨d, .call { callee := .value x, args := args, argTypes := ats }, ty, pos, after, none⟩ (yielded ops a.tmps) = true then Oper.wp Tryd.prog ⟨d, .call { callee := .value x, args := args, argTypes := ats }, ty, pos, after, none⟩ a w K Q else E := by
  have hw : Region.wanted ⟨d, .call { callee := .value x, args := args, argTypes := ats }, ty, pos, after, none⟩ (yielded ops a.tmps) = true := by simp [Region.wanted]
  rw [if_pos hw]
  unfold Oper.wp
  generalize a.eval = ev at *
  simp only [execOp, resolve, ha, hx]
  simp [go_sem, hf]
  refine hc.mono ?_
  intro e w' h
  obtain ⟨v, rfl, hk⟩ := hK e w' h
  exact hk
end Go.Proofs.YtcpmbjlhblkniaaDoor
