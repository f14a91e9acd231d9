/- Contract: the closure by which merging tells a leaf's answer. -/
import Derived.Test.YthlahmabcbbhjaaPaPm
import Derived.Test.YthlahmabcbbhjaaFiP
namespace Go.Proofs.Ythlahmabcbbhjaa
open Go.ChangeShapes Go.WideShapes Go.ChangeAt Go.RowKit Go.Maps
set_option linter.unusedVariables false
theorem Far.pw {w w' : World} {low : Nat} {x : Ans} (h : Far w low x) (hp : Pw low w w') : Far w' low x :=
  ⟨fun hne b o sp e => (h.far hne b o sp e).imp id fun ⟨cs, hc⟩ => ⟨cs, (hp.block b (Array.getElem?_eq_some_iff.1 hc).1 (Or.inr ⟨fun ds e => (by rw [hc] at e; cases e), fun ds e => (by rw [hc] at e; cases e)⟩)).trans hc⟩⟩
theorem AnsOk.pw {w w' : World} {low : Nat} {x : Ans} (h : AnsOk w x) (hf : Far w low x) (hp : Pw low w w') : AnsOk w' x :=
  ⟨h.off, h.jump, h.nm, h.cap, ⟨h.zs.len, fun i z hz => by
    obtain ⟨b, o, e, hb, hc⟩ := h.zs.cell i z hz
    refine ⟨b, o, e, Nat.lt_of_lt_of_le hb hp.size, ?_⟩
    rw [← hc]
    refine World.cell?_of_block (w := w) (a := ⟨b, o + i, none⟩) (hp.block b hb ?_)
    rcases hf.far (fun h0 => by rw [h0] at hz; simp at hz) b o _ e with g | ⟨cs, g⟩
    · exact Or.inl g
    · exact Or.inr ⟨fun ds e => (by rw [g] at e; cases e), fun ds e => (by rw [g] at e; cases e)⟩⟩, h.wz⟩
theorem FinA.pw {w w' : World} {kb mb lb M base low : Nat} {v : Value} {ns : List Ans} {D : DataW Unit} (h : FinA w kb mb lb M base low v ns D) (hp : Pw low w w') : FinA w' kb mb lb M base low v ns D := by
  have hlt : ∀ {b : Nat} {o : Obj}, w.heap[b]? = some o → b < w.heap.size := fun e => (Array.getElem?_eq_some_iff.1 e).1
  have hk : ∀ (b : Nat) (cs : Array Value) (t : TypeId), w.heap[b]? = some (.cells cs t) → t ≠ 89 → t ≠ 71 → w'.heap[b]? = some (.cells cs t) := fun b cs t e h1 h2 =>
    (hp.block b (hlt e) (Or.inr ⟨fun ds g => by rw [e] at g; cases g; exact h1 rfl, fun ds g => by rw [e] at g; cases g; exact h2 rfl⟩)).trans e
  refine ⟨hk _ _ _ h.kbox (by decide) (by decide), hk _ _ _ h.mbox (by decide) (by decide), hk _ _ _ h.lbox (by decide) (by decide), owns_same h.row fun g hg => ?_, owns_map_sameA h.map ?_, h.isMap, fun n hn => (h.ok n hn).pw (h.far n hn) hp, h.ok6, fun n hn => (h.far n hn).pw hp, h.has, h.at_, h.nodup, h.k1, h.m1, h.l1, h.M1, h.ne1, h.ne2, h.low1, h.low2, Nat.le_trans h.size hp.size⟩
  · obtain ⟨cur, hr⟩ := owns_typed h.row hg
    rw [hr]; exact hk _ _ _ hr (by decide) (by decide)
  · obtain ⟨es, cl, h1, _⟩ := h.map
    exact hp.block M (hlt h1) (Or.inr ⟨fun ds g => (by rw [h1] at g; cases g), fun ds g => (by rw [h1] at g; cases g)⟩)
/-- The memory of merging. -/
structure MgI (f : Fst) (low kb mb lb M base cb fb : Nat) (s : Value × List Ans × DataW Unit) (W : World) : Prop where
  fin : FinA W kb mb lb M base low s.1 s.2.1 s.2.2
  cbox : W.heap[cb]? = some (.cells #[.func (.func 47) #[] #[.pointer (some ⟨kb, 0, none⟩), .pointer (some ⟨mb, 0, none⟩), .pointer (some ⟨lb, 0, none⟩)]] 63)
  fbox : W.heap[fb]? = some (.cells #[.slice f.na f.nodes.length f.ncap, .slice f.aa f.answers.length f.acap] 25)
  from_ : ∀ y ∈ s.2.1, ∃ x ∈ f.answers, y.val = x.val
  aat : ∀ (i : Nat) x, f.answers[i]? = some x → ∃ b o, f.aa = some ⟨b, o, none⟩ ∧ b < low ∧ Five W b (o + i * 5) (Ans.cells x)
  aok : ∀ x ∈ f.answers, AnsOk W x
  far : ∀ x ∈ f.answers, Far W low x
  low : low ≤ W.heap.size
theorem MgI.pw {f : Fst} {low kb mb lb M base cb fb : Nat} {s : Value × List Ans × DataW Unit} {w w' : World} (h : MgI f low kb mb lb M base cb fb s w) (hp : Pw low w w') : MgI f low kb mb lb M base cb fb s w' := by
  have hlt : ∀ {b : Nat} {o : Obj}, w.heap[b]? = some o → b < w.heap.size := fun e => (Array.getElem?_eq_some_iff.1 e).1
  have hk : ∀ (b : Nat) (cs : Array Value) (t : TypeId), w.heap[b]? = some (.cells cs t) → t ≠ 89 → t ≠ 71 → w'.heap[b]? = some (.cells cs t) := fun b cs t e h1 h2 =>
    (hp.block b (hlt e) (Or.inr ⟨fun ds g => by rw [e] at g; cases g; exact h1 rfl, fun ds g => by rw [e] at g; cases g; exact h2 rfl⟩)).trans e
  refine ⟨h.fin.pw hp, hk _ _ _ h.cbox (by decide) (by decide), hk _ _ _ h.fbox (by decide) (by decide), h.from_, fun i x hx => ?_, fun x hx => (h.aok x hx).pw (h.far x hx) hp, fun x hx => (h.far x hx).pw hp, Nat.le_trans h.low hp.size⟩
  obtain ⟨b, o, e, hb, h0, h1, h2, h3, h4⟩ := h.aat i x hx
  have hl := h.low
  have g := fun o => World.cell?_of_block (w := w) (a := ⟨b, o, none⟩) (hp.block b (by omega) (Or.inl hb))
  exact ⟨b, o, e, hb, (g _).trans h0, (g _).trans h1, (g _).trans h2, (g _).trans h3, (g _).trans h4⟩
def mgSt (a b : Value × List Ans × DataW Unit) : Prop := ∃ l, b.2.1 = a.2.1 ++ l
def mgSay (f : Fst) (s : Value × List Ans × DataW Unit) (n : Int) (i : Nat) : Prop := ∃ x y, f.answers[n.toNat]? = some x ∧ s.2.1[i]? = some y ∧ y.val = x.val
/-- As many values, none twice, as a list has that they are of, at most. -/
theorem nodup_leG {α : Type} [BEq α] [LawfulBEq α] : ∀ (n : Nat) (a b : List α), a.length ≤ n → a.Nodup → (∀ x ∈ a, x ∈ b) → a.length ≤ b.length
  | n, [], b, _, _, _ => Nat.zero_le _
  | n + 1, x :: a, b, hn, hd, hs => by
    have hx := hs x (by simp)
    obtain ⟨h1, h2⟩ := List.nodup_cons.1 hd
    have := nodup_leG n a (b.erase x) (by simpa using hn) h2 (fun y hy => by
      have hne : y ≠ x := fun e => h1 (e ▸ hy)
      exact (List.mem_erase_of_ne hne).2 (hs y (by simp [hy])))
    have hl := List.length_erase_of_mem hx
    have hb : 0 < b.length := List.length_pos_of_mem hx
    simp only [List.length_cons]
    omega
theorem MgI.len {f : Fst} {low kb mb lb M base cb fb : Nat} {s : Value × List Ans × DataW Unit} {w : World} (h : MgI f low kb mb lb M base cb fb s w) : s.2.1.length ≤ f.answers.length := by
  have := @nodup_leG (Int × Bool × ByteArray × List Int × Int) instBEqOfDecidableEq inferInstance _ (s.2.1.map Ans.val) (f.answers.map Ans.val) (Nat.le_refl _) h.fin.nodup (fun x hx => by
    obtain ⟨y, hy, rfl⟩ := List.mem_map.1 hx
    obtain ⟨z, hz, e⟩ := h.from_ y hy
    exact List.mem_map.2 ⟨z, hz, e.symm⟩)
  simpa using this
theorem MgI.call {f : Fst} {low kb mb lb M base cb fb : Nat} {v v' : Value} {ns ns' : List Ans} {D D' : DataW Unit} {w w' : World} {x : Ans} (h : MgI f low kb mb lb M base cb fb (v, ns, D) w) (hF : FinA w' kb mb lb M base low v' ns' D') (hg : Fga base M lb w w') (hx : x ∈ f.answers) (hn : ns' = ns ∨ ns' = ns ++ [x]) :
    MgI f low kb mb lb M base cb fb (v', ns', D') w' ∧ mgSt (v, ns, D) (v', ns', D') ∧ Wc low w w' := by
  have hF0 := h.fin
  have l1 := hF0.low1
  have l2 := hF0.low2
  have l3 := hF0.M1
  have hll : ∀ cs t, w.heap[lb]? = some (.cells cs t) → t = 23 := fun cs t e => by
    have := hF0.lbox; rw [e] at this; cases this; rfl
  have hty : ∀ (b : Nat) (cs : Array Value) (t : TypeId), w.heap[b]? = some (.cells cs t) → t ≠ 37 → t ≠ 23 → w'.heap[b]? = some (.cells cs t) := fun b cs t e h1 h2 =>
    hg.typed b cs t e h1 (fun g => h2 (hll cs t (g ▸ e)))
  have hbl : ∀ b, b < low → w'.heap[b]? = w.heap[b]? := fun b hb => hg.block b (by omega) (by omega) (by omega)
  have hli : ∀ cs, w.heap[lb]? ≠ some (.cells cs 3) := fun cs e => by have := hll cs _ e; revert this; decide
  refine ⟨⟨hF, hty _ _ _ h.cbox (by decide) (by decide), hty _ _ _ h.fbox (by decide) (by decide), fun y hy => ?_, fun i x hx => ?_, fun x hx => (h.aok x hx).fga (h.far x hx) hg (by omega) l1 l2 hli, fun x hx => (h.far x hx).fga hg hli, Nat.le_trans h.low hg.size⟩, ?_, ⟨hg.os, hg.out, hg.size, hbl, hty⟩⟩
  · rcases hn with e | e
    · simp only [e] at hy; exact h.from_ y hy
    · simp only [e] at hy
      rcases List.mem_append.1 hy with g | g
      · exact h.from_ y g
      · rw [List.mem_singleton.1 g]; exact ⟨x, hx, rfl⟩
  · obtain ⟨b, o, e, hb, h0, h1, h2, h3, h4⟩ := h.aat i x hx
    have g := fun o => World.cell?_of_block (w := w) (a := ⟨b, o, none⟩) (hbl b hb)
    exact ⟨b, o, e, hb, (g _).trans h0, (g _).trans h1, (g _).trans h2, (g _).trans h3, (g _).trans h4⟩
  · rcases hn with e | e
    · exact ⟨[], by simp [e]⟩
    · exact ⟨[x], e⟩
set_option maxHeartbeats 3200000 in
theorem mergeTell_any (f : Fst) (low kb mb lb M base cb fb : Nat) (h6 : ∀ x ∈ f.answers, x.zs.length ≤ 6) (ha : f.answers.length ≤ 2000) (hcap : f.answers.length ≤ f.acap) (s : Value × List Ans × DataW Unit) (n : Int) (w : World) (h : MgI f low kb mb lb M base cb fb s w) (n0 : 0 ≤ n) (n1 : n < f.answers.length) :
    Calls Try.prog 38 #[.int .i64 n, .pointer (some ⟨cb, 0, none⟩), .pointer (some ⟨fb, 0, none⟩)] w fun e w' => ∃ (s' : Value × List Ans × DataW Unit) (i : Nat), e = .returned (.int .i64 i) ∧ MgI f low kb mb lb M base cb fb s' w' ∧ mgSt s s' ∧ mgSay f s' n i ∧ Wc low w w' := by
  obtain ⟨v, ns, D⟩ := s
  obtain ⟨x, hx⟩ : ∃ x, f.answers[n.toNat]? = some x := ⟨_, List.getElem?_eq_getElem (by omega)⟩
  obtain ⟨b, o, e, hb, q0, q1, q2, q3, q4⟩ := h.aat _ x hx
  have hl := h.len
  simp only at hl
  have hm := List.mem_of_getElem? hx
  have HX : Hid _ := hx
  have HPL : Hid _ := fun W (hg : Gr w W) => placeA_any kb mb lb M base low v ns D x W (h.fin.gr hg) ((h.aok x hm).gr hg) (h6 x hm) ((h.far x hm).gr hg) (by omega)
  have c0 := (row_all h.cbox).1
  have d0 := (row_all h.fbox).1
  rw [e] at d0
  have hAA := e
  have i3 : n < (f.answers.length : Int) := n1
  have i1 : n.toNat < f.answers.length := by omega
  have i2 : (f.answers.length : Int) ≤ (f.acap : Int) := by omega
  clear hx e
  obtain ⟨off, sv, nm, za, zcap, zs, jump⟩ := x
  simp [Ans.cells] at q0 q1 q2 q3 q4
  simp only [Ans.cells] at HPL
  obtain ⟨na, ncap, nodes, aa, acap, answers⟩ := f
  simp only at d0 n1 i1 i2 i3 ha hcap hl hAA
  go_enter Try.func38, Try.ntmps38
  go_wp2_with fail
  have hO : w.cell? ⟨cb, 0, none⟩ = some (.func (.func 47) #[] #[.pointer (some ⟨kb, 0, none⟩), .pointer (some ⟨mb, 0, none⟩), .pointer (some ⟨lb, 0, none⟩)]) ∧ w.cell? ⟨fb, 1, none⟩ = some (.slice (some ⟨b, o, none⟩) answers.length acap) ∧ w.cell? ⟨b, o + n.toNat * 5, none⟩ = some (.int .i64 off) ∧ w.cell? ⟨b, o + n.toNat * 5 + 1, none⟩ = some (.bool sv) ∧ w.cell? ⟨b, o + n.toNat * 5 + 2, none⟩ = some (.string nm) ∧ w.cell? ⟨b, o + n.toNat * 5 + 3, none⟩ = some (.slice za zs.length zcap) ∧ w.cell? ⟨b, o + n.toNat * 5 + 4, none⟩ = some (.int .i64 jump) := ⟨c0 0, d0 1, q0, q1, q2, q3, q4⟩
  clear c0 d0
  go_region_held3 (fun w' => w'.cell? ⟨cb, 0, none⟩ = some (.func (.func 47) #[] #[.pointer (some ⟨kb, 0, none⟩), .pointer (some ⟨mb, 0, none⟩), .pointer (some ⟨lb, 0, none⟩)]) ∧ w'.cell? ⟨fb, 1, none⟩ = some (.slice (some ⟨b, o, none⟩) answers.length acap) ∧ w'.cell? ⟨b, o + n.toNat * 5, none⟩ = some (.int .i64 off) ∧ w'.cell? ⟨b, o + n.toNat * 5 + 1, none⟩ = some (.bool sv) ∧ w'.cell? ⟨b, o + n.toNat * 5 + 2, none⟩ = some (.string nm) ∧ w'.cell? ⟨b, o + n.toNat * 5 + 3, none⟩ = some (.slice za zs.length zcap) ∧ w'.cell? ⟨b, o + n.toNat * 5 + 4, none⟩ = some (.int .i64 jump)) (first | with_reducible exact hO | (simpa [go_sem] using hO))
    (first
      | (go_at_call 47; refine (HPL.out _ (by repeat (with_reducible first | exact Gr.refl _ | refine Gr.drew ?_))).mono ?_; rintro e w5 ⟨i, v5, n5, D5, rfl, ⟨y, hy, hyv⟩, hor, hF5, hg5⟩
         have hg5' : Fga base M lb w w5 := ⟨hg5.os, hg5.out, hg5.size, hg5.block, hg5.typed⟩
         obtain ⟨hM5, hS5, hC5⟩ := h.call hF5 hg5' hm hor
         have g := fun o => World.cell?_of_block (w := w) (a := ⟨b, o, none⟩) (hC5.block b hb)
         have e0 : w5.cell? ⟨cb, 0, none⟩ = some (.func (.func 47) #[] #[.pointer (some ⟨kb, 0, none⟩), .pointer (some ⟨mb, 0, none⟩), .pointer (some ⟨lb, 0, none⟩)]) := (row_all hM5.cbox).1 0
         have e1 : w5.cell? ⟨fb, 1, none⟩ = some (.slice aa answers.length acap) := (row_all hM5.fbox).1 1
         rw [hAA] at e1
         replace hO := And.intro e0 (And.intro e1 (And.intro ((g _).trans hO.2.2.1) (And.intro ((g _).trans hO.2.2.2.1) (And.intro ((g _).trans hO.2.2.2.2.1) (And.intro ((g _).trans hO.2.2.2.2.2.1) ((g _).trans hO.2.2.2.2.2.2))))))
         clear e0 e1 g))
  go_wp2
  go_ret
  exact ⟨(v5, n5, D5), i, rfl, hM5, hS5, ⟨_, y, HX.out, hy, hyv⟩, hC5⟩
theorem merge_tells (f : Fst) (low kb mb lb M base cb fb : Nat) (h6 : ∀ x ∈ f.answers, x.zs.length ≤ 6) (ha : f.answers.length ≤ 2000) (hcap : f.answers.length ≤ f.acap) : TellsM cb fb f.answers.length low (MgI f low kb mb lb M base cb fb) mgSt (mgSay f) where
  call := fun s n W h h0 h1 => mergeTell_any f low kb mb lb M base cb fb h6 ha hcap s n W h h0 h1
  keep := fun s W W' h hp => h.pw hp
  low := fun s W h => h.low
  refl := fun s => ⟨[], by simp⟩
  trans := fun a b c h1 h2 => by
    obtain ⟨l, e⟩ := h1
    obtain ⟨m, e'⟩ := h2
    exact ⟨l ++ m, by rw [e', e, List.append_assoc]⟩
  mono := fun a b n i h1 h2 => by
    obtain ⟨l, e⟩ := h1
    obtain ⟨x, y, hx, hy, hv⟩ := h2
    exact ⟨x, y, hx, by rw [e, List.getElem?_append_left (List.getElem?_eq_some_iff.1 hy).1]; exact hy, hv⟩
  small := fun s n i W h hs => by
    obtain ⟨x, y, hx, hy, hv⟩ := hs
    have := (List.getElem?_eq_some_iff.1 hy).1
    have := h.len
    omega
end Go.Proofs.Ythlahmabcbbhjaa
