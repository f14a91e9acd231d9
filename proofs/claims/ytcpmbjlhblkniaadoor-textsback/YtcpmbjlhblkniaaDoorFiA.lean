/- A finder of answers: a map that a call has made, and the list beside it, as closures write them. -/
import Derived.Test.YtcpmbjlhblkniaaDoorAkm
namespace Go.Proofs.YtcpmbjlhblkniaaDoor
open Go.ChangeShapes Go.WideShapes Go.ChangeAt Go.RowKit Go.Maps
set_option linter.unusedVariables false
set_option maxRecDepth 100000
def ansL (l : List Ans) : List Value := l.flatMap Ans.cells
theorem ansL_snoc (l : List Ans) (x : Ans) : ansL (l ++ [x]) = ansL l ++ Ans.cells x := by simp [ansL]
/-- An answer's offsets lie where no finder writes. -/
structure Far (w : World) (low : Nat) (x : Ans) : Prop where
  far : x.zs ≠ [] → ∀ b o sp, x.a = some ⟨b, o, sp⟩ → b < low ∨ ∃ cs, w.heap[b]? = some (.cells cs 3)
structure FinA (w : World) (kb mb lb M base low : Nat) (v : Value) (ns : List Ans) (D : DataW Unit) : Prop where
  kbox : w.heap[kb]? = some (.cells #[.func (.func 55) #[] #[]] 122)
  mbox : w.heap[mb]? = some (.cells #[.map (some M)] 144)
  lbox : w.heap[lb]? = some (.cells #[v] 25)
  row : w.ownsRow base 34 5 v ns.length (ansL ns)
  map : w.ownsMap Tryd.prog 121 (plainElem Tryd.prog 3) M ns.length D
  isMap : IsMap D
  ok : ∀ n ∈ ns, AnsOk w n
  ok6 : ∀ n ∈ ns, n.zs.length ≤ 6
  far : ∀ n ∈ ns, Far w low n
  has : ∀ (n : Ans) l, n.zs.length ≤ 6 → keyOf Tryd.prog 121 (.agg (Ans.key n).toArray) = some l → (Maps.has D l = true ↔ ∃ y ∈ ns, y.val = n.val)
  at_ : ∀ (i : Nat) n l, ns[i]? = some n → keyOf Tryd.prog 121 (.agg (Ans.key n).toArray) = some l → D.atKey l (.lit (.int .i64 0)) = .lit (.int .i64 i)
  nodup : (ns.map Ans.val).Nodup
  k1 : kb < base
  m1 : mb < base
  l1 : lb < base
  M1 : M < base
  ne1 : lb ≠ kb
  ne2 : lb ≠ mb
  low1 : low ≤ M
  low2 : low ≤ lb
  size : base ≤ w.heap.size
/-- What a finder of answers leaves alone. -/
structure Fga (base M lb : Nat) (w w' : World) : Prop where
  os : w'.os = w.os
  out : w'.output = w.output
  size : w.heap.size ≤ w'.heap.size
  block : ∀ b, b < base → b ≠ M → b ≠ lb → w'.heap[b]? = w.heap[b]?
  typed : ∀ b cs t, w.heap[b]? = some (.cells cs t) → t ≠ 34 → b ≠ lb → w'.heap[b]? = some (.cells cs t)
theorem Fga.ofGr {base M lb : Nat} {w w' : World} (h : Gr w w') (hb : base ≤ w.heap.size) : Fga base M lb w w' := ⟨h.os, h.out, h.size, fun b hlt _ _ => h.block b (Nat.lt_of_lt_of_le hlt hb), fun b cs t hc _ _ => (h.block b (Array.getElem?_eq_some_iff.1 hc).1).trans hc⟩
theorem Fga.refl (base M lb : Nat) (w : World) : Fga base M lb w w := ⟨rfl, rfl, Nat.le_refl _, fun _ _ _ _ => rfl, fun _ _ _ h _ _ => h⟩
theorem Fga.trans {base M lb : Nat} {a b c : World} (h : Fga base M lb a b) (k : Fga base M lb b c) : Fga base M lb a c :=
  ⟨k.os.trans h.os, k.out.trans h.out, Nat.le_trans h.size k.size, fun x h0 h1 h2 => (k.block x h0 h1 h2).trans (h.block x h0 h1 h2), fun x cs t hx h1 h2 => k.typed x cs t (h.typed x cs t hx h1 h2) h1 h2⟩
theorem Fga.drewL {base M lb : Nat} {w w' : World} (h : Fga base M lb w.drew w') : Fga base M lb w w' := ⟨h.os, h.out, h.size, h.block, h.typed⟩
theorem Far.gr {w w' : World} {low : Nat} {x : Ans} (h : Far w low x) (hg : Gr w w') : Far w' low x :=
  ⟨fun hne b o sp e => (h.far hne b o sp e).imp id fun ⟨cs, hc⟩ => ⟨cs, (hg.block b (Array.getElem?_eq_some_iff.1 hc).1).trans hc⟩⟩
theorem Far.fga {base M lb : Nat} {w w' : World} {low : Nat} {x : Ans} (h : Far w low x) (hg : Fga base M lb w w') (hl : ∀ cs, w.heap[lb]? ≠ some (.cells cs 3)) : Far w' low x :=
  ⟨fun hne b o sp e => (h.far hne b o sp e).imp id fun ⟨cs, hc⟩ => ⟨cs, hg.typed b cs _ hc (by decide) (fun e => hl cs (e ▸ hc))⟩⟩
theorem AnsOk.fga {base M lb : Nat} {w w' : World} {low : Nat} {x : Ans} (h : AnsOk w x) (hf : Far w low x) (hg : Fga base M lb w w') (h1 : low ≤ base) (h2 : low ≤ M) (h3 : low ≤ lb) (hl : ∀ cs, w.heap[lb]? ≠ some (.cells cs 3)) : AnsOk w' x :=
  ⟨h.off, h.jump, h.nm, h.cap, ⟨h.zs.len, fun i z hz => by
    obtain ⟨b, o, e, hb, hc⟩ := h.zs.cell i z hz
    refine ⟨b, o, e, Nat.lt_of_lt_of_le hb hg.size, ?_⟩
    rw [← hc]
    refine World.cell?_of_block (w := w) (a := ⟨b, o + i, none⟩) ?_
    rcases hf.far (fun h0 => by rw [h0] at hz; simp at hz) b o _ e with g | ⟨cs, g⟩
    · exact hg.block b (by omega) (by omega) (by omega)
    · exact (hg.typed b cs _ g (by decide) (fun e => hl cs (e ▸ g))).trans g.symm⟩, h.wz⟩
theorem AnsOk.far {w : World} {x : Ans} (h : AnsOk w x) {low : Nat} (hl : w.heap.size ≤ low) : Far w low x :=
  ⟨fun hne b o sp e => by
    obtain ⟨z, hz⟩ : ∃ z, x.zs[0]? = some z := by
      cases hzs : x.zs with
      | nil => exact absurd hzs hne
      | cons z r => exact ⟨z, rfl⟩
    obtain ⟨b', o', e', hb, _⟩ := h.zs.cell 0 z hz
    rw [e] at e'
    cases e'
    exact Or.inl (by omega)⟩
theorem owns_map_sameA {w w' : World} {P : Program} {k : TypeId} {R : Value → Option (DataW Unit × List MemPlace)} {b n : Nat} {D : DataW Unit} (h : w.ownsMap P k R b n D) (hs : w'.heap[b]? = w.heap[b]?) : w'.ownsMap P k R b n D := by
  obtain ⟨es, clock, h1, h2⟩ := h
  exact ⟨es, clock, hs.trans h1, h2⟩
theorem FinA.gr {w w' : World} {kb mb lb M base low : Nat} {v : Value} {ns : List Ans} {D : DataW Unit} (h : FinA w kb mb lb M base low v ns D) (hg : Gr w w') : FinA w' kb mb lb M base low v ns D :=
  have hs := h.size
  have b := fun x (hx : x < base) => hg.block x (Nat.lt_of_lt_of_le hx hs)
  ⟨(b kb h.k1).trans h.kbox, (b mb h.m1).trans h.mbox, (b lb h.l1).trans h.lbox, owns_gr h.row hg, owns_map_sameA h.map (b M h.M1), h.isMap, fun n hn => (h.ok n hn).gr hg, h.ok6, fun n hn => (h.far n hn).gr hg, h.has, h.at_, h.nodup, h.k1, h.m1, h.l1, h.M1, h.ne1, h.ne2, h.low1, h.low2, Nat.le_trans hs hg.size⟩
theorem row_formA {w : World} {base n size : Nat} {t : TypeId} {v : Value} {xs : List Value} (h : w.ownsRow base t size v n xs) : ∃ a cap, v = .slice a n cap := by
  rcases h.2 with ⟨e, e'⟩ | ⟨g, cap, cur, e, _⟩
  · exact ⟨none, 0, by rw [e, e']⟩
  · exact ⟨_, _, e⟩
theorem owns_typed {w : World} {base n size : Nat} {t : TypeId} {v : Value} {xs : List Value} (h : w.ownsRow base t size v n xs) {g : Nat} (hg : v.ownBlock = some g) : ∃ cur, w.heap[g]? = some (.cells cur t) := by
  rcases h.2 with ⟨rfl, _⟩ | ⟨g', cap, cur, rfl, hb, hh, r⟩
  · simp [Value.ownBlock] at hg
  · simp [Value.ownBlock] at hg
    subst hg
    exact ⟨cur, hh⟩
theorem zeroIntA (w : World) : (zeroValue 3).run Tryd.prog w = .ok (.int .i64 0) w := by kernel_rfl
theorem Tryd.infoAnsF : ∃ i, Tryd.prog.info? 34 = some i ∧ i.zero = some (.agg #[.int .i64 0, .bool false, .string ⟨#[]⟩, .slice none 0 0, .int .i64 0]) ∧ i.size = 5 ∧ i.bytes = 64 :=
  ⟨_, rfl, by kernel_rfl, by kernel_rfl, by kernel_rfl⟩
theorem ans_cellF (x : Ans) : ∀ u ∈ Ans.cells x, u.oneCell' = true := by
  intro u hu
  simp [Ans.cells] at hu
  rcases hu with rfl | rfl | rfl | rfl | rfl <;> rfl
/-- Behind a store into the map, an append and the store of the new list. -/
theorem FinA.step {w W2 w3 W4 w5 : World} {kb mb lb M base low g cap vcap : Nat} {va : Option Addr} {ns : List Ans} {D : DataW Unit} {nd : Ans} {kl : Lit} (hF : FinA w kb mb lb M base low (.slice va ns.length vcap) ns D) (hn : AnsOk w nd) (hn6 : nd.zs.length ≤ 6) (hfar : Far w low nd) (hnot : ¬ ∃ y ∈ ns, y.val = nd.val) (hkey : keyOf Tryd.prog 121 (.agg (Ans.key nd).toArray) = some kl) (hkl : WideAt.IsKeyLit kl)
    (hg2 : Gr w W2) (hown3 : w3.ownsMap Tryd.prog 121 (plainElem Tryd.prog 3) M (ns.length + 1) (D.put kl (.lit (.int .i64 ns.length)))) (hgrow3 : W2.grownBy w3 (some M)) (hg4 : Gr w3 W4)
    (hgrow5 : W4.grownBy w5 (Value.slice va ns.length vcap).ownBlock) (hown5 : w5.ownsRow base 34 5 (.slice (some ⟨g, 0, none⟩) (ns.length + 1) cap) (ns.length + 1) (ansL ns ++ Ans.cells nd)) :
    FinA (w5.setCell ⟨lb, 0, none⟩ (.slice (some ⟨g, 0, none⟩) (ns.length + 1) cap)) kb mb lb M base low (.slice (some ⟨g, 0, none⟩) (ns.length + 1) cap) (ns ++ [nd]) (D.put kl (.lit (.int .i64 ns.length))) ∧
    Fga base M lb w (w5.setCell ⟨lb, 0, none⟩ (.slice (some ⟨g, 0, none⟩) (ns.length + 1) cap)) := by
  have hs := hF.size
  have s2 := hg2.size
  have s3 := hgrow3.size
  have s4 := hg4.size
  have s5 := hgrow5.size
  have hrow : ∀ x, (Value.slice va ns.length vcap).ownBlock = some x → base ≤ x := fun x hx => (owns_lt hF.row hx).1
  have hMl : lb ≠ M := fun e => by
    obtain ⟨es, cl, h1, _⟩ := hF.map
    have h2 := hF.lbox
    rw [e, h1] at h2; cases h2
  have hMk : kb ≠ M := fun e => by
    obtain ⟨es, cl, h1, _⟩ := hF.map
    have h2 := hF.kbox
    rw [e, h1] at h2; cases h2
  have hMm : mb ≠ M := fun e => by
    obtain ⟨es, cl, h1, _⟩ := hF.map
    have h2 := hF.mbox
    rw [e, h1] at h2; cases h2
  have hb : ∀ x, x < base → x ≠ M → w5.heap[x]? = w.heap[x]? := fun x hx hne => by
    rw [hgrow5.block x (by omega) (fun e => by have := hrow _ e.symm; omega), hg4.block x (by omega), hgrow3.block x (by omega) (fun e => hne (by simpa using e)), hg2.block x (by omega)]
  have hbM : w5.heap[M]? = w3.heap[M]? := by
    have := hF.M1
    rw [hgrow5.block M (by omega) (fun e => by have := hrow _ e.symm; omega), hg4.block M (by omega)]
  have ho : ∀ x, x ≠ lb → (w5.setCell ⟨lb, 0, none⟩ (.slice (some ⟨g, 0, none⟩) (ns.length + 1) cap)).heap[x]? = w5.heap[x]? := fun x hne => heap_setCell_other w5 ⟨lb, 0, none⟩ x _ hne
  have ht : ∀ (x : Nat) (cs : Array Value) (t : TypeId), w.heap[x]? = some (.cells cs t) → t ≠ 34 → w5.heap[x]? = some (.cells cs t) := fun x cs t hx hne => by
    have hlt := (Array.getElem?_eq_some_iff.1 hx).1
    have hM : x ≠ M := fun e => by
      obtain ⟨es, cl, h1, _⟩ := hF.map
      rw [e, h1] at hx; cases hx
    have hr : (Value.slice va ns.length vcap).ownBlock ≠ some x := fun e => by
      obtain ⟨cur, hc⟩ := owns_typed hF.row e
      rw [hx] at hc; cases hc; exact hne rfl
    rw [hgrow5.block x (by omega) (fun e => hr e.symm), hg4.block x (by omega), hgrow3.block x (by omega) (fun e => hM (by simpa using e)), hg2.block x (by omega)]
    exact hx
  have hg := (owns_lt hown5 rfl).1
  have hFg : Fga base M lb w (w5.setCell ⟨lb, 0, none⟩ (.slice (some ⟨g, 0, none⟩) (ns.length + 1) cap)) := by
    refine ⟨?_, ?_, ?_, ?_, ?_⟩
    · exact (hgrow5.os.trans (hg4.os.trans (hgrow3.os.trans hg2.os)))
    · exact (hgrow5.output.trans (hg4.out.trans (hgrow3.output.trans hg2.out)))
    · simp [World.setCell]; omega
    · intro x hx h1 h2
      rw [ho x h2, hb x hx h1]
    · intro x cs t hx h1 h2
      rw [ho x h2]; exact ht x cs t hx h1
  have hll : ∀ cs, w.heap[lb]? ≠ some (.cells cs 3) := fun cs h => by
    rw [hF.lbox] at h; cases h
  have hlb := hF.low1
  have hM1 := hF.M1
  have hl2 := hF.low2
  refine ⟨⟨?_, ?_, ?_, ?_, ?_, hF.isMap.put _ _, ?_, ?_, ?_, ?_, ?_, ?_, hF.k1, hF.m1, hF.l1, hF.M1, hF.ne1, hF.ne2, hF.low1, hF.low2, ?_⟩, hFg⟩
  · rw [ho _ (Ne.symm hF.ne1), hb _ hF.k1 hMk]; exact hF.kbox
  · rw [ho _ (Ne.symm hF.ne2), hb _ hF.m1 hMm]; exact hF.mbox
  · have := heap_setCell_same w5 lb 0 _ _ (.slice (some ⟨g, 0, none⟩) (ns.length + 1) cap) ((hb lb hF.l1 hMl).trans hF.lbox)
    simpa using this
  · rw [ansL_snoc, List.length_append]
    refine owns_same hown5 fun x hx => ho x ?_
    have := (owns_lt hown5 hx).1
    have := hF.l1
    omega
  · rw [List.length_append]
    exact owns_map_sameA hown3 ((ho M (Ne.symm hMl)).trans hbM)
  · intro x hx
    rcases List.mem_append.1 hx with h | h
    · exact (hF.ok x h).fga (hF.far x h) hFg (by omega) hlb hl2 hll
    · rw [List.mem_singleton.1 h]; exact hn.fga hfar hFg (by omega) hlb hl2 hll
  · intro x hx
    rcases List.mem_append.1 hx with h | h
    · exact hF.ok6 x h
    · rw [List.mem_singleton.1 h]; exact hn6
  · intro x hx
    rcases List.mem_append.1 hx with h | h
    · exact (hF.far x h).fga hFg hll
    · rw [List.mem_singleton.1 h]; exact hfar.fga hFg hll
  · intro x l hx6 hl
    by_cases e : l = kl
    · subst e
      have := keyAns_inj hx6 hl hkey
      simp [has_put_same hF.isMap hkl]
      exact Or.inr this.symm
    · rw [has_put_other e, hF.has x l hx6 hl]
      constructor
      · rintro ⟨y, hy, hv⟩; exact ⟨y, List.mem_append_left _ hy, hv⟩
      · rintro ⟨y, hy, hv⟩
        rcases List.mem_append.1 hy with h | h
        · exact ⟨y, h, hv⟩
        · rw [List.mem_singleton.1 h] at hv
          rw [← keyAns_val hv, hkey] at hl; cases hl; exact absurd rfl e
  · intro i x l hi hl
    rcases Nat.lt_or_ge i ns.length with h | h
    · rw [List.getElem?_append_left h] at hi
      have e : l ≠ kl := fun e => by
        subst e
        exact hnot ⟨x, List.mem_of_getElem? hi, keyAns_inj (hF.ok6 x (List.mem_of_getElem? hi)) hl hkey⟩
      rw [atKey_put_other e]; exact hF.at_ i x l hi hl
    · rw [List.getElem?_append_right h] at hi
      have hi0 : i - ns.length = 0 := by
        have := (List.getElem?_eq_some_iff.1 hi).1
        simp at this; omega
      rw [hi0] at hi
      simp at hi
      subst hi
      rw [hkey] at hl
      cases hl
      rw [atKey_put_same hF.isMap hkl, show i = ns.length by omega]
  · rw [List.map_append, List.nodup_append]
    refine ⟨hF.nodup, by simp, fun x hx y hy e => ?_⟩
    simp only [List.map_cons, List.map_nil, List.mem_singleton] at hy
    subst hy e
    obtain ⟨y, hy, hv⟩ := List.mem_map.1 hx
    exact hnot ⟨y, hy, hv⟩
  · simp [World.setCell]; omega
end Go.Proofs.YtcpmbjlhblkniaaDoor
