/- Programs that may be run: what Verify (P5.3) says of all ways through the code, and what running them (P5.4) tells: plain mathematics. -/
import Derived.Test.YtcpmbjlhblkniaaDoorVerM
namespace Go.Proofs.YtcpmbjlhblkniaaDoor
namespace Ver
/-- Arrivals only become more. -/
structure Ext (on on' : On) : Prop where
  ex : ∀ j d k, on j = some (d, k) → ∃ k', k ≤ k' ∧ on' j = some (d, k')
theorem Ext.refl (on : On) : Ext on on := ⟨fun j d k h => ⟨k, by omega, h⟩⟩
theorem Ext.trans {a b c : On} (h : Ext a b) (g : Ext b c) : Ext a c := ⟨fun j d k e => by
  obtain ⟨k', h1, h2⟩ := h.ex j d k e
  obtain ⟨k'', h3, h4⟩ := g.ex j d k' h2
  exact ⟨k'', by omega, h4⟩⟩
theorem Ext.join {on : On} {j : Nat} {d : Int} (k : Int) (hm : may (on j) d = true) : Ext on (joinU on j d k) := ⟨fun i d' k' e => by
  by_cases hi : i = j
  · subst hi
    unfold may at hm
    simp [e, stk] at hm
    subst hm
    exact ⟨max (stp (on i)) k, by simp [e, stp]; omega, by simp [joinU, upd]⟩
  · exact ⟨k', by omega, by simp [joinU, upd, hi, e]⟩⟩
theorem joins_ok {n : Nat} {d k : Int} : ∀ {l : List Nat} {on on' : On}, joins n d k l on = (0, on') → Ext on on' ∧ (∀ j ∈ l, j ≠ n ∧ ∃ k', k ≤ k' ∧ on' j = some (d, k')) ∧ ∀ i, i ∉ l → on' i = on i
  | [], on, on', h => by
    simp only [joins, Prod.mk.injEq, true_and] at h
    subst h
    exact ⟨Ext.refl _, by simp, fun _ _ => rfl⟩
  | j :: r, on, on', h => by
    unfold joins at h
    split at h
    · cases h
    · rename_i hn
      split at h
      · rename_i hm
        obtain ⟨h1, h2, h3⟩ := joins_ok h
        refine ⟨(Ext.join k hm).trans h1, fun i hi => ?_, fun i hi => ?_⟩
        · rcases List.mem_cons.1 hi with rfl | hi
          · obtain ⟨k', e1, e2⟩ := h1.ex i d (max (stp (on i)) k) (by simp [joinU, upd])
            exact ⟨hn, k', by omega, e2⟩
          · exact h2 i hi
        · rw [h3 i (fun e => hi (List.mem_cons_of_mem _ e))]
          exact upd_other _ (fun e => hi (e ▸ List.mem_cons_self))
      · cases h
/-- What is said of an instruction that is arrived at. -/
structure Done (n : Nat) (code : List Ins) (on : On) (i : Nat) (s t : Int) : Prop where
  ok : ∀ d k x, on i = some (d, k) → code[i]? = some x → takes x.op ≤ d ∧ d + (lays x.op - takes x.op) ≤ 8 ∧ d + (lays x.op - takes x.op) ≤ t ∧ k + 1 ≤ s ∧ ∀ j ∈ nxts x.op x.n i, j ≠ n ∧ ∃ k', k + 1 ≤ k' ∧ on j = some (d + (lays x.op - takes x.op), k')
theorem Done.mono {n : Nat} {code : List Ins} {on on' : On} {i : Nat} {s t s' t' : Int} (h : Done n code on i s t) (hi : on' i = on i) (he : Ext on on') (hs : s ≤ s') (ht : t ≤ t') : Done n code on' i s' t' := ⟨fun d k x e hx => by
  obtain ⟨h1, h2, h3, h4, h5⟩ := h.ok d k x (hi ▸ e) hx
  refine ⟨h1, h2, by omega, by omega, fun j hj => ?_⟩
  obtain ⟨g1, k', g2, g3⟩ := h5 j hj
  obtain ⟨k'', g4, g5⟩ := he.ex _ _ _ g3
  exact ⟨g1, k'', by omega, g5⟩⟩
structure Ways (n : Nat) (code : List Ins) (on : On) (i : Nat) (s t : Int) : Prop where
  start : ∃ k, 0 ≤ k ∧ on 0 = some (0, k)
  done : ∀ i', i' < i → Done n code on i' s t
theorem nxts_gt {op n : Int} {i j : Nat} (h : j ∈ nxts op n i) : i < j := by
  unfold nxts at h
  split at h
  · simp at h
  split at h
  · simp at h; omega
  split at h
  · simp at h; omega
  · simp at h; omega
theorem run_ways {n : Nat} {code : List Ins} : ∀ (m i : Nat) (on : On) (s t s' t' : Int), code.length = i + m → Ways n code on i s t → run n (code.drop i) i on s t = (s', t', 0) → ∃ on', Ways n code on' code.length s' t'
  | 0, i, on, s, t, s', t', hm, hw, h => by
    rw [run_end (by omega)] at h
    simp only [Prod.mk.injEq] at h
    obtain ⟨rfl, rfl, _⟩ := h
    rw [hm]
    exact ⟨on, hw⟩
  | m + 1, i, on, s, t, s', t', hm, hw, h => by
    obtain ⟨x, hx⟩ : ∃ x, code[i]? = some x := ⟨_, List.getElem?_eq_getElem (by omega)⟩
    cases hon : on i with
    | none =>
      rw [run_none hx hon] at h
      refine run_ways m (i + 1) on s t s' t' (by omega) ⟨hw.start, fun i' hi => ?_⟩ h
      rcases Nat.lt_succ_iff_lt_or_eq.1 hi with g | rfl
      · exact hw.done i' g
      · exact ⟨fun d k x e => by rw [hon] at e; cases e⟩
    | some v =>
      obtain ⟨d, k⟩ := v
      by_cases hs : d < takes x.op ∨ 8 < d + (lays x.op - takes x.op)
      · rw [run_stack hx hon hs] at h
        simp at h
      · obtain ⟨e, on', hj⟩ : ∃ e on', joins n (d + (lays x.op - takes x.op)) (k + 1) (nxts x.op x.n i) on = (e, on') := ⟨_, _, rfl⟩
        by_cases he : e = 0
        · subst he
          rw [run_go hx hon hs hj] at h
          obtain ⟨j1, j2, j3⟩ := joins_ok hj
          refine run_ways m (i + 1) on' _ _ s' t' (by omega) ⟨?_, fun i' hi => ?_⟩ h
          · obtain ⟨k0, h0, hs0⟩ := hw.start
            obtain ⟨k1, h1, hs1⟩ := j1.ex _ _ _ hs0
            exact ⟨k1, by omega, hs1⟩
          · rcases Nat.lt_succ_iff_lt_or_eq.1 hi with g | rfl
            · exact (hw.done i' g).mono (j3 i' (fun e => by have := nxts_gt e; omega)) j1 (by omega) (by omega)
            · refine ⟨fun d' k' x' e hx' => ?_⟩
              rw [j3 i' (fun e => by have := nxts_gt e; omega), hon] at e
              rw [hx] at hx'
              cases e
              cases hx'
              refine ⟨by omega, by omega, by omega, by omega, fun j hj => ?_⟩
              obtain ⟨g1, k', g2, g3⟩ := j2 j hj
              exact ⟨g1, k', g2, g3⟩
        · rw [run_err hx hon hs hj he] at h
          simp only [Prod.mk.injEq] at h
          exact absurd h.2.2 he
/-- A program that may be run: all ways through it. -/
theorem ways_of {p : Prg} {s t : Int} (h : verify p = (s, t, 0)) : Good p ∧ ∃ on, Ways p.code.length p.code on p.code.length s t := by
  by_cases h0 : prgF p = 0
  · rw [verify_yes h0] at h
    exact ⟨good h0, run_ways (code := p.code) p.code.length 0 on0 0 0 s t (by omega) ⟨⟨0, by omega, by simp [on0]⟩, fun i' hi => absurd hi (Nat.not_lt_zero _)⟩ (by simpa using h)⟩
  · rw [verify_no h0] at h
    simp only [Prod.mk.injEq] at h
    exact absurd h.2.2 h0
theorem ans_ok {p : Prg} {s t : Int} (h : verify p = (s, t, 0)) {x : Ans} (hx : x ∈ p.answers) : x.zs.length ≤ 6 ∧ x.nm.size ≤ 24 := by
  have h0 : prgF p = 0 := by
    by_cases h0 : prgF p = 0
    · exact h0
    · rw [verify_no h0] at h
      simp only [Prod.mk.injEq] at h
      exact h.2.2
  obtain ⟨i, hi⟩ := List.getElem?_of_mem hx
  have hz : Tre.fstE (ansE p.answers) p.answers.length = 0 := by
    unfold prgF at h0
    split at h0
    · cases h0
    split at h0
    · cases h0
    split at h0
    · rename_i h2; exact h2
    · exact h0
  have := Tre.fstE_none hz i (List.getElem?_eq_some_iff.1 hi).1
  rw [ansE_at hi] at this
  unfold Ans.fault Tre.ansF at this
  by_cases h1 : Tre.okOff x.off = true ∧ -1099511627776 ≤ x.jump ∧ x.jump ≤ 1099511627776
  · rw [if_pos h1] at this
    by_cases h2 : x.zs.all Tre.okOff = true
    · rw [if_pos h2] at this
      by_cases h3 : 6 < x.zs.length ∨ 24 < x.nm.size
      · rw [if_pos h3] at this; omega
      · omega
    · rw [if_neg h2] at this; omega
  · rw [if_neg h1] at this; omega
/-- P5.4: from an instruction on, with these on the stack (the last one is the top): the place of the answer, and how many steps were done. -/
def exec (code : List Ins) (pool : List Int) (t : Int) : Nat → Nat → List Int → Int → Int × Int
  | 0, _, _, k => (0, k)
  | f + 1, i, l, k => match code[i]? with
    | none => (0, k)
    | some x => if x.op = 1 then exec code pool t f (i + 1) (l ++ [t]) (k + 1)
      else if x.op = 2 then exec code pool t f (i + 1) (l ++ [pool.getD x.n.toNat 0]) (k + 1)
      else if x.op = 3 then exec code pool t f (i + 1) (l.take (l.length - 2) ++ [if l.getD (l.length - 2) 0 < l.getD (l.length - 1) 0 then 1 else 0]) (k + 1)
      else if x.op = 4 then exec code pool t f (if l.getD (l.length - 1) 0 = 0 then i + 1 + x.n.toNat else i + 1) (l.take (l.length - 1)) (k + 1)
      else if x.op = 5 then exec code pool t f (i + 1 + x.n.toNat) l (k + 1)
      else (x.n, k + 1)
theorem exec_1 {code : List Ins} {pool : List Int} {t : Int} {f i : Nat} {l : List Int} {k n : Int} (h : code[i]? = some ⟨1, n⟩) : exec code pool t (f + 1) i l k = exec code pool t f (i + 1) (l ++ [t]) (k + 1) := by
  rw [exec, h]; rfl
theorem exec_2 {code : List Ins} {pool : List Int} {t : Int} {f i : Nat} {l : List Int} {k n z : Int} (h : code[i]? = some ⟨2, n⟩) (hz : pool[n.toNat]? = some z) : exec code pool t (f + 1) i l k = exec code pool t f (i + 1) (l ++ [z]) (k + 1) := by
  rw [exec, h]; simp [hz]
theorem exec_3 {code : List Ins} {pool : List Int} {t : Int} {f i : Nat} {l : List Int} {k n a b : Int} {m : Nat} (h : code[i]? = some ⟨3, n⟩) (hl : l.length = m + 2) (ha : l[m]? = some a) (hb : l[m + 1]? = some b) : exec code pool t (f + 1) i l k = exec code pool t f (i + 1) (l.take m ++ [if a < b then 1 else 0]) (k + 1) := by
  obtain ⟨_, rfl⟩ := List.getElem?_eq_some_iff.1 ha
  obtain ⟨_, rfl⟩ := List.getElem?_eq_some_iff.1 hb
  rw [exec, h]; simp [hl]
theorem exec_4 {code : List Ins} {pool : List Int} {t : Int} {f i : Nat} {l : List Int} {k n a : Int} {m : Nat} (h : code[i]? = some ⟨4, n⟩) (hl : l.length = m + 1) (ha : l[m]? = some a) : exec code pool t (f + 1) i l k = exec code pool t f (if a = 0 then i + 1 + n.toNat else i + 1) (l.take m) (k + 1) := by
  obtain ⟨_, rfl⟩ := List.getElem?_eq_some_iff.1 ha
  rw [exec, h]; simp [hl]
theorem exec_5 {code : List Ins} {pool : List Int} {t : Int} {f i : Nat} {l : List Int} {k n : Int} (h : code[i]? = some ⟨5, n⟩) : exec code pool t (f + 1) i l k = exec code pool t f (i + 1 + n.toNat) l (k + 1) := by
  rw [exec, h]; rfl
theorem exec_6 {code : List Ins} {pool : List Int} {t : Int} {f i : Nat} {l : List Int} {k n : Int} (h : code[i]? = some ⟨6, n⟩) : exec code pool t (f + 1) i l k = (n, k + 1) := by
  rw [exec, h]; rfl
/-- More fuel than there is code changes nothing. -/
theorem exec_fuel {code : List Ins} {pool : List Int} {t : Int} : ∀ (f g i : Nat) (l : List Int) (k : Int), code.length ≤ i + f → code.length ≤ i + g → exec code pool t f i l k = exec code pool t g i l k
  | 0, 0, _, _, _, _, _ => rfl
  | 0, g + 1, i, l, k, h, _ => by
    rw [exec, exec, List.getElem?_eq_none (by omega)]
  | f + 1, 0, i, l, k, _, h => by
    rw [exec, exec, List.getElem?_eq_none (by omega)]
  | f + 1, g + 1, i, l, k, hf, hg => by
    rw [exec, exec]
    cases code[i]? with
    | none => rfl
    | some x =>
      simp only
      split
      · exact exec_fuel f g _ _ _ (by omega) (by omega)
      split
      · exact exec_fuel f g _ _ _ (by omega) (by omega)
      split
      · exact exec_fuel f g _ _ _ (by omega) (by omega)
      split
      · exact exec_fuel f g _ _ _ (by split <;> omega) (by split <;> omega)
      split
      · exact exec_fuel f g _ _ _ (by omega) (by omega)
      · rfl
/-- Where a run stands: an instruction that is arrived at with as many on the stack, behind no more steps. -/
structure At (p : Prg) (on : On) (i : Nat) (l : List Int) (k : Int) : Prop where
  lt : i < p.code.length
  on : ∃ k', k ≤ k' ∧ on i = some ((l.length : Int), k')
  k0 : 0 ≤ k
  k1 : k ≤ i
theorem At.next {p : Prg} {on : On} {s t : Int} (hG : Good p) (hw : Ways p.code.length p.code on p.code.length s t) {i j : Nat} {l l' : List Int} {k : Int} {op n : Int} (h : At p on i l k) (hx : p.code[i]? = some ⟨op, n⟩) (hj : j ∈ nxts op n i)
    (hl : (l'.length : Int) = l.length + (lays op - takes op)) : At p on j l' (k + 1) := by
  obtain ⟨k', h1, h2⟩ := h.on
  obtain ⟨d1, d2, d3, d4, d5⟩ := (hw.done i h.lt).ok _ _ _ h2 hx
  obtain ⟨g1, k'', g2, g3⟩ := d5 j hj
  obtain ⟨⟨o1, o2⟩, o3, o4⟩ := hG.ins i _ hx
  have hm := nxts_mem (m := p.code.length) hj o3 (fun e => by
    simp only at e o4
    unfold choices at o4
    rcases e with rfl | rfl <;> simpa using o4) h.lt
  have := h.k0
  have := h.k1
  exact ⟨by omega, ⟨k'', by omega, by rw [hl]; exact g3⟩, by omega, by omega⟩
theorem At.room {p : Prg} {on : On} {s t : Int} (hw : Ways p.code.length p.code on p.code.length s t) {i : Nat} {l : List Int} {k : Int} {op n : Int} (h : At p on i l k) (hx : p.code[i]? = some ⟨op, n⟩) : takes op ≤ l.length ∧ (l.length : Int) + (lays op - takes op) ≤ 8 ∧ k + 1 ≤ s := by
  obtain ⟨k', h1, h2⟩ := h.on
  obtain ⟨d1, d2, d3, d4, d5⟩ := (hw.done i h.lt).ok _ _ _ h2 hx
  exact ⟨d1, d2, by omega⟩
theorem At.start {p : Prg} {on : On} {s t : Int} (hG : Good p) (hw : Ways p.code.length p.code on p.code.length s t) : At p on 0 [] 0 := by
  obtain ⟨k, h1, h2⟩ := hw.start
  exact ⟨hG.pos, ⟨k, by omega, h2⟩, by omega, by omega⟩
/-- What a program that may be run tells for a number: an answer's place, and steps. -/
def ran (p : Prg) (t : Int) : Int × Int := exec p.code p.pool t p.code.length 0 [] 0
/-- Where a run stands, and what it will tell. -/
structure Pos (p : Prg) (on : On) (R : Int × Int) (t : Int) (j : Nat) (l : List Int) (k : Int) : Prop where
  at_ : At p on j l k
  eq : exec p.code p.pool t (p.code.length - j) j l k = R
theorem Pos.next {p : Prg} {on : On} {R : Int × Int} {t : Int} {j j' : Nat} {l l' : List Int} {k : Int} {s m op n : Int} (hG : Good p) (hw : Ways p.code.length p.code on p.code.length s m)
    (h : Pos p on R t j l k) (hx : p.code[j]? = some ⟨op, n⟩) (hj : j' ∈ nxts op n j) (hl : (l'.length : Int) = l.length + (lays op - takes op)) (he : exec p.code p.pool t (p.code.length - j - 1 + 1) j l k = exec p.code p.pool t (p.code.length - j - 1) j' l' (k + 1)) :
    Pos p on R t j' l' (k + 1) := by
  have hn := h.at_.next hG hw hx hj hl
  have hlt := h.at_.lt
  have hgt := nxts_gt hj
  refine ⟨hn, ?_⟩
  rw [← h.eq, show p.code.length - j = p.code.length - j - 1 + 1 by omega, he]
  exact exec_fuel _ _ _ _ _ (by omega) (by omega)
theorem Pos.start {p : Prg} {on : On} {t : Int} {s m : Int} (hG : Good p) (hw : Ways p.code.length p.code on p.code.length s m) : Pos p on (ran p t) t 0 [] 0 := ⟨At.start hG hw, rfl⟩
/-- A run ends at an answer, within the steps that Verify says. -/
theorem exec_ends {p : Prg} {on : On} {s m t : Int} (hG : Good p) (hw : Ways p.code.length p.code on p.code.length s m) : ∀ (f j : Nat) (l : List Int) (k : Int), p.code.length ≤ j + f → At p on j l k → 0 ≤ (exec p.code p.pool t f j l k).1 ∧ (exec p.code p.pool t f j l k).1 < p.answers.length ∧ k + 1 ≤ (exec p.code p.pool t f j l k).2 ∧ (exec p.code p.pool t f j l k).2 ≤ s
  | 0, j, l, k, hf, h => by have := h.lt; omega
  | f + 1, j, l, k, hf, h => by
    obtain ⟨⟨op, n⟩, hx⟩ : ∃ x, p.code[j]? = some x := ⟨_, List.getElem?_eq_getElem h.lt⟩
    obtain ⟨⟨o1, o2⟩, n0, n1⟩ := hG.ins j _ hx
    obtain ⟨r1, r2, r3⟩ := h.room hw hx
    simp only at o1 o2 n0 n1
    have step : ∀ (j' : Nat) (l' : List Int), j' ∈ nxts op n j → (l'.length : Int) = l.length + (lays op - takes op) → 0 ≤ (exec p.code p.pool t f j' l' (k + 1)).1 ∧ (exec p.code p.pool t f j' l' (k + 1)).1 < p.answers.length ∧ k + 1 ≤ (exec p.code p.pool t f j' l' (k + 1)).2 ∧ (exec p.code p.pool t f j' l' (k + 1)).2 ≤ s := fun j' l' hj hl => by
      have := nxts_gt hj
      have g := exec_ends (t := t) hG hw f j' l' (k + 1) (by omega) (h.next hG hw hx hj hl)
      exact ⟨g.1, g.2.1, by omega, g.2.2.2⟩
    have ho : op = 1 ∨ op = 2 ∨ op = 3 ∨ op = 4 ∨ op = 5 ∨ op = 6 := by omega
    rcases ho with rfl | rfl | rfl | rfl | rfl | rfl
    · rw [exec_1 hx]; exact step _ _ (by simp [nxts]) (by simp [lays, takes])
    · have np : n < p.pool.length := by simpa [choices] using n1
      obtain ⟨z, hz⟩ : ∃ z, p.pool[n.toNat]? = some z := ⟨_, List.getElem?_eq_getElem (by omega)⟩
      rw [exec_2 hx hz]; exact step _ _ (by simp [nxts]) (by simp [lays, takes])
    · simp [takes] at r1
      obtain ⟨m', hm'⟩ : ∃ m', l.length = m' + 2 := ⟨l.length - 2, by omega⟩
      obtain ⟨a, ha⟩ : ∃ z, l[m']? = some z := ⟨_, List.getElem?_eq_getElem (by omega)⟩
      obtain ⟨b, hb⟩ : ∃ z, l[m' + 1]? = some z := ⟨_, List.getElem?_eq_getElem (by omega)⟩
      rw [exec_3 hx hm' ha hb]
      exact step _ _ (by simp [nxts]) (by rw [List.length_append, List.length_take, hm']; simp [lays, takes]; omega)
    · simp [takes] at r1
      obtain ⟨m', hm'⟩ : ∃ m', l.length = m' + 1 := ⟨l.length - 1, by omega⟩
      obtain ⟨a, ha⟩ : ∃ z, l[m']? = some z := ⟨_, List.getElem?_eq_getElem (by omega)⟩
      rw [exec_4 hx hm' ha]
      exact step _ _ (by split <;> simp [nxts]) (by rw [List.length_take, hm']; simp [lays, takes]; omega)
    · rw [exec_5 hx]; exact step _ _ (by simp [nxts]) (by simp [lays, takes])
    · rw [exec_6 hx]
      have na : n < p.answers.length := by simpa [choices] using n1
      exact ⟨n0, na, by simp, r3⟩
theorem ran_ends {p : Prg} {on : On} {s m t : Int} (hG : Good p) (hw : Ways p.code.length p.code on p.code.length s m) : 0 ≤ (ran p t).1 ∧ (ran p t).1 < p.answers.length ∧ 1 ≤ (ran p t).2 ∧ (ran p t).2 ≤ s := by
  have := exec_ends (t := t) hG hw p.code.length 0 [] 0 (by omega) (At.start hG hw)
  exact ⟨this.1, this.2.1, by have := this.2.2.1; unfold ran; omega, this.2.2.2⟩
end Ver
end Go.Proofs.YtcpmbjlhblkniaaDoor
