/- Contract: parts are compacted in place. -/
import Derived.Test.YthnbmeihaojfnaaGroW
import Derived.Test.YthnbmeihaojfnaaCmpM
namespace Go.Proofs.Ythnbmeihaojfnaa
open Go.ChangeShapes Go.WideShapes Go.ChangeAt Go.RowKit
set_option linter.unusedVariables false
set_option maxRecDepth 100000
theorem says_any (a1 a2 b1 b2 : Int) (w : World) :
    Calls Try.prog 46 #[.agg #[.int .i64 a1, .int .i64 a2], .agg #[.int .i64 b1, .int .i64 b2]] w fun e w' => e = .returned (.bool (a2 == b2)) ∧ Gr w w' := by
  go_enter Try.func46, Try.ntmps46
  go_wp2_with fail
  go_ret
  exact ⟨rfl, ((Gr.refl w).alloc _).alloc _⟩
/-- 'clear' of parts. -/
theorem run_clear2 (W : World) (ty : TypeId) (b o n c : Nat) (hn : 0 < n) (hc : ∀ j, j < n * 2 → (W.cell? ⟨b, o + j, none⟩).isSome = true) (hf : ∀ j, j < n * 2 → W.frozen? ⟨b, o + j, none⟩ = false) :
    (Builtin.clear_ #[63] ty #[.slice (some ⟨b, o, none⟩) n c]).run Try.prog W = .ok (.tuple #[]) (W.setCells b o (List.replicate (n * 2) (.int .i64 0))) := by
  have hzc : (Builtin.zeroCells (Value.agg #[.int .i64 0, .int .i64 0]).cells n).toList = List.replicate (n * 2) (.int .i64 0) := by
    have hc2 : (Value.agg #[.int .i64 0, .int .i64 0]).cells = #[.int .i64 0, .int .i64 0] := by simp [Value.cells]
    rw [hc2]
    simp [Builtin.zeroCells]
    apply List.ext_getElem
    · simp
    · intro i h1 h2
      rcases Nat.mod_two_eq_zero_or_one i with h | h <;> simp [h]
  have hst := run_storeCells_cells (P := Try.prog) b o (List.replicate (n * 2) (.int .i64 0)) 0 W (by simpa using hc) (by simpa using hf) (by intro v hv'; rw [List.eq_of_mem_replicate hv']; rfl)
  simp only [Nat.add_zero] at hst
  obtain ⟨m, rfl⟩ : ∃ m, n = m + 1 := ⟨n - 1, by omega⟩
  have hv : ∀ w, (zeroValue 66).run Try.prog w = .ok (.agg #[.int .i64 0, .int .i64 0]) w := fun w => by kernel_rfl
  simp [Builtin.clear_, run_underlying Try.underlying63, hv, hzc, hst]
/-- Nothing but one block has changed. -/
structure Cg (b : Nat) (w w' : World) : Prop where
  os : w'.os = w.os
  out : w'.output = w.output
  size : w.heap.size ≤ w'.heap.size
  block : ∀ x, x < w.heap.size → x ≠ b → w'.heap[x]? = w.heap[x]?
theorem Cg.ofGr {b : Nat} {w w' : World} (h : Gr w w') : Cg b w w' := ⟨h.os, h.out, h.size, fun x hx _ => h.block x hx⟩
theorem Cg.trans {d : Nat} {a b c : World} (h : Cg d a b) (k : Cg d b c) : Cg d a c :=
  ⟨k.os.trans h.os, k.out.trans h.out, Nat.le_trans h.size k.size, fun x hx hd => (k.block x (Nat.lt_of_lt_of_le hx h.size) hd).trans (h.block x hx hd)⟩
theorem compact_short {ps : List (Int × Int)} (h : ps.length < 2) : compact ps = ps := by
  have := compact_one (ps := ps)
  rwa [List.take_of_length_le (by omega)] at this
theorem parts_row {w : World} {b : Nat} {cs : Array Value} {t : TypeId} {ps : List (Int × Int)} (hrow : w.heap[b]? = some (.cells cs t)) (h : CmpR cs ps 0) : PartsAt w b 0 ps :=
  ⟨fun i x hx => by
    have := h.back i x (Nat.zero_le _) hx
    rw [Nat.zero_add]
    exact ⟨((row_all hrow).1 _).trans this.1, ((row_all hrow).1 _).trans this.2⟩⟩
theorem PartsAt.gr {w w' : World} {b o : Nat} {ps : List (Int × Int)} (h : PartsAt w b o ps) (hg : Gr w w') (hb : b < w.heap.size) : PartsAt w' b o ps :=
  ⟨fun i x hx => ⟨(hg.cell b _ hb).trans (h.cell i x hx).1, (hg.cell b _ hb).trans (h.cell i x hx).2⟩⟩
theorem Cg.setCell {b : Nat} {w w' : World} (h : Cg b w w') (o : Nat) (u : Value) : Cg b w (w'.setCell ⟨b, o, none⟩ u) :=
  ⟨h.os, h.out, by simpa [World.setCell] using h.size, fun x hx hd => (heap_setCell_other w' ⟨b, o, none⟩ x u (by simpa using hd)).trans (h.block x hx hd)⟩
theorem Cg.setCells {b : Nat} {w : World} : ∀ (vs : List Value) (o : Nat) {w' : World}, Cg b w w' → Cg b w (w'.setCells b o vs)
  | [], _, _, h => h
  | v :: r, o, _, h => Cg.setCells r (o + 1) (h.setCell o v)
/-- The second loop's memory. -/
structure InR (w ws : World) (b : Nat) (ps : List (Int × Int)) (k i j M : Nat) (cs : Array Value) : Prop where
  eq : M + 1 = k + j
  one : 1 ≤ j
  lt : M < ps.length
  hi : (compact (ps.take (M + 1))).length = i
  le : i ≤ M
  row : ws.heap[b]? = some (.cells cs 66)
  cmp : CmpR cs ps M
  cg : Cg b w ws
theorem InR.start {w w2 : World} {b : Nat} {ps : List (Int × Int)} {cs : Array Value} {m : Nat} {p q : Int × Int} (hg : Gr w w2) (hb : b < w.heap.size) (hrow : w.heap[b]? = some (.cells cs 66)) (hp : CmpR cs ps 0) (hlt : m + 1 < ps.length) (hall : ∀ (i : Nat) p q, i < m → ps[i]? = some p → ps[i + 1]? = some q → q.2 ≠ p.2) (h1 : ps[m]? = some p) (h2 : ps[m + 1]? = some q) (e : q.2 = p.2) : InR w w2 b ps (m + 1) (m + 1) 1 (m + 1) cs := by
  have E := compact_all m hall (by omega)
  have hf : ∀ (j : Nat) x, (compact (ps.take (m + 1)))[j]? = some x → cs[j * 2]? = some (.int .i64 x.1) ∧ cs[j * 2 + 1]? = some (.int .i64 x.2) := fun j x hj => by
    rw [E, List.getElem?_take] at hj
    split at hj
    · exact hp.back j x (Nat.zero_le _) hj
    · cases hj
  have hm : CmpR cs ps m := ⟨hf, fun j x hj hx => hp.back j x (Nat.zero_le _) hx, hp.size⟩
  refine ⟨rfl, Nat.le_refl _, hlt, ?_, Nat.le_refl _, (hg.block b hb).trans hrow, hm.same h1 h2 e, Cg.ofGr hg⟩
  rw [compact_same h1 h2 e, E, List.length_take]
  omega
theorem InR.skip {w ws wt : World} {b : Nat} {ps : List (Int × Int)} {k i j M : Nat} {cs : Array Value} (h : InR w ws b ps k i j M cs) (hb : b < ws.heap.size) (hg : Gr ws wt) {p q : Int × Int} (h1 : ps[M]? = some p) (h2 : ps[M + 1]? = some q) (e : q.2 = p.2) : InR w wt b ps k i (j + 1) (M + 1) cs :=
  ⟨by have := h.eq; omega, by omega, (List.getElem?_eq_some_iff.1 h2).1, by rw [compact_same h1 h2 e]; exact h.hi, by have := h.le; omega, (hg.block b hb).trans h.row, h.cmp.same h1 h2 e, h.cg.trans (Cg.ofGr hg)⟩
theorem InR.keep {w ws wt : World} {b : Nat} {ps : List (Int × Int)} {k i j M : Nat} {cs : Array Value} (h : InR w ws b ps k i j M cs) (hb : b < ws.heap.size) (hg : Gr ws wt) {p q : Int × Int} (h1 : ps[M]? = some p) (h2 : ps[M + 1]? = some q) (e : q.2 ≠ p.2) : InR w ((wt.setCell ⟨b, i * 2, none⟩ (.int .i64 q.1)).setCell ⟨b, i * 2 + 1, none⟩ (.int .i64 q.2)) b ps k (i + 1) (j + 1) (M + 1) ((cs.setIfInBounds (i * 2) (.int .i64 q.1)).setIfInBounds (i * 2 + 1) (.int .i64 q.2)) := by
  have hi := h.hi
  have hle := h.le
  subst hi
  exact ⟨by have := h.eq; omega, by omega, (List.getElem?_eq_some_iff.1 h2).1, by rw [compact_new h1 h2 e]; simp, by omega, heap_setCell_same _ b _ _ _ _ (heap_setCell_same wt b _ _ _ _ ((hg.block b hb).trans h.row)), h.cmp.new h1 h2 e hle, ((h.cg.trans (Cg.ofGr hg)).setCell _ _).setCell _ _⟩
theorem InR.done {w ws : World} {b : Nat} {ps : List (Int × Int)} {k i j M : Nat} {cs : Array Value} (h : InR w ws b ps k i j M cs) (he : M + 1 = ps.length) (vs : List Value) : (compact ps).length = i ∧ PartsAt (ws.setCells b (i * 2) vs) b 0 (compact ps) ∧ Cg b w (ws.setCells b (i * 2) vs) := by
  have e : ps.take (M + 1) = ps := List.take_of_length_le (by omega)
  have hi := h.hi
  have hf := h.cmp.front
  rw [e] at hi hf
  refine ⟨hi, ⟨fun x y hx => ?_⟩, Cg.setCells _ _ h.cg⟩
  have hl := (List.getElem?_eq_some_iff.1 hx).1
  have := hf x y hx
  rw [Nat.zero_add]
  exact ⟨(World.cell?_setCells_out b vs _ ws _ (fun _ _ => Or.inl (by simp only; omega))).trans (((row_all h.row).1 _).trans this.1), (World.cell?_setCells_out b vs _ ws _ (fun _ _ => Or.inl (by simp only; omega))).trans (((row_all h.row).1 _).trans this.2)⟩
set_option maxHeartbeats 3200000 in
theorem compactFunc_any (b cap : Nat) (cs : Array Value) (ps : List (Int × Int)) (w : World) (hb : b < w.heap.size) (hrow : w.heap[b]? = some (.cells cs 66)) (hp : CmpR cs ps 0) (h0 : 0 < ps.length) (hn : ps.length ≤ 100000) (hcap : ps.length ≤ cap) (hcap' : cap ≤ 9223372036854775807) :
    Calls Try.prog 45 #[.slice (some ⟨b, 0, none⟩) ps.length cap, .func (.func 46) #[] #[]] w fun e w' => e = .returned (.slice (some ⟨b, 0, none⟩) (compact ps).length cap) ∧ PartsAt w' b 0 (compact ps) ∧ Cg b w w' := by
  have hP := parts_row hrow hp
  have Hrow : Hid _ := hrow
  clear hrow
  go_enter Try.func45, Try.ntmps45
  by_cases h2 : ps.length < 2
  · have h2' : decide ((ps.length : Int) < 2) = true := by simp; omega
    have E : Hid _ := compact_short h2
    go_wp2
    go_ret
    rw [E.out]
    exact ⟨rfl, hP, Cg.ofGr (Gr.refl w)⟩
  · have h2' : decide ((ps.length : Int) < 2) = false := by simp; omega
    go_wp2_with fail
    go_loopw [5] (fun t wr => ∃ k m : Nat, k = m + 1 ∧ m < ps.length ∧ t = .int .i64 k ∧ (∀ (i : Nat) p q, i < m → ps[i]? = some p → ps[i + 1]? = some q → q.2 ≠ p.2) ∧ Gr w wr) (fun t _ => ps.length - (intOf t).toNat)
    case atStart => exact ⟨1, 0, rfl, by omega, rfl, fun i p q h => absurd h (Nat.not_lt_zero _), Gr.refl w⟩
    case round =>
      obtain ⟨k, m, hk, hm, rfl, hall, hgr⟩ := hrel
      have Hall : Hid _ := hall
      clear hall
      have hkm : (k : Int) - 1 = (m : Int) := by omega
      have Hk : Hid _ := hk
      by_cases hlt : k < ps.length
      · obtain ⟨p, hp1⟩ : ∃ p, ps[m]? = some p := ⟨_, List.getElem?_eq_getElem hm⟩
        obtain ⟨q, hq1⟩ : ∃ q, ps[k]? = some q := ⟨_, List.getElem?_eq_getElem hlt⟩
        obtain ⟨c1, c2⟩ := (hP.gr hgr hb).cell m p hp1
        obtain ⟨c3, c4⟩ := (hP.gr hgr hb).cell k q hq1
        rw [Nat.zero_add] at c1 c2 c3 c4
        have Hp1 : Hid _ := hp1
        have Hq1 : Hid _ := hq1
        obtain ⟨p1, p2⟩ := p
        obtain ⟨q1, q2⟩ := q
        have hO : wr.cell? ⟨b, k * 2, none⟩ = some (.int .i64 q1) ∧ wr.cell? ⟨b, k * 2 + 1, none⟩ = some (.int .i64 q2) ∧ wr.cell? ⟨b, m * 2, none⟩ = some (.int .i64 p1) ∧ wr.cell? ⟨b, m * 2 + 1, none⟩ = some (.int .i64 p2) := ⟨c3, c4, c1, c2⟩
        have hbr : b < wr.heap.size := Nat.lt_of_lt_of_le hb hgr.size
        clear hp1 hq1 c1 c2 c3 c4 hk
        have hwr : IntKind.i64.wrap ((k : Int) - 1) = (m : Int) := by rw [hkm]; exact IntWalk.i64_in _ ⟨by omega, by omega⟩
        have hwm : IntKind.i64.wrap (m : Int) = (m : Int) := IntWalk.i64_in _ ⟨by omega, by omega⟩
        have i5 : (0 : Int) ≤ (m : Int) := by omega
        have i6 : (m : Int) < (ps.length : Int) := by omega
        have i7 : (k : Int) < (ps.length : Int) := by omega
        go_upto_region 6 with fail
        go_region_held3 (fun w' => w'.cell? ⟨b, k * 2, none⟩ = some (.int .i64 q1) ∧ w'.cell? ⟨b, k * 2 + 1, none⟩ = some (.int .i64 q2) ∧ w'.cell? ⟨b, m * 2, none⟩ = some (.int .i64 p1) ∧ w'.cell? ⟨b, m * 2 + 1, none⟩ = some (.int .i64 p2)) (first | with_reducible exact hO | (simpa [go_sem] using hO))
          (first
            | (go_at_call 46; refine (says_any _ _ _ _ _).mono ?_; rintro e w2 ⟨rfl, hg2⟩; replace hO := And.intro ((hg2.cell b _ (by exact hbr)).trans hO.1) (And.intro ((hg2.cell b _ (by exact hbr)).trans hO.2.1) (And.intro ((hg2.cell b _ (by exact hbr)).trans hO.2.2.1) ((hg2.cell b _ (by exact hbr)).trans hO.2.2.2)))))
        have hg3 : Gr w w2 := hgr.trans ((Gr.refl _).drew.trans hg2)
        by_cases he : q2 = p2
        · have he' : (q2 == p2) = true := by simpa using he
          have He : Hid _ := he
          clear he
          have i1 : (k : Int) ≤ (ps.length : Int) := by omega
          have i2 : (k : Int) ≤ (cap : Int) := by omega
          have i3 : (ps.length : Int) ≤ (cap : Int) := by omega
          have i4 : k ≤ ps.length := by omega
          go_wp2_with fail
          have hS : InR w w2 b ps k k 1 k cs := by
            have hk := Hk.out
            subst hk
            exact InR.start hg3 hb Hrow.out hp (by omega) Hall.out Hp1.out Hq1.out He.out
          rw [he']
          go_loopw [5, 7] (fun t u ws => ∃ (i j M : Nat) (cs' : Array Value), t = .int .i64 i ∧ u = .int .i64 j ∧ InR w ws b ps k i j M cs') (fun _ u _ => ps.length - (intOf u).toNat)
          case atStart => exact ⟨k, 1, k, cs, rfl, rfl, hS⟩
          case round =>
            obtain ⟨i, j, M, cs', rfl, rfl, hR⟩ := hrel
            have a1 := hR.eq
            have a2 := hR.one
            have a3 := hR.lt
            have a4 := hR.le
            by_cases hl2 : j < ps.length - k
            · obtain ⟨l, hl⟩ : ∃ l, j = l + 1 := ⟨j - 1, by omega⟩
              obtain ⟨p', hp3⟩ : ∃ p, ps[M]? = some p := ⟨_, List.getElem?_eq_getElem a3⟩
              obtain ⟨q', hq3⟩ : ∃ q, ps[M + 1]? = some q := ⟨_, List.getElem?_eq_getElem (by omega)⟩
              obtain ⟨d1, d2⟩ := hR.cmp.back M p' (Nat.le_refl _) hp3
              obtain ⟨d3, d4⟩ := hR.cmp.back (M + 1) q' (Nat.le_succ _) hq3
              have rr := (row_all hR.row).1
              have hO2 : wr.cell? ⟨b, k * 2 + j * 2, none⟩ = some (.int .i64 q'.1) ∧ wr.cell? ⟨b, k * 2 + j * 2 + 1, none⟩ = some (.int .i64 q'.2) ∧ wr.cell? ⟨b, k * 2 + l * 2, none⟩ = some (.int .i64 p'.1) ∧ wr.cell? ⟨b, k * 2 + l * 2 + 1, none⟩ = some (.int .i64 p'.2) := by
                rw [rr, rr, rr, rr, show k * 2 + j * 2 = (M + 1) * 2 by omega, show k * 2 + l * 2 = M * 2 by omega]
                exact ⟨d3, d4, d1, d2⟩
              have hbs : b < wr.heap.size := Nat.lt_of_lt_of_le hb hR.cg.size
              have hwj : IntKind.i64.wrap ((j : Int) - 1) = (l : Int) := by rw [show (j : Int) - 1 = (l : Int) by omega]; exact IntWalk.i64_in _ ⟨by omega, by omega⟩
              have l1 : (0 : Int) ≤ (l : Int) := by omega
              have l2 : (l : Int) < ((ps.length - k : Nat) : Int) := by omega
              have l3 : (j : Int) < ((ps.length - k : Nat) : Int) := by omega
              have l4 : (i : Int) < (ps.length : Int) := by omega
              have Hp3 : Hid _ := hp3
              have Hq3 : Hid _ := hq3
              have Hl : Hid _ := hl
              have Ha1 : Hid _ := a1
              clear hp3 hq3 d1 d2 d3 d4 rr hl a1 hO hkm hwr hwm
              obtain ⟨p1', p2'⟩ := p'
              obtain ⟨q1', q2'⟩ := q'
              simp only at hO2
              by_cases hf : q2' = p2'
              · have hf' : (q2' == p2') = true := by simpa using hf
                have hf2 : (q2' != p2') = false := by simpa using hf
                have Hf : Hid _ := hf
                clear hf
                go_upto_region 11 with fail
                go_region_held3 (fun w' => w'.cell? ⟨b, k * 2 + j * 2, none⟩ = some (.int .i64 q1') ∧ w'.cell? ⟨b, k * 2 + j * 2 + 1, none⟩ = some (.int .i64 q2') ∧ w'.cell? ⟨b, k * 2 + l * 2, none⟩ = some (.int .i64 p1') ∧ w'.cell? ⟨b, k * 2 + l * 2 + 1, none⟩ = some (.int .i64 p2')) (first | with_reducible exact hO2 | (simpa [go_sem] using hO2))
                  (first
                    | (go_at_call 46; refine (says_any _ _ _ _ _).mono ?_; rintro e w4 ⟨rfl, hg4⟩; replace hO2 := And.intro ((hg4.cell b _ (by exact hbs)).trans hO2.1) (And.intro ((hg4.cell b _ (by exact hbs)).trans hO2.2.1) (And.intro ((hg4.cell b _ (by exact hbs)).trans hO2.2.2.1) ((hg4.cell b _ (by exact hbs)).trans hO2.2.2.2)))))
                have hg5 : Gr wr w4 := (Gr.refl _).drew.trans hg4
                go_wp2
                go_roundw
                case rel =>
                  exact ⟨i, j + 1, M + 1, cs', rfl, by go_num, hR.skip hbs hg5 Hp3.out Hq3.out Hf.out⟩
                case measure => simp [intOf]; omega
              · have hf' : (q2' == p2') = false := by simpa using hf
                have hf2 : (q2' != p2') = true := by simpa using hf
                have Hf : Hid _ := hf
                clear hf
                go_upto_region 11 with fail
                go_region_held3 (fun w' => w'.cell? ⟨b, k * 2 + j * 2, none⟩ = some (.int .i64 q1') ∧ w'.cell? ⟨b, k * 2 + j * 2 + 1, none⟩ = some (.int .i64 q2') ∧ w'.cell? ⟨b, k * 2 + l * 2, none⟩ = some (.int .i64 p1') ∧ w'.cell? ⟨b, k * 2 + l * 2 + 1, none⟩ = some (.int .i64 p2')) (first | with_reducible exact hO2 | (simpa [go_sem] using hO2))
                  (first
                    | (go_at_call 46; refine (says_any _ _ _ _ _).mono ?_; rintro e w4 ⟨rfl, hg4⟩; replace hO2 := And.intro ((hg4.cell b _ (by exact hbs)).trans hO2.1) (And.intro ((hg4.cell b _ (by exact hbs)).trans hO2.2.1) (And.intro ((hg4.cell b _ (by exact hbs)).trans hO2.2.2.1) ((hg4.cell b _ (by exact hbs)).trans hO2.2.2.2)))))
                have hg5 : Gr wr w4 := (Gr.refl _).drew.trans hg4
                obtain ⟨r4, f4⟩ := row_all ((hg5.block b hbs).trans hR.row)
                have hz := hR.cmp.size
                have g0 := (r4 (i * 2)).trans (Array.getElem?_eq_getElem (by omega))
                have g1 := (r4 (i * 2 + 1)).trans (Array.getElem?_eq_getElem (by omega))
                clear r4
                go_wp2
                go_roundw
                case rel =>
                  exact ⟨i + 1, j + 1, M + 1, _, by go_num, by go_num, hR.keep hbs hg5 Hp3.out Hq3.out Hf.out⟩
                case measure => simp [intOf]; omega
            · have hM : M + 1 = ps.length := by omega
              have l3 : ¬ (j : Int) < ((ps.length - k : Nat) : Int) := by omega
              have l4 : (i : Int) ≤ (ps.length : Int) := by omega
              obtain ⟨r4, f4⟩ := row_all hR.row
              have hz := hR.cmp.size
              have hcl : ∀ ty, (Builtin.clear_ #[63] ty #[.slice (some ⟨b, i * 2, none⟩) (ps.length - i) (cap - i)]).run Try.prog wr = .ok (.tuple #[]) (wr.setCells b (i * 2) (List.replicate ((ps.length - i) * 2) (.int .i64 0))) := fun ty => run_clear2 wr ty b (i * 2) _ _ (by omega) (fun x hx => by rw [r4, Array.getElem?_eq_getElem (by omega)]; rfl) (fun x hx => f4 _)
              clear r4 f4 hO hkm hwr hwm
              have D : Hid _ := hR.done hM (List.replicate ((ps.length - i) * 2) (.int .i64 0))
              have j1 : (i : Int) ≤ (cap : Int) := by omega
              have j2 : i ≤ ps.length := by omega
              have j3 : i ≤ cap := by omega
              go_wp2
              go_ret
              rw [D.out.1]
              exact ⟨rfl, D.out.2.1, D.out.2.2⟩
        · have he' : (q2 == p2) = false := by simpa using he
          have He : Hid _ := he
          clear he
          go_wp2
          go_roundw
          case rel =>
            have hk := Hk.out
            refine ⟨k + 1, k, rfl, hlt, by go_num, fun i p q hi h1 h3 => ?_, hg3⟩
            rcases Nat.lt_or_ge i m with g | g
            · exact Hall.out i p q g h1 h3
            · have : i = m := by omega
              subst this
              have e1 := Hp1.out
              have e2 := Hq1.out
              rw [hk] at e2
              rw [e1] at h1
              rw [e2] at h3
              cases h1
              cases h3
              exact He.out
          case measure => simp [intOf]; omega
      · have hkl : k = ps.length := by have := Hk.out; omega
        have E : Hid _ := compact_all m Hall.out hm
        go_wp2
        go_ret
        have E' := E.out
        rw [List.take_of_length_le (by have := Hk.out; omega)] at E'
        rw [E']
        exact ⟨rfl, hP.gr hgr hb, Cg.ofGr hgr⟩
end Go.Proofs.Ythnbmeihaojfnaa
