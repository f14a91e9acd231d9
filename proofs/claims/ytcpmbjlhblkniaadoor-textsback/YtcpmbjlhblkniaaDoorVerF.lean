/- Contract: code is followed on all ways (P5.3), by the program. -/
import Derived.Test.YtcpmbjlhblkniaaDoorVerC
namespace Go.Proofs.YtcpmbjlhblkniaaDoor
open Go.ChangeShapes Go.WideShapes Go.ChangeAt Go.RowKit
set_option linter.unusedVariables false
set_option maxRecDepth 100000
def ret3 (r : Int × Int × Int) : Ending := .returned (.tuple #[.int .i64 r.1, .int .i64 r.2.1, .int .i64 r.2.2])
theorem Tryd.infoArr : ∃ i, Tryd.prog.info? 103 = some i ∧ i.zero = some (.agg #[.bool false, .int .i64 0, .int .i64 0]) ∧ i.size = 3 ∧ i.bytes = 24 :=
  ⟨_, rfl, by kernel_rfl, by kernel_rfl, by kernel_rfl⟩
theorem made3 {n i j : Nat} (hi : i < n) (hj : j < 3) : (madeCells #[.bool false, .int .i64 0, .int .i64 0] (n * 3))[i * 3 + j]? = (#[.bool false, .int .i64 0, .int .i64 0] : Array Value)[j]? := by
  have h : i * 3 + j < n * 3 := by omega
  have hm : (i * 3 + j) % 3 = j := by omega
  simp [madeCells, h, hm]
  have : j = 0 ∨ j = 1 ∨ j = 2 := by omega
  rcases this with rfl | rfl | rfl <;> simp
theorem made3_size (n : Nat) : (madeCells #[.bool false, .int .i64 0, .int .i64 0] (n * 3)).size = n * 3 := by simp [madeCells]
theorem ArrAt.start' {w : World} {b n : Nat} (hn : 0 < n) (h : w.heap[b]? = some (.cells ((madeCells #[.bool false, .int .i64 0, .int .i64 0] (n * 3)).setIfInBounds 0 (.bool true)) 103)) :
    ArrAt w b n Ver.on0 ((madeCells #[.bool false, .int .i64 0, .int .i64 0] (n * 3)).setIfInBounds 0 (.bool true)) := by
  refine ⟨h, by simp [made3_size], fun i hi => ?_, fun i hi => ?_, fun i hi => ?_⟩
  · by_cases e : i = 0
    · subst e
      simp [Array.getElem?_setIfInBounds, made3_size, Ver.on0]; omega
    · rw [Array.getElem?_setIfInBounds_ne (by omega)]
      have := made3 (j := 0) hi (by decide)
      simpa [Ver.on0, e] using this
  · rw [Array.getElem?_setIfInBounds_ne (by omega)]
    have := made3 (j := 1) hi (by decide)
    by_cases e : i = 0 <;> simpa [Ver.on0, e, Ver.stk] using this
  · rw [Array.getElem?_setIfInBounds_ne (by omega)]
    have := made3 (j := 2) hi (by decide)
    by_cases e : i = 0 <;> simpa [Ver.on0, e, Ver.stp] using this
/-- The loop's memory. -/
structure FolR (w wr : World) (b : Nat) (code : List Ins) (R : Int × Int × Int) (i : Nat) (s t : Int) (on : Ver.On) (cs : Array Value) : Prop where
  gr : Gr w wr
  lt : b < wr.heap.size
  arr : ArrAt wr b code.length on cs
  ok : Ver.OnOk on
  eq : Ver.run code.length (code.drop i) i on s t = R
  s0 : 0 ≤ s
  s1 : s ≤ 8001
  t0 : 0 ≤ t
  t1 : t ≤ 8
theorem lay_bd (op : Int) : 0 ≤ Ver.lays op ∧ Ver.lays op ≤ 1 := by unfold Ver.lays; split <;> omega
theorem tak_bd (op : Int) : 0 ≤ Ver.takes op ∧ Ver.takes op ≤ 2 := by unfold Ver.takes; split; omega; split <;> omega
theorem max_if (n k : Int) : (if n < k then k else n) = max n k := by split <;> omega
theorem alloc_lt (w : World) (o : Obj) : w.heap.size < (w.alloc o).heap.size := by simp
def aftA (d k t l : Int) : Bool × Int × Int := if d < t then (false, 0, 0) else (true, d + (l - t), k + 1)
def aftB (d t l : Int) : Bool := decide (¬ (d < t ∨ 8 < d + (l - t)))
set_option maxHeartbeats 1600000 in
theorem after_is (d k t l : Int) (nm : ByteArray) (nb : Bool) (w : World) (h1 : 0 ≤ d) (h2 : d ≤ 8) (h3 : 0 ≤ k) (h4 : k ≤ 10000) (h5 : 0 ≤ t) (h6 : t ≤ 2) (h7 : 0 ≤ l) (h8 : l ≤ 1) :
    Calls Tryd.prog 45 #[.agg #[.bool true, .int .i64 d, .int .i64 k], .agg #[.string nm, .int .i64 t, .int .i64 l, .bool nb]] w fun e w' =>
      e = .returned (.tuple #[.agg #[.bool (aftA d k t l).1, .int .i64 (aftA d k t l).2.1, .int .i64 (aftA d k t l).2.2], .bool (aftB d t l)]) ∧ Gr w w' := by
  by_cases h : d < t
  · have hd : decide (d < t) = true := by simpa using h
    have e1 : aftA d k t l = (false, 0, 0) := by rw [aftA, if_pos h]
    have e2 : aftB d t l = false := by simp [aftB, h]
    rw [e1, e2]
    go_enter Tryd.func45, Tryd.ntmps45
    go_wp2
    refine bodyPost_ret (v := .tuple #[.agg #[.bool false, .int .i64 0, .int .i64 0], .bool false]) (by simp [results, Tryd.results45, go_sem]) rfl ⟨rfl, ?_⟩
    repeat (with_reducible first | exact Gr.refl _ | refine Gr.alloc ?_ _ | refine Gr.setCell ?_ (by simp) _)
  · have hd : decide (d < t) = false := by simpa using h
    have e1 : aftA d k t l = (true, d + (l - t), k + 1) := by rw [aftA, if_neg h]
    have e2 : aftB d t l = decide (d + (l - t) ≤ 8) := by unfold aftB; congr 1; simp; omega
    rw [e1, e2]
    clear e1 e2
    go_enter Tryd.func45, Tryd.ntmps45
    go_wp2
    go_region
    all_goals
      go_wp2
      refine bodyPost_ret (v := .tuple #[.agg #[.bool true, .int .i64 (d + (l - t)), .int .i64 (k + 1)], .bool (decide (d + (l - t) ≤ 8))]) (by simp [results, Tryd.results45, go_sem]) rfl ⟨rfl, ?_⟩
      repeat (with_reducible first | exact Gr.refl _ | refine Gr.drew ?_ | refine Gr.drewN ?_ _ | refine Gr.alloc ?_ _ | refine Gr.setCell ?_ (by simp) _)
theorem folS {w4 w5 w6 : World} {A X i : Nat} {d k op n : Int} (h : w5.cell? ⟨A, i * 3, none⟩ = some (.bool true) ∧ w5.cell? ⟨A, i * 3 + 1, none⟩ = some (.int .i64 d) ∧ w5.cell? ⟨A, i * 3 + 2, none⟩ = some (.int .i64 k) ∧ w5.cell? ⟨X, 0, none⟩ = some (.int .i64 op) ∧ w5.cell? ⟨X, 1, none⟩ = some (.int .i64 n) ∧ Gr w4 w5) (hg : Gr w5 w6) (zA : A < w4.heap.size) (zX : X < w4.heap.size) : w6.cell? ⟨A, i * 3, none⟩ = some (.bool true) ∧ w6.cell? ⟨A, i * 3 + 1, none⟩ = some (.int .i64 d) ∧ w6.cell? ⟨A, i * 3 + 2, none⟩ = some (.int .i64 k) ∧ w6.cell? ⟨X, 0, none⟩ = some (.int .i64 op) ∧ w6.cell? ⟨X, 1, none⟩ = some (.int .i64 n) ∧ Gr w4 w6 :=
  ⟨(hg.cell _ _ (Nat.lt_of_lt_of_le zA h.2.2.2.2.2.size)).trans h.1, (hg.cell _ _ (Nat.lt_of_lt_of_le zA h.2.2.2.2.2.size)).trans h.2.1, (hg.cell _ _ (Nat.lt_of_lt_of_le zA h.2.2.2.2.2.size)).trans h.2.2.1, (hg.cell _ _ (Nat.lt_of_lt_of_le zX h.2.2.2.2.2.size)).trans h.2.2.2.1, (hg.cell _ _ (Nat.lt_of_lt_of_le zX h.2.2.2.2.2.size)).trans h.2.2.2.2.1, h.2.2.2.2.2.trans hg⟩
set_option maxHeartbeats 3200000 in
theorem follow_any (p : Prg) (w : World) (hp : PrgOk w p) (hT : Opr w) (hg : Ver.Good p) :
    Calls Tryd.prog 22 #[.slice p.ca p.code.length p.ccap] w fun e w' => e = ret3 (Ver.run p.code.length p.code 0 Ver.on0 0 0) ∧ Gr w w' := by
  obtain ⟨ca, ccap, code, pa, pcap, pool, aa, acap, answers⟩ := p
  have l1 := hg.clen
  have l0 := hg.pos
  simp only at l0 l1 ⊢
  obtain ⟨R, hR⟩ : ∃ R, R = Ver.run code.length code 0 Ver.on0 0 0 := ⟨_, rfl⟩
  rw [← hR]
  obtain ⟨i0, hi, hi1, hi2, hi3⟩ := Tryd.infoArr
  have hmk : ∀ W : World, (Instr.makeSlice 101 (.int .i64 (code.length : Int)) (.int .i64 (code.length : Int))).run Tryd.prog W = .ok (.slice (some ⟨W.heap.size, 0, none⟩) code.length code.length) (W.alloc (.cells (madeCells #[.bool false, .int .i64 0, .int .i64 0] (code.length * 3)) 103)) := fun W => by
    have := run_makeSlice (P := Tryd.prog) W 101 103 i0 _ Tryd.underlying101 hi hi1 .i64 .i64 (code.length : Int) (code.length : Int) (by omega) (Int.le_refl _) (by rw [hi2]; simp; omega) (by rw [hi3]; omega) (by omega)
    rw [hi2] at this
    simpa [Value.cells] using this
  have hz0 : (0 : Int) < (code.length : Int) := by omega
  have hm0 : (madeCells #[Value.bool false, .int .i64 0, .int .i64 0] (code.length * 3))[0]? = some (.bool false) := by simpa using made3 (j := 0) l0 (by decide)
  go_enter Tryd.func22, Tryd.ntmps22
  go_wp2_with fail
  obtain ⟨W0, hW0⟩ : ∃ W0, W0 = w.alloc (.cells ((madeCells #[.bool false, .int .i64 0, .int .i64 0] (code.length * 3)).setIfInBounds 0 (.bool true)) 103) := ⟨_, rfl⟩
  have hst : FolR w W0 w.heap.size code R 0 0 0 Ver.on0 ((madeCells #[.bool false, .int .i64 0, .int .i64 0] (code.length * 3)).setIfInBounds 0 (.bool true)) :=
    ⟨by rw [hW0]; exact (Gr.refl w).alloc _, by rw [hW0]; simp, ArrAt.start' l0 (by rw [hW0]; exact heapA _ _), Ver.OnOk.start, hR.symm, by omega, by omega, by omega, by omega⟩
  rw [← hW0]
  clear hW0 hmk hm0 hR
  go_loopw [6, 7, 22] (fun s t u wr => ∃ (i : Nat) (s' t' : Int) (on : Ver.On) (cs : Array Value), i ≤ code.length ∧ u = .int .i64 i ∧ s = .int .i64 s' ∧ t = .int .i64 t' ∧ FolR w wr w.heap.size code R i s' t' on cs) (fun _ _ u _ => code.length - (intOf u).toNat)
  case atStart => exact ⟨0, 0, 0, _, _, Nat.zero_le _, rfl, rfl, rfl, hst⟩
  case round =>
    obtain ⟨i, s, t, on, cs, hik, rfl, rfl, rfl, hF⟩ := hrel
    clear hst
    by_cases hlt : i < code.length
    · obtain ⟨x, hx⟩ : ∃ x, code[i]? = some x := ⟨_, List.getElem?_eq_getElem hlt⟩
      obtain ⟨b, o, rfl, hb, hc1, hc2⟩ := hp.cat.cell i x hx
      have q0 := (hF.gr.cell b _ hb).trans hc1
      have q1 := (hF.gr.cell b _ hb).trans hc2
      have hb' : b < wr.heap.size := Nat.lt_of_lt_of_le hb hF.gr.size
      have hbn : b ≠ w.heap.size := by omega
      obtain ⟨⟨o1, o2⟩, n0, n1⟩ := hg.ins i x hx
      have zb := hF.lt
      have a0 := ((row_all hF.arr.row).1 _).trans (hF.arr.some_ i hlt)
      have a1 := ((row_all hF.arr.row).1 _).trans (hF.arr.stack i hlt)
      have a2 := ((row_all hF.arr.row).1 _).trans (hF.arr.steps i hlt)
      have Hx : Hid _ := hx
      obtain ⟨op, n⟩ := x
      simp only at o1 o2 n0 n1 q0 q1
      clear hx hc1 hc2
      cases hon : on i with
      | none =>
        have E : Hid _ := Ver.run_none (n := code.length) (s := s) (t := t) Hx.out hon
        rw [hon] at a0
        simp at a0
        have HF : Hid _ := hF
        clear hF hon a1 a2
        go_wp2
        have hF := HF.out
        refine ⟨⟨i + 1, s, t, on, cs, by omega, by go_num, rfl, rfl, ⟨hF.gr.alloc _, by simp; omega, hF.arr.gr ((Gr.refl _).alloc _) hF.lt, hF.ok, E.out.symm.trans hF.eq, hF.s0, hF.s1, hF.t0, hF.t1⟩⟩, by simp [intOf]; omega⟩
      | some v =>
        obtain ⟨d, k⟩ := v
        rw [hon] at a0 a1 a2
        simp [Ver.stk, Ver.stp] at a0 a1 a2
        obtain ⟨d0, d1, k0, k1⟩ := hF.ok.bd i d k hon
        have Hon : Hid _ := hon
        have HF : Hid _ := hF
        clear hF hon
        obtain ⟨y0, y1⟩ := lay_bd op
        obtain ⟨y2, y3⟩ := tak_bd op
        have nb : n ≤ 8000 := by
          unfold Ver.choices at n1
          have g1 := hg.plen
          have g2 := hg.alen
          simp only at g1 g2
          split at n1
          · omega
          split at n1
          · omega
          split at n1 <;> omega
        by_cases herr : d < Ver.takes op ∨ 8 < d + (Ver.lays op - Ver.takes op)
        · have HAf : Hid _ := fun (nm : ByteArray) (nb : Bool) (W : World) => after_is d k (Ver.takes op) (Ver.lays op) nm nb W (by omega) (by omega) (by omega) (by omega) (by omega) (by omega) (by omega) (by omega)
          have eB : aftB d (Ver.takes op) (Ver.lays op) = false := by unfold aftB; exact decide_eq_false (fun h => h herr)
          have Herr : Hid _ := herr
          clear herr
          go_upto_region 8 with fail
          obtain ⟨w4, hw4⟩ : ∃ w4, w4 = wr.alloc (Obj.cells #[Value.int .i64 op, Value.int .i64 n] 54) := ⟨_, rfl⟩
          rw [← hw4]
          have hg4 : Gr wr w4 := by rw [hw4]; exact (Gr.refl _).alloc _
          have zX : wr.heap.size < w4.heap.size := by rw [hw4]; simp
          have zA : w.heap.size < w4.heap.size := Nat.lt_of_lt_of_le zb hg4.size
          have hO : w4.cell? ⟨w.heap.size, i * 3, none⟩ = some (.bool true) ∧ w4.cell? ⟨w.heap.size, i * 3 + 1, none⟩ = some (.int .i64 d) ∧ w4.cell? ⟨w.heap.size, i * 3 + 2, none⟩ = some (.int .i64 k) ∧ w4.cell? ⟨wr.heap.size, 0, none⟩ = some (.int .i64 op) ∧ w4.cell? ⟨wr.heap.size, 1, none⟩ = some (.int .i64 n) ∧ Gr w4 w4 :=
            ⟨(hg4.cell _ _ zb).trans a0, (hg4.cell _ _ zb).trans a1, (hg4.cell _ _ zb).trans a2, by rw [hw4]; exact cell_new wr _ _ 0, by rw [hw4]; exact cell_new wr _ _ 1, Gr.refl _⟩
          have hT4 : Opr w4 := (hT.gr HF.out.gr).gr hg4
          have HO4 : Hid _ := hO
          clear hw4 a0 a1 a2 q0 q1
          go_region_held3 (fun w' => w'.cell? ⟨w.heap.size, i * 3, none⟩ = some (.bool true) ∧ w'.cell? ⟨w.heap.size, i * 3 + 1, none⟩ = some (.int .i64 d) ∧ w'.cell? ⟨w.heap.size, i * 3 + 2, none⟩ = some (.int .i64 k) ∧ w'.cell? ⟨wr.heap.size, 0, none⟩ = some (.int .i64 op) ∧ w'.cell? ⟨wr.heap.size, 1, none⟩ = some (.int .i64 n) ∧ Gr w4 w') (first | with_reducible exact hO | exact folS HO4.out (by repeat (with_reducible first | exact hO.2.2.2.2.2 | exact Gr.refl _ | refine Gr.drew ?_ | refine Gr.alloc ?_ _ | refine Gr.setCell ?_ (by first | exact z6 | exact z5 | exact Nat.le_refl _) _)) zA zX)
            (first
              | (go_at_call 46; refine (operatorOf_any _ _ (hT4.gr (Gr.trans hO.2.2.2.2.2 (by repeat (with_reducible first | exact Gr.refl _ | refine Gr.drew ?_ | refine Gr.alloc ?_ _)))) (by omega) (by omega)).mono ?_; rintro e w5 ⟨rfl, hg5⟩; replace hO := folS hO (Gr.trans (by repeat (with_reducible first | exact Gr.refl _ | refine Gr.drew ?_ | refine Gr.alloc ?_ _)) hg5) zA zX; have z5 := hO.2.2.2.2.2.size
                 try (have kT := (hg5.block _ (by simp)).trans (heapA _ _)
                      have zT := Nat.lt_of_lt_of_le (alloc_lt _ _) hg5.size
                      have cT := (row_all kT).1
                      have fT := (row_all kT).2))
              | (go_at_call 45; refine (HAf.out _ _ _).mono ?_; rintro e w6 ⟨rfl, hg6⟩; replace hO := folS hO (Gr.trans (by repeat (with_reducible first | exact Gr.refl _ | refine Gr.drew ?_ | refine Gr.alloc ?_ _)) hg6) zA zX; have z6 := hO.2.2.2.2.2.size
                 first
                   | (have kT2 := (hg6.block _ zT).trans kT
                      have cT2 := (row_all kT2).1
                      have fT2 := (row_all kT2).2)
                   | (have kT := (hg6.block _ (by simp)).trans (heapA _ _)
                      have cT := (row_all kT).1
                      have fT := (row_all kT).2)
                   | skip))
          all_goals
            go_wp2
            exact bodyPost_ret (v := .tuple #[.int .i64 0, .int .i64 0, .int .i64 10]) (by simp [results, Tryd.results22, go_sem]) rfl ⟨by rw [← HF.out.eq, Ver.run_stack Hx.out Hon.out Herr.out]; rfl, (HF.out.gr.trans hg4).trans (by repeat (with_reducible first | exact hO.2.2.2.2.2 | exact Gr.refl _ | refine Gr.drew ?_ | refine Gr.alloc ?_ _ | refine Gr.setCell ?_ (by first | exact z6 | exact z5 | exact Nat.le_refl _) _))⟩
        · obtain ⟨D, hD⟩ : ∃ D, D = d + (Ver.lays op - Ver.takes op) := ⟨_, rfl⟩
          have eB : aftB d (Ver.takes op) (Ver.lays op) = true := by unfold aftB; exact decide_eq_true herr
          have eA : aftA d k (Ver.takes op) (Ver.lays op) = (true, D, k + 1) := by rw [aftA, if_neg (fun h => herr (Or.inl h)), hD]
          have HAf : Hid _ := fun (nm : ByteArray) (nb : Bool) (W : World) => by
            have := after_is d k (Ver.takes op) (Ver.lays op) nm nb W (by omega) (by omega) (by omega) (by omega) (by omega) (by omega) (by omega) (by omega)
            rw [eA, eB] at this
            exact this
          obtain ⟨js, hjs⟩ : ∃ js, js = Ver.nxts op n i := ⟨_, rfl⟩
          have Hm : Hid (∀ j ∈ js, i < j ∧ j ≤ code.length) := by
            intro j hj
            rw [hjs] at hj
            refine Ver.nxts_mem hj n0 (fun ho => ?_) hlt
            unfold Ver.choices at n1
            rcases ho with rfl | rfl <;> simpa using n1
          have hjl2 : js.length ≤ 2 := by rw [hjs]; unfold Ver.nxts; split; simp; split; simp; split <;> simp
          have HNx : Hid _ := fun W => by
            have := nexts_any op n i W (by omega) (by omega) (by omega)
            rw [← hjs] at this
            exact this
          obtain ⟨J, hJ0⟩ : ∃ J, J = Ver.joins code.length D (k + 1) js on := ⟨_, rfl⟩
          have hJ : Hid _ := show Ver.joins code.length D (k + 1) (js.drop 0) on = J by rw [hJ0]; rfl
          have hJD : Hid _ := show Ver.joins code.length (d + (Ver.lays op - Ver.takes op)) (k + 1) (Ver.nxts op n i) on = J by rw [hJ0, hD, hjs]
          have D0 : 0 ≤ D := by omega
          have D8 : D ≤ 8 := by omega
          have HD : Hid _ := hD
          have Herr : Hid _ := herr
          clear herr eA eB hJ0 hD hjs
          go_upto_region 8 with fail
          obtain ⟨w4, hw4⟩ : ∃ w4, w4 = wr.alloc (Obj.cells #[Value.int .i64 op, Value.int .i64 n] 54) := ⟨_, rfl⟩
          rw [← hw4]
          have hg4 : Gr wr w4 := by rw [hw4]; exact (Gr.refl _).alloc _
          have zX : wr.heap.size < w4.heap.size := by rw [hw4]; simp
          have zA : w.heap.size < w4.heap.size := Nat.lt_of_lt_of_le zb hg4.size
          have hO : w4.cell? ⟨w.heap.size, i * 3, none⟩ = some (.bool true) ∧ w4.cell? ⟨w.heap.size, i * 3 + 1, none⟩ = some (.int .i64 d) ∧ w4.cell? ⟨w.heap.size, i * 3 + 2, none⟩ = some (.int .i64 k) ∧ w4.cell? ⟨wr.heap.size, 0, none⟩ = some (.int .i64 op) ∧ w4.cell? ⟨wr.heap.size, 1, none⟩ = some (.int .i64 n) ∧ Gr w4 w4 :=
            ⟨(hg4.cell _ _ zb).trans a0, (hg4.cell _ _ zb).trans a1, (hg4.cell _ _ zb).trans a2, by rw [hw4]; exact cell_new wr _ _ 0, by rw [hw4]; exact cell_new wr _ _ 1, Gr.refl _⟩
          have hT4 : Opr w4 := (hT.gr HF.out.gr).gr hg4
          have HO4 : Hid _ := hO
          clear hw4 a0 a1 a2 q0 q1
          go_region_held3 (fun w' => w'.cell? ⟨w.heap.size, i * 3, none⟩ = some (.bool true) ∧ w'.cell? ⟨w.heap.size, i * 3 + 1, none⟩ = some (.int .i64 d) ∧ w'.cell? ⟨w.heap.size, i * 3 + 2, none⟩ = some (.int .i64 k) ∧ w'.cell? ⟨wr.heap.size, 0, none⟩ = some (.int .i64 op) ∧ w'.cell? ⟨wr.heap.size, 1, none⟩ = some (.int .i64 n) ∧ Gr w4 w') (first | with_reducible exact hO | exact folS HO4.out (by repeat (with_reducible first | exact hO.2.2.2.2.2 | exact Gr.refl _ | refine Gr.drew ?_ | refine Gr.alloc ?_ _ | refine Gr.setCell ?_ (by first | exact z6 | exact z5 | exact Nat.le_refl _) _)) zA zX)
            (first
              | (go_at_call 46; refine (operatorOf_any _ _ (hT4.gr (Gr.trans hO.2.2.2.2.2 (by repeat (with_reducible first | exact Gr.refl _ | refine Gr.drew ?_ | refine Gr.alloc ?_ _)))) (by omega) (by omega)).mono ?_; rintro e w5 ⟨rfl, hg5⟩; replace hO := folS hO (Gr.trans (by repeat (with_reducible first | exact Gr.refl _ | refine Gr.drew ?_ | refine Gr.alloc ?_ _)) hg5) zA zX; have z5 := hO.2.2.2.2.2.size
                 try (have kT := (hg5.block _ (by simp)).trans (heapA _ _)
                      have zT := Nat.lt_of_lt_of_le (alloc_lt _ _) hg5.size
                      have cT := (row_all kT).1
                      have fT := (row_all kT).2))
              | (go_at_call 45; refine (HAf.out _ _ _).mono ?_; rintro e w6 ⟨rfl, hg6⟩; replace hO := folS hO (Gr.trans (by repeat (with_reducible first | exact Gr.refl _ | refine Gr.drew ?_ | refine Gr.alloc ?_ _)) hg6) zA zX; have z6 := hO.2.2.2.2.2.size
                 first
                   | (have kT2 := (hg6.block _ zT).trans kT
                      have cT2 := (row_all kT2).1
                      have fT2 := (row_all kT2).2)
                   | (have kT := (hg6.block _ (by simp)).trans (heapA _ _)
                      have cT := (row_all kT).1
                      have fT := (row_all kT).2)
                   | skip))
          · obtain ⟨w7, hw7⟩ : ∃ w7, w7 = w6.alloc (.cells #[.bool true, .int .i64 D, .int .i64 (k + 1)] 103) := ⟨_, rfl⟩
            have kT7 : w7.heap[w6.heap.size]? = some (.cells #[.bool true, .int .i64 D, .int .i64 (k + 1)] 103) := by rw [hw7]; exact heapA _ _
            have hG7 : Gr w4 w7 := by rw [hw7]; exact (by repeat (with_reducible first | exact hO.2.2.2.2.2 | exact Gr.refl _ | refine Gr.drew ?_ | refine Gr.alloc ?_ _ | refine Gr.setCell ?_ (by first | exact z6 | exact z5 | exact Nat.le_refl _) _))
            have zT7 : w4.heap.size ≤ w6.heap.size := Nat.le_trans z6 (Nat.le_refl _)
            rw [← hw7]
            have HK7 : Hid _ := kT7
            replace hO := folS HO4.out hG7 zA zX
            obtain ⟨x1, x2, x3, x4, x5, -⟩ := hO
            clear hw7 kT7 z6 x1 x2 x3
            have lT7 : w6.heap.size < w7.heap.size := (Array.getElem?_eq_some_iff.1 HK7.out).1
            go_wp2_with (go_at_call 47; refine (HNx.out _).mono ?_; rintro e w8 ⟨a8, cap8, rfl, hI8, hN8, hg8⟩)
            have HF8 := HF.out
            have hg48 : Gr wr w8 := (hg4.trans hG7).trans hg8
            have hJ0 : ArrAt w8 w.heap.size code.length on cs := HF8.arr.gr hg48 HF8.lt
            have zA8 : w.heap.size < w8.heap.size := Nat.lt_of_lt_of_le HF8.lt hg48.size
            have kT8 : w8.heap[w6.heap.size]? = some (.cells #[.bool true, .int .i64 D, .int .i64 (k + 1)] 103) := (hg8.block _ lT7).trans HK7.out
            have zT8 : w6.heap.size < w8.heap.size := Nat.lt_of_lt_of_le lT7 hg8.size
            have Hk8 : Hid _ := kT8
            have HI8 : Hid _ := hI8
            clear kT8 hI8
            go_loopw [50] (fun u ws => ∃ (q : Nat) (on' : Ver.On) (cs' : Array Value), q ≤ js.length ∧ u = .int .i64 q ∧ Bg w.heap.size w8 ws ∧ ArrAt ws w.heap.size code.length on' cs' ∧ Ver.OnOk on' ∧ Ver.joins code.length D (k + 1) (js.drop q) on' = J) (fun u _ => js.length - (intOf u).toNat)
            case atStart => exact ⟨0, on, cs, Nat.zero_le _, rfl, Bg.ofGr (Gr.refl _), hJ0, HF8.ok, hJ.out⟩
            case round =>
              obtain ⟨q, on', cs', hq, rfl, hBg, hA', hok', hJq⟩ := hrel
              have hTne : w6.heap.size ≠ w.heap.size := by omega
              have kTr := (hBg.block _ zT8 hTne).trans Hk8.out
              obtain ⟨cT, fT⟩ := row_all kTr
              have t0 := cT 0
              have t1 := cT 1
              have t2 := cT 2
              simp at t0 t1 t2
              have zAr : w.heap.size < wr.heap.size := Nat.lt_of_lt_of_le zA8 hBg.size
              have zTr : w6.heap.size < wr.heap.size := Nat.lt_of_lt_of_le zT8 hBg.size
              by_cases hql : q < js.length
              · obtain ⟨j, hj⟩ : ∃ j, js[q]? = some j := ⟨_, List.getElem?_eq_getElem hql⟩
                obtain ⟨b8, o8, rfl, hb8, hc8⟩ := HI8.out.cell q (j : Int) (by simp [hj])
                have hb8n := hN8.le b8 o8 _ rfl
                have hc8' := (World.cell?_of_block (w := w8) (a := ⟨b8, o8 + q, none⟩) (hBg.block b8 hb8 (by have := hG7.size; omega))).trans hc8
                obtain ⟨m1, m2⟩ := Hm.out j (List.mem_of_getElem? hj)
                have Hj : Hid _ := hj
                clear hj hc8 cT fT
                by_cases he5 : j = code.length
                · have E5 : Hid _ := (hJq.symm.trans (by rw [Ver.joins_short (by rw [← he5]; exact Hj.out)]))
                  have hg5 : ((j : Int) == (code.length : Int)) = true := by rw [he5]; simp
                  clear hJq
                  go_wp2
                  exact bodyPost_ret (v := .tuple #[.int .i64 0, .int .i64 0, .int .i64 5]) (by simp [results, Tryd.results22, go_sem]) rfl ⟨by rw [← HF8.eq, Ver.run_err Hx.out Hon.out Herr.out (hJD.out.trans E5.out) (by decide)]; rfl, hBg.gr (HF8.gr.trans hg48) (Nat.le_refl _)⟩
                · have hjl : j < code.length := by omega
                  have hg5 : ((j : Int) == (code.length : Int)) = false := by simp; omega
                  have HJn : Hid _ := fun W (h : ArrAt W w.heap.size code.length on' cs') (hz : w.heap.size < W.heap.size) => join_any w.heap.size code.length j on' cs' true D (k + 1) W h hz hjl rfl
                  cases hmay : Ver.may (on' j) D with
                  | false =>
                    have E4 : Hid _ := (hJq.symm.trans (Ver.joins_form Hj.out he5 hmay))
                    clear hJq
                    go_upto_region 16 with fail
                    go_region_with (go_at_call 48; refine (HJn.out _ (hA'.gr (by with_reducible exact (Gr.refl _).drew) zAr) (by exact zAr)).mono ?_; rintro e w9 ⟨rfl, hBg9, -⟩; rw [hmay])
                    all_goals
                      go_wp2
                      exact bodyPost_ret (v := .tuple #[.int .i64 0, .int .i64 0, .int .i64 4]) (by simp [results, Tryd.results22, go_sem]) rfl ⟨by rw [← HF8.eq, Ver.run_err Hx.out Hon.out Herr.out (hJD.out.trans E4.out) (by decide)]; rfl, ((hBg.trans (Bg.ofGr (Gr.refl _).drew)).trans hBg9).gr (HF8.gr.trans hg48) (Nat.le_refl _)⟩
                  | true =>
                    have E0 : Hid _ := (Ver.joins_on Hj.out he5 hmay).symm.trans hJq
                    clear hJq
                    go_upto_region 16 with fail
                    go_region_with (go_at_call 48; refine (HJn.out _ (hA'.gr (by with_reducible exact (Gr.refl _).drew) zAr) (by exact zAr)).mono ?_; rintro e w9 ⟨rfl, hBg9, hA9⟩; rw [hmay])
                    all_goals
                      go_wp2
                      obtain ⟨cs9, hA9⟩ := hA9 hmay
                      exact ⟨⟨q + 1, Ver.joinU on' j D (k + 1), cs9, by omega, by go_num, (hBg.trans (Bg.ofGr (Gr.refl _).drew)).trans hBg9, hA9, hok'.join (by omega) (by omega) (by omega) (by omega), E0.out⟩, by simp [intOf]; omega⟩
              · have E0 : Hid _ := hJq.symm.trans (Ver.joins_end (by omega))
                clear hJq cT fT
                go_wp2
                go_region
                all_goals
                  go_wp2
                  refine ⟨⟨i + 1, max s (k + 1), max t D, on', cs', by omega, by go_num, by rw [max_if], by rw [max_if], ⟨(hBg.gr (HF8.gr.trans hg48) (Nat.le_refl _)).drew, zAr, hA'.gr (Gr.refl _).drew zAr, hok', ?_, ?_, ?_, ?_, ?_⟩⟩, by simp [intOf]; omega⟩
                  · have := Ver.run_go (s := s) (t := t) Hx.out Hon.out Herr.out (hJD.out.trans E0.out)
                    rw [← HF8.eq, this, HD.out]
                  · have := HF8.s0; omega
                  · have := HF8.s1; omega
                  · have := HF8.t0; omega
                  · have := HF8.t1; omega
          · obtain ⟨w7, hw7⟩ : ∃ w7, w7 = ((w6.setCell ⟨w5.heap.size, 0, none⟩ (.bool true)).setCell ⟨w5.heap.size, 1, none⟩ (.int .i64 D)).setCell ⟨w5.heap.size, 2, none⟩ (.int .i64 (k + 1)) := ⟨_, rfl⟩
            have kT7 : w7.heap[w5.heap.size]? = some (.cells #[.bool true, .int .i64 D, .int .i64 (k + 1)] 103) := by rw [hw7]; exact heap_setCell_same _ w5.heap.size _ _ _ _ (heap_setCell_same _ w5.heap.size _ _ _ _ (heap_setCell_same w6 w5.heap.size _ _ _ _ kT))
            have hG7 : Gr w4 w7 := by rw [hw7]; exact (by repeat (with_reducible first | exact hO.2.2.2.2.2 | exact Gr.refl _ | refine Gr.drew ?_ | refine Gr.alloc ?_ _ | refine Gr.setCell ?_ (by first | exact z6 | exact z5 | exact Nat.le_refl _) _))
            have zT7 : w4.heap.size ≤ w5.heap.size := z5
            rw [← hw7]
            have HK7 : Hid _ := kT7
            replace hO := folS HO4.out hG7 zA zX
            obtain ⟨x1, x2, x3, x4, x5, -⟩ := hO
            clear hw7 kT7 z6 x1 x2 x3
            have lT7 : w5.heap.size < w7.heap.size := (Array.getElem?_eq_some_iff.1 HK7.out).1
            go_wp2_with (go_at_call 47; refine (HNx.out _).mono ?_; rintro e w8 ⟨a8, cap8, rfl, hI8, hN8, hg8⟩)
            have HF8 := HF.out
            have hg48 : Gr wr w8 := (hg4.trans hG7).trans hg8
            have hJ0 : ArrAt w8 w.heap.size code.length on cs := HF8.arr.gr hg48 HF8.lt
            have zA8 : w.heap.size < w8.heap.size := Nat.lt_of_lt_of_le HF8.lt hg48.size
            have kT8 : w8.heap[w5.heap.size]? = some (.cells #[.bool true, .int .i64 D, .int .i64 (k + 1)] 103) := (hg8.block _ lT7).trans HK7.out
            have zT8 : w5.heap.size < w8.heap.size := Nat.lt_of_lt_of_le lT7 hg8.size
            have Hk8 : Hid _ := kT8
            have HI8 : Hid _ := hI8
            clear kT8 hI8
            go_loopw [50] (fun u ws => ∃ (q : Nat) (on' : Ver.On) (cs' : Array Value), q ≤ js.length ∧ u = .int .i64 q ∧ Bg w.heap.size w8 ws ∧ ArrAt ws w.heap.size code.length on' cs' ∧ Ver.OnOk on' ∧ Ver.joins code.length D (k + 1) (js.drop q) on' = J) (fun u _ => js.length - (intOf u).toNat)
            case atStart => exact ⟨0, on, cs, Nat.zero_le _, rfl, Bg.ofGr (Gr.refl _), hJ0, HF8.ok, hJ.out⟩
            case round =>
              obtain ⟨q, on', cs', hq, rfl, hBg, hA', hok', hJq⟩ := hrel
              have hTne : w5.heap.size ≠ w.heap.size := by omega
              have kTr := (hBg.block _ zT8 hTne).trans Hk8.out
              obtain ⟨cT, fT⟩ := row_all kTr
              have t0 := cT 0
              have t1 := cT 1
              have t2 := cT 2
              simp at t0 t1 t2
              have zAr : w.heap.size < wr.heap.size := Nat.lt_of_lt_of_le zA8 hBg.size
              have zTr : w5.heap.size < wr.heap.size := Nat.lt_of_lt_of_le zT8 hBg.size
              by_cases hql : q < js.length
              · obtain ⟨j, hj⟩ : ∃ j, js[q]? = some j := ⟨_, List.getElem?_eq_getElem hql⟩
                obtain ⟨b8, o8, rfl, hb8, hc8⟩ := HI8.out.cell q (j : Int) (by simp [hj])
                have hb8n := hN8.le b8 o8 _ rfl
                have hc8' := (World.cell?_of_block (w := w8) (a := ⟨b8, o8 + q, none⟩) (hBg.block b8 hb8 (by have := hG7.size; omega))).trans hc8
                obtain ⟨m1, m2⟩ := Hm.out j (List.mem_of_getElem? hj)
                have Hj : Hid _ := hj
                clear hj hc8 cT fT
                by_cases he5 : j = code.length
                · have E5 : Hid _ := (hJq.symm.trans (by rw [Ver.joins_short (by rw [← he5]; exact Hj.out)]))
                  have hg5 : ((j : Int) == (code.length : Int)) = true := by rw [he5]; simp
                  clear hJq
                  go_wp2
                  exact bodyPost_ret (v := .tuple #[.int .i64 0, .int .i64 0, .int .i64 5]) (by simp [results, Tryd.results22, go_sem]) rfl ⟨by rw [← HF8.eq, Ver.run_err Hx.out Hon.out Herr.out (hJD.out.trans E5.out) (by decide)]; rfl, hBg.gr (HF8.gr.trans hg48) (Nat.le_refl _)⟩
                · have hjl : j < code.length := by omega
                  have hg5 : ((j : Int) == (code.length : Int)) = false := by simp; omega
                  have HJn : Hid _ := fun W (h : ArrAt W w.heap.size code.length on' cs') (hz : w.heap.size < W.heap.size) => join_any w.heap.size code.length j on' cs' true D (k + 1) W h hz hjl rfl
                  cases hmay : Ver.may (on' j) D with
                  | false =>
                    have E4 : Hid _ := (hJq.symm.trans (Ver.joins_form Hj.out he5 hmay))
                    clear hJq
                    go_upto_region 16 with fail
                    go_region_with (go_at_call 48; refine (HJn.out _ (hA'.gr (by with_reducible exact (Gr.refl _).drew) zAr) (by exact zAr)).mono ?_; rintro e w9 ⟨rfl, hBg9, -⟩; rw [hmay])
                    all_goals
                      go_wp2
                      exact bodyPost_ret (v := .tuple #[.int .i64 0, .int .i64 0, .int .i64 4]) (by simp [results, Tryd.results22, go_sem]) rfl ⟨by rw [← HF8.eq, Ver.run_err Hx.out Hon.out Herr.out (hJD.out.trans E4.out) (by decide)]; rfl, ((hBg.trans (Bg.ofGr (Gr.refl _).drew)).trans hBg9).gr (HF8.gr.trans hg48) (Nat.le_refl _)⟩
                  | true =>
                    have E0 : Hid _ := (Ver.joins_on Hj.out he5 hmay).symm.trans hJq
                    clear hJq
                    go_upto_region 16 with fail
                    go_region_with (go_at_call 48; refine (HJn.out _ (hA'.gr (by with_reducible exact (Gr.refl _).drew) zAr) (by exact zAr)).mono ?_; rintro e w9 ⟨rfl, hBg9, hA9⟩; rw [hmay])
                    all_goals
                      go_wp2
                      obtain ⟨cs9, hA9⟩ := hA9 hmay
                      exact ⟨⟨q + 1, Ver.joinU on' j D (k + 1), cs9, by omega, by go_num, (hBg.trans (Bg.ofGr (Gr.refl _).drew)).trans hBg9, hA9, hok'.join (by omega) (by omega) (by omega) (by omega), E0.out⟩, by simp [intOf]; omega⟩
              · have E0 : Hid _ := hJq.symm.trans (Ver.joins_end (by omega))
                clear hJq cT fT
                go_wp2
                go_region
                all_goals
                  go_wp2
                  refine ⟨⟨i + 1, max s (k + 1), max t D, on', cs', by omega, by go_num, by rw [max_if], by rw [max_if], ⟨(hBg.gr (HF8.gr.trans hg48) (Nat.le_refl _)).drew, zAr, hA'.gr (Gr.refl _).drew zAr, hok', ?_, ?_, ?_, ?_, ?_⟩⟩, by simp [intOf]; omega⟩
                  · have := Ver.run_go (s := s) (t := t) Hx.out Hon.out Herr.out (hJD.out.trans E0.out)
                    rw [← HF8.eq, this, HD.out]
                  · have := HF8.s0; omega
                  · have := HF8.s1; omega
                  · have := HF8.t0; omega
                  · have := HF8.t1; omega
          · obtain ⟨w7, hw7⟩ : ∃ w7, w7 = ((w6.setCell ⟨w4.heap.size, 0, none⟩ (.bool true)).setCell ⟨w4.heap.size, 1, none⟩ (.int .i64 D)).setCell ⟨w4.heap.size, 2, none⟩ (.int .i64 (k + 1)) := ⟨_, rfl⟩
            have kT7 : w7.heap[w4.heap.size]? = some (.cells #[.bool true, .int .i64 D, .int .i64 (k + 1)] 103) := by rw [hw7]; exact heap_setCell_same _ w4.heap.size _ _ _ _ (heap_setCell_same _ w4.heap.size _ _ _ _ (heap_setCell_same w6 w4.heap.size _ _ _ _ kT2))
            have hG7 : Gr w4 w7 := by rw [hw7]; exact (by repeat (with_reducible first | exact hO.2.2.2.2.2 | exact Gr.refl _ | refine Gr.drew ?_ | refine Gr.alloc ?_ _ | refine Gr.setCell ?_ (by first | exact z6 | exact z5 | exact Nat.le_refl _) _))
            have zT7 : w4.heap.size ≤ w4.heap.size := Nat.le_refl _
            rw [← hw7]
            have HK7 : Hid _ := kT7
            replace hO := folS HO4.out hG7 zA zX
            obtain ⟨x1, x2, x3, x4, x5, -⟩ := hO
            clear hw7 kT7 z6 x1 x2 x3
            have lT7 : w4.heap.size < w7.heap.size := (Array.getElem?_eq_some_iff.1 HK7.out).1
            go_wp2_with (go_at_call 47; refine (HNx.out _).mono ?_; rintro e w8 ⟨a8, cap8, rfl, hI8, hN8, hg8⟩)
            have HF8 := HF.out
            have hg48 : Gr wr w8 := (hg4.trans hG7).trans hg8
            have hJ0 : ArrAt w8 w.heap.size code.length on cs := HF8.arr.gr hg48 HF8.lt
            have zA8 : w.heap.size < w8.heap.size := Nat.lt_of_lt_of_le HF8.lt hg48.size
            have kT8 : w8.heap[w4.heap.size]? = some (.cells #[.bool true, .int .i64 D, .int .i64 (k + 1)] 103) := (hg8.block _ lT7).trans HK7.out
            have zT8 : w4.heap.size < w8.heap.size := Nat.lt_of_lt_of_le lT7 hg8.size
            have Hk8 : Hid _ := kT8
            have HI8 : Hid _ := hI8
            clear kT8 hI8
            go_loopw [50] (fun u ws => ∃ (q : Nat) (on' : Ver.On) (cs' : Array Value), q ≤ js.length ∧ u = .int .i64 q ∧ Bg w.heap.size w8 ws ∧ ArrAt ws w.heap.size code.length on' cs' ∧ Ver.OnOk on' ∧ Ver.joins code.length D (k + 1) (js.drop q) on' = J) (fun u _ => js.length - (intOf u).toNat)
            case atStart => exact ⟨0, on, cs, Nat.zero_le _, rfl, Bg.ofGr (Gr.refl _), hJ0, HF8.ok, hJ.out⟩
            case round =>
              obtain ⟨q, on', cs', hq, rfl, hBg, hA', hok', hJq⟩ := hrel
              have hTne : w4.heap.size ≠ w.heap.size := by omega
              have kTr := (hBg.block _ zT8 hTne).trans Hk8.out
              obtain ⟨cT, fT⟩ := row_all kTr
              have t0 := cT 0
              have t1 := cT 1
              have t2 := cT 2
              simp at t0 t1 t2
              have zAr : w.heap.size < wr.heap.size := Nat.lt_of_lt_of_le zA8 hBg.size
              have zTr : w4.heap.size < wr.heap.size := Nat.lt_of_lt_of_le zT8 hBg.size
              by_cases hql : q < js.length
              · obtain ⟨j, hj⟩ : ∃ j, js[q]? = some j := ⟨_, List.getElem?_eq_getElem hql⟩
                obtain ⟨b8, o8, rfl, hb8, hc8⟩ := HI8.out.cell q (j : Int) (by simp [hj])
                have hb8n := hN8.le b8 o8 _ rfl
                have hc8' := (World.cell?_of_block (w := w8) (a := ⟨b8, o8 + q, none⟩) (hBg.block b8 hb8 (by have := hG7.size; omega))).trans hc8
                obtain ⟨m1, m2⟩ := Hm.out j (List.mem_of_getElem? hj)
                have Hj : Hid _ := hj
                clear hj hc8 cT fT
                by_cases he5 : j = code.length
                · have E5 : Hid _ := (hJq.symm.trans (by rw [Ver.joins_short (by rw [← he5]; exact Hj.out)]))
                  have hg5 : ((j : Int) == (code.length : Int)) = true := by rw [he5]; simp
                  clear hJq
                  go_wp2
                  exact bodyPost_ret (v := .tuple #[.int .i64 0, .int .i64 0, .int .i64 5]) (by simp [results, Tryd.results22, go_sem]) rfl ⟨by rw [← HF8.eq, Ver.run_err Hx.out Hon.out Herr.out (hJD.out.trans E5.out) (by decide)]; rfl, hBg.gr (HF8.gr.trans hg48) (Nat.le_refl _)⟩
                · have hjl : j < code.length := by omega
                  have hg5 : ((j : Int) == (code.length : Int)) = false := by simp; omega
                  have HJn : Hid _ := fun W (h : ArrAt W w.heap.size code.length on' cs') (hz : w.heap.size < W.heap.size) => join_any w.heap.size code.length j on' cs' true D (k + 1) W h hz hjl rfl
                  cases hmay : Ver.may (on' j) D with
                  | false =>
                    have E4 : Hid _ := (hJq.symm.trans (Ver.joins_form Hj.out he5 hmay))
                    clear hJq
                    go_upto_region 16 with fail
                    go_region_with (go_at_call 48; refine (HJn.out _ (hA'.gr (by with_reducible exact (Gr.refl _).drew) zAr) (by exact zAr)).mono ?_; rintro e w9 ⟨rfl, hBg9, -⟩; rw [hmay])
                    all_goals
                      go_wp2
                      exact bodyPost_ret (v := .tuple #[.int .i64 0, .int .i64 0, .int .i64 4]) (by simp [results, Tryd.results22, go_sem]) rfl ⟨by rw [← HF8.eq, Ver.run_err Hx.out Hon.out Herr.out (hJD.out.trans E4.out) (by decide)]; rfl, ((hBg.trans (Bg.ofGr (Gr.refl _).drew)).trans hBg9).gr (HF8.gr.trans hg48) (Nat.le_refl _)⟩
                  | true =>
                    have E0 : Hid _ := (Ver.joins_on Hj.out he5 hmay).symm.trans hJq
                    clear hJq
                    go_upto_region 16 with fail
                    go_region_with (go_at_call 48; refine (HJn.out _ (hA'.gr (by with_reducible exact (Gr.refl _).drew) zAr) (by exact zAr)).mono ?_; rintro e w9 ⟨rfl, hBg9, hA9⟩; rw [hmay])
                    all_goals
                      go_wp2
                      obtain ⟨cs9, hA9⟩ := hA9 hmay
                      exact ⟨⟨q + 1, Ver.joinU on' j D (k + 1), cs9, by omega, by go_num, (hBg.trans (Bg.ofGr (Gr.refl _).drew)).trans hBg9, hA9, hok'.join (by omega) (by omega) (by omega) (by omega), E0.out⟩, by simp [intOf]; omega⟩
              · have E0 : Hid _ := hJq.symm.trans (Ver.joins_end (by omega))
                clear hJq cT fT
                go_wp2
                go_region
                all_goals
                  go_wp2
                  refine ⟨⟨i + 1, max s (k + 1), max t D, on', cs', by omega, by go_num, by rw [max_if], by rw [max_if], ⟨(hBg.gr (HF8.gr.trans hg48) (Nat.le_refl _)).drew, zAr, hA'.gr (Gr.refl _).drew zAr, hok', ?_, ?_, ?_, ?_, ?_⟩⟩, by simp [intOf]; omega⟩
                  · have := Ver.run_go (s := s) (t := t) Hx.out Hon.out Herr.out (hJD.out.trans E0.out)
                    rw [← HF8.eq, this, HD.out]
                  · have := HF8.s0; omega
                  · have := HF8.s1; omega
                  · have := HF8.t0; omega
                  · have := HF8.t1; omega
    · have E : Hid _ := hF.eq.symm.trans (Ver.run_end (by omega))
      have HF : Hid _ := hF
      clear hF
      go_wp2
      exact bodyPost_ret (v := .tuple #[.int .i64 s, .int .i64 t, .int .i64 0]) (by simp [results, Tryd.results22, go_sem]) rfl ⟨by rw [E.out]; rfl, HF.out.gr⟩
end Go.Proofs.YtcpmbjlhblkniaaDoor
