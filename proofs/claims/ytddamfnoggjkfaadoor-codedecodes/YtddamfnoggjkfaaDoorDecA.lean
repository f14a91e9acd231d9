/- Contract: an answer is read (P5.6), by the program. -/
import Derived.Test.YtddamfnoggjkfaaDoorDecI
namespace Go.Proofs.YtddamfnoggjkfaaDoor
open Go.ChangeShapes Go.WideShapes Go.ChangeAt Go.RowKit
set_option linter.unusedVariables false
structure AnsPost (W w : World) (rb : Nat) (R : Dec.AV × List Int × Int) (en : Ending) (w' : World) : Prop where
  ex : ∃ y : Ans, en = .returned (.agg y.cells.toArray) ∧ AnsOk w' y ∧ y.val = R.1 ∧ w'.ownsRow (w.heap.size + 2) 3 1 (.slice y.a y.zs.length y.cap) y.zs.length (ints y.zs)
  rd : Rd True W w' rb R.2.1 R.2.2
  bg : Bg rb w w'
theorem run_bstA {W w : World} {a : Option Addr} {l : List Int} {cap : Nat} (h : BysAt W a l) (hg : Gr W w) (hb : ∀ z ∈ l, 0 ≤ z ∧ z ≤ 255) : (convert 27 9 (.slice a l.length cap)).run Tryd.prog w = .ok (.string (Dec.bst l)) w := by
  cases l with
  | nil =>
    rw [run_convert_bytes_string w _ _ 5 a _ cap Tryd.underlying27 Tryd.underlying5 Tryd.underlying9]
    cases a <;> rfl
  | cons z r =>
    obtain ⟨b, o, rfl, hbb, _⟩ := h.cell 0 z rfl
    have := run_convert_bytes_back (P := Tryd.prog) w 27 9 5 ⟨b, o, none⟩ cap ((z :: r).map Dec.byt) Tryd.underlying27 Tryd.underlying5 Tryd.underlying9 (fun j hj => by
      have hj' : j < (z :: r).length := by simpa using hj
      obtain ⟨b', o', e, hb', hc⟩ := h.cell j (z :: r)[j] (List.getElem?_eq_getElem hj')
      cases e
      rw [show (⟨b, o, none⟩ : Addr).add j = ⟨b, o + j, none⟩ from Go.WideShapes.add_plain .., hg.cell b _ hb', hc, List.getElem_map]
      have := byt_toNat (hb _ (List.getElem_mem hj'))
      rw [show (Dec.byt (z :: r)[j]) = byt (z :: r)[j] from rfl, this])
    rw [List.length_map] at this
    exact this
theorem bst_size (l : List Int) : (Dec.bst l).size = l.length := by
  show (l.map Dec.byt).toArray.size = l.length
  simp
theorem bytes_mem {n : Nat} {l : List Int} {e : Int} (h : ∀ z ∈ l, 0 ≤ z ∧ z ≤ 255) : ∀ z ∈ (Dec.bytes n l e).1, 0 ≤ z ∧ z ≤ 255 := by
  intro z hz
  unfold Dec.bytes at hz
  split at hz
  · split at hz
    · cases hz
    · exact h z (List.mem_of_mem_take hz)
  · cases hz
theorem bytes_len {n : Nat} {l : List Int} {e : Int} : (Dec.bytes n l e).1.length ≤ n := by
  unfold Dec.bytes
  split
  · split
    · simp
    · exact List.length_take_le _ _
  · simp
theorem answer_eq {l : List Int} {e : Int} (N1 : Int × List Int × Int) (h1 : Dec.number l e = N1) (N2 : Bool × List Int × Int) (h2 : Dec.yes N1.2.1 N1.2.2 = N2) (N3 : Int × List Int × Int) (h3 : Dec.count 24 N2.2.1 N2.2.2 = N3) (N4 : List Int × List Int × Int) (h4 : Dec.bytes N3.1.toNat N3.2.1 N3.2.2 = N4) (N5 : List Int × List Int × Int) (h5 : Dec.numbers 6 N4.2.1 N4.2.2 = N5) (N6 : Int × List Int × Int) (h6 : Dec.number N5.2.1 N5.2.2 = N6) :
    Dec.answer l e = ((N1.1, N2.1, Dec.bst N4.1, N5.1, N6.1), N6.2) := by
  subst h1 h2 h3 h4 h5 h6
  rfl
theorem numbers_len {most : Int} (h : 0 ≤ most) {l : List Int} {e : Int} : ((Dec.numbers most l e).1.length : Int) ≤ most := by
  unfold Dec.numbers
  rw [Dec.times_len]
  have := Dec.count_bd h (l := l) (e := e)
  omega
/-- A block of five cells, one of them written. -/
theorem five_set {w : World} {b : Nat} {c : Array Value} {t : TypeId} (h : w.heap[b]? = some (.cells c t)) (i : Nat) (u : Value) : (w.setCell ⟨b, i, none⟩ u).heap[b]? = some (.cells (c.setIfInBounds i u) t) := heap_setCell_same w b i c t u h
theorem owns_intsD {w : World} {base : Nat} {a : Option Addr} {cap : Nat} {zs : List Int} (h : w.ownsRow base 3 1 (.slice a zs.length cap) zs.length (ints zs)) : IntsAt w a zs := by
  obtain ⟨a', cap', e1, e2, e3⟩ := owns_ints h
  simp only [Value.slice.injEq] at e1
  rw [e1.1]
  exact e3
theorem owns_up {w : World} {B B' : Nat} {e : TypeId} {size : Nat} {v : Value} {n : Nat} {xs : List Value} (h : w.ownsRow B e size v n xs) (hb : B' ≤ B) : w.ownsRow B' e size v n xs := by
  refine ⟨h.1, ?_⟩
  rcases h.2 with h2 | ⟨g, cap, cur, hv, hg, r⟩
  · exact Or.inl h2
  · exact Or.inr ⟨g, cap, cur, hv, Nat.le_trans hb hg, r⟩
theorem owns_set {w : World} {B : Nat} {e : TypeId} {size : Nat} {v : Value} {n : Nat} {xs : List Value} (h : w.ownsRow B e size v n xs) {p : Addr} (hp : p.block < B) (u : Value) : (w.setCell p u).ownsRow B e size v n xs := ownsRow_setCell_other h (own_geB h hp) u
set_option maxHeartbeats 3200000 in
theorem answer_any (W w : World) (rb : Nat) (l : List Int) (e : Int) (hR : Rd True W w rb l e) :
    Calls Tryd.prog 37 #[.pointer (some ⟨rb, 0, none⟩)] w (AnsPost W w rb (Dec.answer l e)) := by
  have hrb := hR.lt
  have hw1 : (Lit.int .i64 (Dec.number l e).1).wf = true := Dec.number_wf hR.byt
  obtain ⟨RR, hRR⟩ : ∃ R, Dec.answer l e = R := ⟨_, rfl⟩
  rw [hRR]
  have H1 : Hid _ := fun W' (h : Rd True W W' rb l e) => number_any W W' rb l e h
  obtain ⟨N1, hN1⟩ : ∃ N, Dec.number l e = N := ⟨_, rfl⟩
  rw [hN1] at H1 hw1
  obtain ⟨z1, l1, e1⟩ := N1
  have H2 : Hid _ := fun W' (h : Rd True W W' rb l1 e1) => yes_any W W' rb l1 e1 h
  obtain ⟨N2, hN2⟩ : ∃ N, Dec.yes l1 e1 = N := ⟨_, rfl⟩
  rw [hN2] at H2
  obtain ⟨z2, l2, e2⟩ := N2
  have H3 : Hid _ := fun W' (h : Rd True W W' rb l2 e2) => count_any 24 W W' rb l2 e2 h
  have hb3 := Dec.count_bd (most := 24) (by decide) (l := l2) (e := e2)
  obtain ⟨N3, hN3⟩ : ∃ N, Dec.count 24 l2 e2 = N := ⟨_, rfl⟩
  rw [hN3] at H3 hb3
  obtain ⟨z3, l3, e3⟩ := N3
  simp only at hb3
  obtain ⟨n3, rfl⟩ : ∃ n : Nat, z3 = n := ⟨z3.toNat, by omega⟩
  have H4 : Hid _ := fun W' (h : Rd True W W' rb l3 e3) => bytes_any True n3 W W' rb l3 e3 h (Or.inr trivial) (by omega)
  have H4m : Hid _ := fun (h : ∀ z ∈ l3, 0 ≤ z ∧ z ≤ 255) => bytes_mem (n := n3) (e := e3) h
  have hb4 := bytes_len (n := n3) (l := l3) (e := e3)
  obtain ⟨N4, hN4⟩ : ∃ N, Dec.bytes n3 l3 e3 = N := ⟨_, rfl⟩
  rw [hN4] at H4 H4m hb4
  obtain ⟨z4, l4, e4⟩ := N4
  have H5 : Hid _ := fun W' (h : Rd True W W' rb l4 e4) => numbers_any 6 W W' rb l4 e4 h (by decide) (by decide)
  have hb5 := numbers_len (most := 6) (by decide) (l := l4) (e := e4)
  obtain ⟨N5, hN5⟩ : ∃ N, Dec.numbers 6 l4 e4 = N := ⟨_, rfl⟩
  rw [hN5] at H5 hb5
  obtain ⟨z5, l5, e5⟩ := N5
  have H6 : Hid _ := fun W' (h : Rd True W W' rb l5 e5) => number_any W W' rb l5 e5 h
  have H6w : Hid _ := fun (h : ∀ z ∈ l5, 0 ≤ z ∧ z ≤ 255) => Dec.number_wf (e := e5) h
  obtain ⟨N6, hN6⟩ : ∃ N, Dec.number l5 e5 = N := ⟨_, rfl⟩
  rw [hN6] at H6 H6w
  obtain ⟨z6, l6, e6⟩ := N6
  simp only at hb4 hb5 hw1
  have HE6 : Hid _ := hRR.symm.trans (answer_eq _ hN1 _ hN2 _ hN3 _ (by simpa using hN4) _ hN5 _ hN6)
  clear hRR hN1 hN2 hN3 hN4 hN5 hN6
  have HR0 : Hid _ := hR
  clear hR
  go_enter Tryd.func37, Tryd.ntmps37
  go_upto_region 2 with fail
  obtain ⟨Wa, hWa⟩ : ∃ Wa, Wa = (w.alloc (Obj.cells #[.int .i64 0, .bool false, .string ⟨#[]⟩, .slice none 0 0, .int .i64 0] 44)).alloc (Obj.cells #[.int .i64 0, .bool false, .string ⟨#[]⟩, .slice none 0 0, .int .i64 0] 44) := ⟨_, rfl⟩
  have ga : Gr w Wa := by rw [hWa]; exact ((Gr.refl _).alloc _).alloc _
  have kr : Hid (Wa.heap[w.heap.size]? = some (.cells #[.int .i64 0, .bool false, .string ⟨#[]⟩, .slice none 0 0, .int .i64 0] 44)) := by show Wa.heap[w.heap.size]? = _; rw [hWa]; exact heapB _ _ _
  have kx : Hid (Wa.heap[w.heap.size + 1]? = some (.cells #[.int .i64 0, .bool false, .string ⟨#[]⟩, .slice none 0 0, .int .i64 0] 44)) := by show Wa.heap[w.heap.size + 1]? = _; rw [hWa]; exact heapC _ _ _
  have Ra := HR0.out.bg ga
  have bga : Bg rb w Wa := Bg.ofGr ga
  rw [← hWa]
  clear hWa HR0 ga
  go_upto_region 3 with (go_at_call 45; refine (H1.out _ Ra).mono ?_; rintro en w1 ⟨rfl, hR1, hB1⟩; obtain ⟨cx1, fx1⟩ := row_all (hB1.row kx.out (by omega)))
  obtain ⟨X1, hX1⟩ : ∃ X, X = w1.setCell ⟨w.heap.size + 1, 0, none⟩ (.int .i64 z1) := ⟨_, rfl⟩
  have kr1 : Hid (X1.heap[w.heap.size]? = some (.cells #[.int .i64 0, .bool false, .string ⟨#[]⟩, .slice none 0 0, .int .i64 0] 44)) := by show X1.heap[w.heap.size]? = _; rw [hX1]; exact (heap_setCell_other _ ⟨w.heap.size + 1, 0, none⟩ w.heap.size _ (by simp)).trans (hB1.row kr.out (by omega))
  have kx1 : Hid (X1.heap[w.heap.size + 1]? = some (.cells #[.int .i64 z1, .bool false, .string ⟨#[]⟩, .slice none 0 0, .int .i64 0] 44)) := by show X1.heap[w.heap.size + 1]? = _; rw [hX1]; exact five_set (hB1.row kx.out (by omega)) 0 (.int .i64 z1)
  have R1 : Rd True W X1 rb l1 e1 := by rw [hX1]; exact hR1.set (p := ⟨w.heap.size + 1, 0, none⟩) (by simp; omega) (.int .i64 z1)
  have bg1 : Bg rb w X1 := by rw [hX1]; exact (bga.trans hB1).setNew (p := ⟨w.heap.size + 1, 0, none⟩) (by simp) (.int .i64 z1)
  rw [← hX1]
  clear Ra bga kr kx hR1 hB1 cx1 fx1 hX1
  go_upto_region 4 with (go_at_call 47; refine (H2.out _ R1).mono ?_; rintro en w2 ⟨rfl, hR2, hB2⟩; obtain ⟨cx2, fx2⟩ := row_all (hB2.row kx1.out (by omega)))
  obtain ⟨X2, hX2⟩ : ∃ X, X = w2.setCell ⟨w.heap.size + 1, 1, none⟩ (.bool z2) := ⟨_, rfl⟩
  have kr2 : Hid (X2.heap[w.heap.size]? = some (.cells #[.int .i64 0, .bool false, .string ⟨#[]⟩, .slice none 0 0, .int .i64 0] 44)) := by show X2.heap[w.heap.size]? = _; rw [hX2]; exact (heap_setCell_other _ ⟨w.heap.size + 1, 1, none⟩ w.heap.size _ (by simp)).trans (hB2.row kr1.out (by omega))
  have kx2 : Hid (X2.heap[w.heap.size + 1]? = some (.cells #[.int .i64 z1, .bool z2, .string ⟨#[]⟩, .slice none 0 0, .int .i64 0] 44)) := by show X2.heap[w.heap.size + 1]? = _; rw [hX2]; exact five_set (hB2.row kx1.out (by omega)) 1 (.bool z2)
  have R2 : Rd True W X2 rb l2 e2 := by rw [hX2]; exact hR2.set (p := ⟨w.heap.size + 1, 1, none⟩) (by simp; omega) (.bool z2)
  have bg2 : Bg rb w X2 := by rw [hX2]; exact (bg1.trans hB2).setNew (p := ⟨w.heap.size + 1, 1, none⟩) (by simp) (.bool z2)
  rw [← hX2]
  clear R1 bg1 kr1 kx1 hR2 hB2 cx2 fx2 hX2
  have hcv : True := trivial
  go_upto_region 5 with (first | (go_at_call 34; refine (H3.out _ R2).mono ?_; rintro en w3 ⟨rfl, hR3, hB3⟩) | (go_at_call 32; refine (H4.out _ hR3).mono ?_; rintro en w4 ⟨⟨a4, cap4, rfl, hby4⟩, hR4, hB4'⟩; have hcv4 := run_bstA (cap := cap4) hby4 hR4.gr (H4m.out hR3.byt); have hB4 := hB3.trans hB4'; obtain ⟨cx4, fx4⟩ := row_all (hB4.row kx2.out (by omega))))
  obtain ⟨X4, hX4⟩ : ∃ X, X = w4.setCell ⟨w.heap.size + 1, 2, none⟩ (.string (Dec.bst z4)) := ⟨_, rfl⟩
  have kr4 : Hid (X4.heap[w.heap.size]? = some (.cells #[.int .i64 0, .bool false, .string ⟨#[]⟩, .slice none 0 0, .int .i64 0] 44)) := by show X4.heap[w.heap.size]? = _; rw [hX4]; exact (heap_setCell_other _ ⟨w.heap.size + 1, 2, none⟩ w.heap.size _ (by simp)).trans (hB4.row kr2.out (by omega))
  have kx4 : Hid (X4.heap[w.heap.size + 1]? = some (.cells #[.int .i64 z1, .bool z2, .string (Dec.bst z4), .slice none 0 0, .int .i64 0] 44)) := by show X4.heap[w.heap.size + 1]? = _; rw [hX4]; exact five_set (hB4.row kx2.out (by omega)) 2 (.string (Dec.bst z4))
  have R4 : Rd True W X4 rb l4 e4 := by rw [hX4]; exact hR4.set (p := ⟨w.heap.size + 1, 2, none⟩) (by simp; omega) (.string (Dec.bst z4))
  have bg4 : Bg rb w X4 := by rw [hX4]; exact (bg2.trans hB4).setNew (p := ⟨w.heap.size + 1, 2, none⟩) (by simp) (.string (Dec.bst z4))
  clear hcv4 hby4 hB3 hB4' hR3
  rw [← hX4]
  clear R2 bg2 kr2 kx2 hR4 hB4 cx4 fx4 hX4
  go_upto_region 6 with (go_at_call 36; refine (H5.out _ R4).mono ?_; rintro en w5 ⟨⟨a5, cap5, rfl, hc5, hz5⟩, hw5, hR5, hB5⟩; obtain ⟨cx5, fx5⟩ := row_all (hB5.row kx4.out (by omega)))
  obtain ⟨X5, hX5⟩ : ∃ X, X = w5.setCell ⟨w.heap.size + 1, 3, none⟩ (.slice a5 z5.length cap5) := ⟨_, rfl⟩
  have kr5 : Hid (X5.heap[w.heap.size]? = some (.cells #[.int .i64 0, .bool false, .string ⟨#[]⟩, .slice none 0 0, .int .i64 0] 44)) := by show X5.heap[w.heap.size]? = _; rw [hX5]; exact (heap_setCell_other _ ⟨w.heap.size + 1, 3, none⟩ w.heap.size _ (by simp)).trans (hB5.row kr4.out (by omega))
  have kx5 : Hid (X5.heap[w.heap.size + 1]? = some (.cells #[.int .i64 z1, .bool z2, .string (Dec.bst z4), .slice a5 z5.length cap5, .int .i64 0] 44)) := by show X5.heap[w.heap.size + 1]? = _; rw [hX5]; exact five_set (hB5.row kx4.out (by omega)) 3 (.slice a5 z5.length cap5)
  have R5 : Rd True W X5 rb l5 e5 := by rw [hX5]; exact hR5.set (p := ⟨w.heap.size + 1, 3, none⟩) (by simp; omega) (.slice a5 z5.length cap5)
  have bg5 : Bg rb w X5 := by rw [hX5]; exact (bg4.trans hB5).setNew (p := ⟨w.heap.size + 1, 3, none⟩) (by simp) (.slice a5 z5.length cap5)
  have hz5' : X5.ownsRow (w.heap.size + 2) 3 1 (.slice a5 z5.length cap5) z5.length (ints z5) := by rw [hX5]; exact owns_set (owns_up hz5 (lt_of_someE kx4.out)) (by simp) _
  clear hz5
  rw [← hX5]
  clear R4 bg4 kr4 kx4 hR5 hB5 cx5 fx5 hX5
  go_upto_region 7 with (go_at_call 45; refine (H6.out _ R5).mono ?_; rintro en w6 ⟨rfl, hR6, hB6⟩; obtain ⟨cx6, fx6⟩ := row_all (hB6.row kx5.out (by omega)))
  obtain ⟨X6, hX6⟩ : ∃ X, X = w6.setCell ⟨w.heap.size + 1, 4, none⟩ (.int .i64 z6) := ⟨_, rfl⟩
  have kr6 : Hid (X6.heap[w.heap.size]? = some (.cells #[.int .i64 0, .bool false, .string ⟨#[]⟩, .slice none 0 0, .int .i64 0] 44)) := by show X6.heap[w.heap.size]? = _; rw [hX6]; exact (heap_setCell_other _ ⟨w.heap.size + 1, 4, none⟩ w.heap.size _ (by simp)).trans (hB6.row kr5.out (by omega))
  have kx6 : Hid (X6.heap[w.heap.size + 1]? = some (.cells #[.int .i64 z1, .bool z2, .string (Dec.bst z4), .slice a5 z5.length cap5, .int .i64 z6] 44)) := by show X6.heap[w.heap.size + 1]? = _; rw [hX6]; exact five_set (hB6.row kx5.out (by omega)) 4 (.int .i64 z6)
  have R6 : Rd True W X6 rb l6 e6 := by rw [hX6]; exact hR6.set (p := ⟨w.heap.size + 1, 4, none⟩) (by simp; omega) (.int .i64 z6)
  have bg6 : Bg rb w X6 := by rw [hX6]; exact (bg5.trans hB6).setNew (p := ⟨w.heap.size + 1, 4, none⟩) (by simp) (.int .i64 z6)
  have hz6 : X6.ownsRow (w.heap.size + 2) 3 1 (.slice a5 z5.length cap5) z5.length (ints z5) := by rw [hX6]; exact owns_set (owns_bg hz5' (by omega) hB6) (by simp) _
  have hw6 := H6w.out R5.byt
  clear hz5'
  rw [← hX6]
  clear R5 bg5 kr5 kx5 hR6 hB6 cx6 fx6 hX6
  obtain ⟨cr, fr⟩ := row_all kr6.out
  obtain ⟨cx, fx⟩ := row_all kx6.out
  clear H1 H2 H3 H4 H5 H6 H4m H6w
  have RD : Hid _ := And.intro R6 bg6
  clear R6 bg6 hcv
  go_wp2
  refine bodyPost_ret (v := .agg #[.int .i64 z1, .bool z2, .string (Dec.bst z4), .slice a5 z5.length cap5, .int .i64 z6]) (by simp [results, Tryd.results37, go_sem, cr]) rfl ?_
  rw [HE6.out]
  have hzE : ∀ X, X.ownsRow (w.heap.size + 2) 3 1 (.slice a5 z5.length cap5) z5.length (ints z5) → IntsAt X a5 z5 := fun X h => owns_intsD h
  refine ⟨⟨⟨z1, z2, Dec.bst z4, a5, cap5, z5, z6⟩, rfl, ⟨hw1, hw6, by show (Dec.bst z4).size ≤ _; rw [bst_size]; unfold maxLen; omega, hc5, hzE _ ?_, hw5⟩, rfl, ?_⟩, ?_, ?_⟩
  · repeat (with_reducible first | exact hz6 | refine owns_set ?_ (by simp) _)
  · repeat (with_reducible first | exact hz6 | refine owns_set ?_ (by simp) _)
  · repeat (with_reducible first | exact RD.out.1 | refine Rd.set ?_ (by exact hrb) _)
  · repeat (with_reducible first | exact RD.out.2 | refine Bg.setNew ?_ (by exact Nat.le_refl _) _)
end Go.Proofs.YtddamfnoggjkfaaDoor
