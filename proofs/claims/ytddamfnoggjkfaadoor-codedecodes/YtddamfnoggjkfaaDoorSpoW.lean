/- The document's spool of bytes (P5.6) in memory. -/
import Derived.Test.YtddamfnoggjkfaaDoorDecZ
import Derived.Deep.QuietTactic
import Derived.BigQuiet
namespace Go.Proofs.YtddamfnoggjkfaaDoor
open Go.ChangeShapes Go.WideShapes Go.ChangeAt Go.RowKit
set_option linter.unusedVariables false
structure Sp (W w : World) (sb : Nat) (L l : List Int) (e : Int) : Prop where
  gr : Gr W w
  old : W.heap.size ≤ sb
  byt : ∀ z ∈ L, 0 ≤ z ∧ z ≤ 255
  len : L.length ≤ 200000
  ex : ∃ (a : Option Addr) (cap i : Nat), w.heap[sb]? = some (.cells #[.slice a L.length cap, .int .i64 i, .int .i64 e] 55) ∧ BysAt W a L ∧ i ≤ L.length ∧ l = L.drop i
theorem Sp.lt {W w : World} {sb : Nat} {L l : List Int} {e : Int} (h : Sp W w sb L l e) : sb < w.heap.size := by
  obtain ⟨a, cap, i, h1, _⟩ := h.ex
  exact (Array.getElem?_eq_some_iff.1 h1).1
theorem Sp.bytl {W w : World} {sb : Nat} {L l : List Int} {e : Int} (h : Sp W w sb L l e) : ∀ z ∈ l, 0 ≤ z ∧ z ≤ 255 := fun z hz => by
  obtain ⟨a, cap, i, _, _, _, rfl⟩ := h.ex
  exact h.byt z (List.mem_of_mem_drop hz)
theorem Sp.more {W w w' : World} {sb : Nat} {L l : List Int} {e : Int} (h : Sp W w sb L l e) (hg : Gr w w') : Sp W w' sb L l e := by
  obtain ⟨a, cap, i, h1, h2⟩ := h.ex
  exact ⟨h.gr.trans hg, h.old, h.byt, h.len, a, cap, i, (hg.block sb h.lt).trans h1, h2⟩
theorem Sp.wrong {W w : World} {sb : Nat} {L l : List Int} {e : Int} (h : Sp W w sb L l e) (x : Int) : Sp W (w.setCell ⟨sb, 2, none⟩ (.int .i64 x)) sb L l x := by
  obtain ⟨a, cap, i, h1, h2, h3, h4⟩ := h.ex
  refine ⟨h.gr.setCell h.old _, h.old, h.byt, h.len, a, cap, i, ?_, h2, h3, h4⟩
  have := heap_setCell_same w sb 2 _ _ (.int .i64 x) h1
  simpa using this
theorem Sp.next {W w : World} {sb i cap : Nat} {L r : List Int} {b e : Int} {a : Option Addr} (h : Sp W w sb L (b :: r) e) (h1 : w.heap[sb]? = some (.cells #[.slice a L.length cap, .int .i64 i, .int .i64 e] 55)) (h2 : BysAt W a L) (h3 : i ≤ L.length) (h4 : b :: r = L.drop i) : Sp W (w.setCell ⟨sb, 1, none⟩ (.int .i64 ((i : Int) + 1))) sb L r e := by
  have hi : i < L.length := by
    rcases Nat.lt_or_ge i L.length with g | g
    · exact g
    · rw [List.drop_of_length_le g] at h4; cases h4
  refine ⟨h.gr.setCell h.old _, h.old, h.byt, h.len, a, cap, i + 1, ?_, h2, hi, ?_⟩
  · have := heap_setCell_same w sb 1 _ _ (.int .i64 ((i : Int) + 1)) h1
    simpa using this
  · have := congrArg (List.drop 1) h4
    rw [List.drop_drop] at this
    simpa [Nat.add_comm] using this
structure SpPost (W w : World) (sb : Nat) (L : List Int) (R : Int × List Int × Int) (en : Ending) (w' : World) : Prop where
  en : en = .returned (.int .i64 R.1)
  sp : Sp W w' sb L R.2.1 R.2.2
  bg : Bg sb w w'
theorem mul_wrap (b : Int) (k : Nat) (h0 : 0 ≤ b) (h : (b % 128).toNat * 128 ^ k < 18446744073709551616) (U : Int) (hU : U = ((128 ^ k : Nat) : Int)) : IntKind.u64.wrap (b % 128 * U) = (((b % 128).toNat * 128 ^ k : Nat) : Int) := by
  have e2 : b % 128 = ((b % 128).toNat : Int) := by omega
  have e3 : b % 128 * U = (((b % 128).toNat * 128 ^ k : Nat) : Int) := by rw [hU, Int.natCast_mul, ← e2]
  rw [e3, IntKind.wrap_u64, Int.emod_eq_of_lt (by omega) (by omega)]
set_option maxHeartbeats 1600000 in
theorem numberIn_any (W w : World) (sb : Nat) (L l : List Int) (e : Int) (hS : Sp W w sb L l e) :
    Calls Tryd.prog 22 #[.pointer (some ⟨sb, 0, none⟩)] w (SpPost W w sb L (Dec.number l e)) := by
  by_cases h0 : e = 0
  · subst h0
    obtain ⟨R, hRR⟩ : ∃ R, R = Dec.num 10 0 0 l := ⟨_, rfl⟩
    have hRN : Dec.number l 0 = R := hRR.symm
    rw [hRN]
    clear hRN
    obtain ⟨a, cap, i, h1, h2, h3, h4⟩ := hS.ex
    obtain ⟨c1, f1⟩ := row_all h1
    clear h1 h2 h3 h4
    go_enter Tryd.func22, Tryd.ntmps22
    go_wp2_with fail
    clear c1 f1
    go_loopw [3, 4, 5] (fun s m i wr => ∃ (k u : Nat) (l1 : List Int), k ≤ 9 ∧ u < 128 ^ k ∧ i = .int .i64 k ∧ s = .int .u64 u ∧ m = .int .u64 ((128 ^ k : Nat) : Int) ∧ Sp W wr sb L l1 0 ∧ Bg sb w wr ∧ Dec.num (10 - k) k u l1 = R) (fun _ _ i _ => 10 - (intOf i).toNat)
    case atStart => exact ⟨0, 0, l, by omega, by decide, rfl, rfl, rfl, hS, Bg.ofGr (Gr.refl w), hRR.symm⟩
    case round =>
      obtain ⟨k, u, l1, hk, hu, rfl, rfl, hm, hS1, hB1, hE⟩ := hrel
      clear hRR hS
      obtain ⟨UU, hUU⟩ : ∃ UU, ((128 ^ k : Nat) : Int) = UU := ⟨_, rfl⟩
      rw [hUU] at hm
      subst hm
      obtain ⟨f, hf⟩ : ∃ f, 10 - k = f + 1 := ⟨9 - k, by omega⟩
      rw [hf] at hE
      have hk10 : (k : Int) < 10 := by omega
      have hslt := hS1.lt
      have hLl := hS1.len
      obtain ⟨a, cap, i, h1, h2, h3, h4⟩ := hS1.ex
      obtain ⟨c1, f1⟩ := row_all h1
      cases l1 with
      | nil =>
        have hi : i = L.length := by
          have := congrArg List.length h4
          rw [List.length_drop] at this
          simp at this
          omega
        subst hi
        rw [Dec.num_nil] at hE
        have Hend : Hid _ := fun n => (hS1.more ((Gr.refl _).drewN n)).wrong 5
        have HE : Hid _ := hE
        clear hE hS1 h1 h2 h3 h4 hu hUU
        go_upto_region 8 with fail
        go_quiet (fail)
        go_wp2
        go_ret
        rw [← HE.out]
        exact ⟨rfl, Hend.out _, (hB1.gr0 ((Gr.refl _).drewN _)).setCell _ _⟩
      | cons b r =>
        obtain ⟨b0, b1⟩ := hS1.bytl b List.mem_cons_self
        have hi : i < L.length := by
          rcases Nat.lt_or_ge i L.length with g | g
          · exact g
          · rw [List.drop_of_length_le g] at h4; cases h4
        have hLi : L[i]? = some b := by
          have := congrArg (fun x => x[0]?) h4
          simp only [List.getElem?_cons_zero, List.getElem?_drop, Nat.add_zero] at this
          exact this.symm
        obtain ⟨ab, ao, rfl, hab, hac⟩ := h2.cell i b hLi
        have hbc := (hS1.gr.cell ab _ hab).trans hac
        have hne : ab ≠ sb := by have := hS1.old; omega
        have hge : ¬ ((L.length : Nat) : Int) ≤ (i : Int) := by omega
        have NX : Hid _ := fun n => (hS1.more ((Gr.refl _).drewN n)).next ((((Gr.refl wr).drewN n).block sb hslt).trans h1) h2 h3 h4
        have HB : Hid _ := fun n => (hB1.gr0 ((Gr.refl wr).drewN n)).setCell 1 (.int .i64 ((i : Int) + 1))
        have hiI : (i : Int) < ((L.length : Nat) : Int) := by omega
        clear hS1 h1 h2 h3 h4 hac hLi
        by_cases hbad : (0 < k ∧ b = 0) ∨ (k = 9 ∧ 1 < b)
        · rw [Dec.num_bad hbad] at hE
          have g1 : decide (0 < (k : Int)) = true := by simp; omega
          by_cases hb0 : b = 0
          · subst hb0
            have HE : Hid _ := hE
            have NW : Hid _ := fun n => (NX.out n).wrong 4
            clear hE hu hUU
            go_upto_region 8 with fail
            go_quiet (fail)
            go_upto_region 11 with fail
            go_quiet (fail)
            go_wp2
            go_ret
            rw [← HE.out]
            exact ⟨ret_int rfl, NW.out _, (HB.out _).setCell _ _⟩
          · have g2 : (b == 0) = false := by simpa using hb0
            have g3 : ((k : Int) == 9) = true := by simp; omega
            have g4 : decide (1 < b) = true := by simp; omega
            have HE : Hid _ := hE
            have NW : Hid _ := fun n => (NX.out n).wrong 4
            clear hE hu hUU
            go_upto_region 8 with fail
            go_quiet (fail)
            go_upto_region 11 with fail
            go_quiet (fail)
            go_wp2
            go_ret
            rw [← HE.out]
            exact ⟨ret_int rfl, NW.out _, (HB.out _).setCell _ _⟩
        · obtain ⟨v1, v2⟩ := Dec.num_step (b := b) hk hu b0 (fun hh => hbad (Or.inr hh))
          have y1 := mul_wrap b k b0 (by omega) UU hUU.symm
          obtain ⟨Y, hY⟩ : ∃ Y, (b % 128).toNat * 128 ^ k = Y := ⟨_, rfl⟩
          rw [hY] at y1 v1 v2
          have y2 : IntKind.u64.wrap ((u : Int) + (Y : Int)) = ((u + Y : Nat) : Int) := by rw [IntKind.wrap_u64, Int.emod_eq_of_lt (by omega) (by omega)]; omega
          obtain ⟨V, hV⟩ : ∃ V, V = u + Y := ⟨_, rfl⟩
          have hVu : k < 9 → V < 128 ^ (k + 1) := by rw [hV]; exact v2
          rw [← hV] at y2 v1
          by_cases h128 : b < 128
          · rw [Dec.num_last hbad h128, hY, ← hV] at hE
            clear hV v2 hY
            by_cases hk0 : k = 0
            · have g1 : decide (0 < (k : Int)) = false := by simp; omega
              have g3 : ((k : Int) == 9) = false := by simp; omega
              clear hk0
              have g5 : decide (b < 128) = true := by simpa using h128
              by_cases hev : V % 2 = 1
              · have t0 : (((V : Nat) : Int) % 2 == 1) = true := by simp; omega
                have t1 : ((V : Nat) : Int).tdiv 2 = ((V / 2 : Nat) : Int) := by rw [Int.tdiv_eq_ediv_of_nonneg (by omega)]; omega
                have hz : Dec.unzig V = -((V / 2 : Nat) : Int) - 1 := by rw [Dec.unzig, if_neg (by omega)]
                obtain ⟨m, hm⟩ : ∃ m, V / 2 = m := ⟨_, rfl⟩
                rw [hm] at t1 hz
                have hm2 : m < 9223372036854775808 := by omega
                have t2 : IntKind.u64.wrap (m : Int) = (m : Int) := by rw [IntKind.wrap_u64]; omega
                rw [hz] at hE
                have HE : Hid _ := hE
                clear hE hz hm hev hu hVu hUU
                go_upto_region 8 with fail
                go_quiet (fail)
                go_upto_region 11 with fail
                go_quiet (fail)
                go_wp2
                all_goals first
                  | (exfalso; simp at g1; omega)
                  | (go_ret; rw [← HE.out]; exact ⟨ret_int (by first | rfl | omega), NX.out _, HB.out _⟩)
              · have t0 : (((V : Nat) : Int) % 2 == 1) = false := by simp; omega
                have t1 : ((V : Nat) : Int).tdiv 2 = ((V / 2 : Nat) : Int) := by rw [Int.tdiv_eq_ediv_of_nonneg (by omega)]; omega
                have hz : Dec.unzig V = ((V / 2 : Nat) : Int) := by rw [Dec.unzig, if_pos (by omega)]
                obtain ⟨m, hm⟩ : ∃ m, V / 2 = m := ⟨_, rfl⟩
                rw [hm] at t1 hz
                have hm2 : m < 9223372036854775808 := by omega
                have t2 : IntKind.u64.wrap (m : Int) = (m : Int) := by rw [IntKind.wrap_u64]; omega
                rw [hz] at hE
                have HE : Hid _ := hE
                clear hE hz hm hev hu hVu hUU
                go_upto_region 8 with fail
                go_quiet (fail)
                go_upto_region 11 with fail
                go_quiet (fail)
                go_wp2
                all_goals first
                  | (exfalso; simp at g1; omega)
                  | (go_ret; rw [← HE.out]; exact ⟨ret_int (by first | rfl | omega), NX.out _, HB.out _⟩)
            · by_cases hk9 : k = 9
              · have g1 : decide (0 < (k : Int)) = true := by simp; omega
                have g2 : (b == 0) = false := by simp; omega
                have g3 : ((k : Int) == 9) = true := by simp; omega
                have g4 : decide (1 < b) = false := by simp; omega
                clear hk9
                have g5 : decide (b < 128) = true := by simpa using h128
                by_cases hev : V % 2 = 1
                · have t0 : (((V : Nat) : Int) % 2 == 1) = true := by simp; omega
                  have t1 : ((V : Nat) : Int).tdiv 2 = ((V / 2 : Nat) : Int) := by rw [Int.tdiv_eq_ediv_of_nonneg (by omega)]; omega
                  have hz : Dec.unzig V = -((V / 2 : Nat) : Int) - 1 := by rw [Dec.unzig, if_neg (by omega)]
                  obtain ⟨m, hm⟩ : ∃ m, V / 2 = m := ⟨_, rfl⟩
                  rw [hm] at t1 hz
                  have hm2 : m < 9223372036854775808 := by omega
                  have t2 : IntKind.u64.wrap (m : Int) = (m : Int) := by rw [IntKind.wrap_u64]; omega
                  rw [hz] at hE
                  have HE : Hid _ := hE
                  clear hE hz hm hev hu hVu hUU
                  go_upto_region 8 with fail
                  go_quiet (fail)
                  go_upto_region 11 with fail
                  go_quiet (fail)
                  go_wp2
                  all_goals first
                    | (exfalso; simp at g1; omega)
                    | (go_ret; rw [← HE.out]; exact ⟨ret_int (by first | rfl | omega), NX.out _, HB.out _⟩)
                · have t0 : (((V : Nat) : Int) % 2 == 1) = false := by simp; omega
                  have t1 : ((V : Nat) : Int).tdiv 2 = ((V / 2 : Nat) : Int) := by rw [Int.tdiv_eq_ediv_of_nonneg (by omega)]; omega
                  have hz : Dec.unzig V = ((V / 2 : Nat) : Int) := by rw [Dec.unzig, if_pos (by omega)]
                  obtain ⟨m, hm⟩ : ∃ m, V / 2 = m := ⟨_, rfl⟩
                  rw [hm] at t1 hz
                  have hm2 : m < 9223372036854775808 := by omega
                  have t2 : IntKind.u64.wrap (m : Int) = (m : Int) := by rw [IntKind.wrap_u64]; omega
                  rw [hz] at hE
                  have HE : Hid _ := hE
                  clear hE hz hm hev hu hVu hUU
                  go_upto_region 8 with fail
                  go_quiet (fail)
                  go_upto_region 11 with fail
                  go_quiet (fail)
                  go_wp2
                  all_goals first
                    | (exfalso; simp at g1; omega)
                    | (go_ret; rw [← HE.out]; exact ⟨ret_int (by first | rfl | omega), NX.out _, HB.out _⟩)
              · have g1 : decide (0 < (k : Int)) = true := by simp; omega
                have g2 : (b == 0) = false := by simp; omega
                have g3 : ((k : Int) == 9) = false := by simp; omega
                have g5 : decide (b < 128) = true := by simpa using h128
                by_cases hev : V % 2 = 1
                · have t0 : (((V : Nat) : Int) % 2 == 1) = true := by simp; omega
                  have t1 : ((V : Nat) : Int).tdiv 2 = ((V / 2 : Nat) : Int) := by rw [Int.tdiv_eq_ediv_of_nonneg (by omega)]; omega
                  have hz : Dec.unzig V = -((V / 2 : Nat) : Int) - 1 := by rw [Dec.unzig, if_neg (by omega)]
                  obtain ⟨m, hm⟩ : ∃ m, V / 2 = m := ⟨_, rfl⟩
                  rw [hm] at t1 hz
                  have hm2 : m < 9223372036854775808 := by omega
                  have t2 : IntKind.u64.wrap (m : Int) = (m : Int) := by rw [IntKind.wrap_u64]; omega
                  rw [hz] at hE
                  have HE : Hid _ := hE
                  clear hE hz hm hev hu hVu hUU
                  go_upto_region 8 with fail
                  go_quiet (fail)
                  go_upto_region 11 with fail
                  go_quiet (fail)
                  go_wp2
                  all_goals first
                    | (exfalso; simp at g1; omega)
                    | (go_ret; rw [← HE.out]; exact ⟨ret_int (by first | rfl | omega), NX.out _, HB.out _⟩)
                · have t0 : (((V : Nat) : Int) % 2 == 1) = false := by simp; omega
                  have t1 : ((V : Nat) : Int).tdiv 2 = ((V / 2 : Nat) : Int) := by rw [Int.tdiv_eq_ediv_of_nonneg (by omega)]; omega
                  have hz : Dec.unzig V = ((V / 2 : Nat) : Int) := by rw [Dec.unzig, if_pos (by omega)]
                  obtain ⟨m, hm⟩ : ∃ m, V / 2 = m := ⟨_, rfl⟩
                  rw [hm] at t1 hz
                  have hm2 : m < 9223372036854775808 := by omega
                  have t2 : IntKind.u64.wrap (m : Int) = (m : Int) := by rw [IntKind.wrap_u64]; omega
                  rw [hz] at hE
                  have HE : Hid _ := hE
                  clear hE hz hm hev hu hVu hUU
                  go_upto_region 8 with fail
                  go_quiet (fail)
                  go_upto_region 11 with fail
                  go_quiet (fail)
                  go_wp2
                  all_goals first
                    | (exfalso; simp at g1; omega)
                    | (go_ret; rw [← HE.out]; exact ⟨ret_int (by first | rfl | omega), NX.out _, HB.out _⟩)
          · rw [Dec.num_more hbad h128, hY, ← hV] at hE
            clear hV v2 hY
            have hk9 : k ≠ 9 := fun h => hbad (Or.inr ⟨h, by omega⟩)
            by_cases hk0 : k = 0
            · have g1 : decide (0 < (k : Int)) = false := by simp; omega
              have g3 : ((k : Int) == 9) = false := by simp; omega
              clear hk0
              have g5 : decide (b < 128) = false := by simpa using h128
              have y3 : IntKind.u64.wrap (UU * 128) = ((128 ^ (k + 1) : Nat) : Int) := by
                have hp : (128 : Nat) ^ (k + 1) ≤ 9223372036854775808 := Dec.pow_128 (by omega)
                have hq : UU * 128 = ((128 ^ (k + 1) : Nat) : Int) := by rw [← hUU, Nat.pow_succ, Int.natCast_mul]; rfl
                rw [hq, IntKind.wrap_u64, Int.emod_eq_of_lt (by omega) (by omega)]
              obtain ⟨U2, hU2⟩ : ∃ U2, ((128 ^ (k + 1) : Nat) : Int) = U2 := ⟨_, rfl⟩
              rw [hU2] at y3
              have HU2 : Hid _ := hU2
              have HV : Hid _ := hVu
              have HE : Hid _ := hE
              clear hE hVu hu hUU hU2
              go_upto_region 8 with fail
              go_quiet (fail)
              go_upto_region 11 with fail
              go_quiet (fail)
              go_wp2
              all_goals first
                | (exfalso; simp at g1; omega)
                | (refine ⟨⟨k + 1, V, r, by omega, HV.out (by omega), by go_num, rfl, by rw [HU2.out], NX.out _, HB.out _, by rw [show 10 - (k + 1) = f by omega]; exact HE.out⟩, by simp [intOf]; omega⟩)
            · have g1 : decide (0 < (k : Int)) = true := by simp; omega
              have g2 : (b == 0) = false := by simp; omega
              have g3 : ((k : Int) == 9) = false := by simp; omega
              have g5 : decide (b < 128) = false := by simpa using h128
              have y3 : IntKind.u64.wrap (UU * 128) = ((128 ^ (k + 1) : Nat) : Int) := by
                have hp : (128 : Nat) ^ (k + 1) ≤ 9223372036854775808 := Dec.pow_128 (by omega)
                have hq : UU * 128 = ((128 ^ (k + 1) : Nat) : Int) := by rw [← hUU, Nat.pow_succ, Int.natCast_mul]; rfl
                rw [hq, IntKind.wrap_u64, Int.emod_eq_of_lt (by omega) (by omega)]
              obtain ⟨U2, hU2⟩ : ∃ U2, ((128 ^ (k + 1) : Nat) : Int) = U2 := ⟨_, rfl⟩
              rw [hU2] at y3
              have HU2 : Hid _ := hU2
              have HV : Hid _ := hVu
              have HE : Hid _ := hE
              clear hE hVu hu hUU hU2
              go_upto_region 8 with fail
              go_quiet (fail)
              go_upto_region 11 with fail
              go_quiet (fail)
              go_wp2
              all_goals first
                | (exfalso; simp at g1; omega)
                | (refine ⟨⟨k + 1, V, r, by omega, HV.out (by omega), by go_num, rfl, by rw [HU2.out], NX.out _, HB.out _, by rw [show 10 - (k + 1) = f by omega]; exact HE.out⟩, by simp [intOf]; omega⟩)
  · rw [Dec.number_e h0]
    have g : (e != 0) = true := by simpa using h0
    have HS : Hid _ := hS
    obtain ⟨a, cap, i, h1, h2, h3, h4⟩ := hS.ex
    obtain ⟨c1, f1⟩ := row_all h1
    clear hS h1 h2 h3 h4
    go_enter Tryd.func22, Tryd.ntmps22
    go_wp2
    go_ret
    exact ⟨rfl, HS.out, Bg.ofGr (Gr.refl w)⟩
end Go.Proofs.YtddamfnoggjkfaaDoor
