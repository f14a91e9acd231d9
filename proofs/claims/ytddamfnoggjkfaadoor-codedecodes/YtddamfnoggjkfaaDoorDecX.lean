/- Contracts: a byte, a number, how many, yes or no (P5.6), by the program. -/
import Derived.Test.YtddamfnoggjkfaaDoorDecW
import Derived.Deep.Cut
namespace Go.Proofs.YtddamfnoggjkfaaDoor
open Go.ChangeShapes Go.WideShapes Go.ChangeAt Go.RowKit
set_option linter.unusedVariables false
structure IntPost (W w : World) (rb : Nat) (k : IntKind) (R : Int × List Int × Int) (en : Ending) (w' : World) : Prop where
  en : en = .returned (.int k R.1)
  rd : Rd True W w' rb R.2.1 R.2.2
  bg : Bg rb w w'
theorem byte_bytes_nil {l : List Int} {e : Int} (h : (Dec.bytes 1 l e).1 = []) : Dec.byte l e = (0, (Dec.bytes 1 l e).2) := by
  by_cases h0 : e = 0
  · subst h0
    cases l with
    | nil => rfl
    | cons b r => rw [Dec.bytes_ok (by simp)] at h; simp at h
  · rw [Dec.bytes_e h0, Dec.byte_e h0]
theorem byte_bytes_cons {l r : List Int} {e b : Int} (h : (Dec.bytes 1 l e).1 = b :: r) : r = [] ∧ Dec.byte l e = (b, (Dec.bytes 1 l e).2) := by
  by_cases h0 : e = 0
  · subst h0
    cases l with
    | nil => rw [Dec.bytes_short (by simp)] at h; simp at h
    | cons b' r' => rw [Dec.bytes_ok (by simp)] at h ⊢; simp at h; obtain ⟨rfl, rfl⟩ := h; exact ⟨rfl, rfl⟩
  · rw [Dec.bytes_e h0] at h; simp at h
set_option maxHeartbeats 1600000 in
theorem byte_any (W w : World) (rb : Nat) (l : List Int) (e : Int) (hR : Rd True W w rb l e) :
    Calls Tryd.prog 46 #[.pointer (some ⟨rb, 0, none⟩)] w (IntPost W w rb .u8 (Dec.byte l e)) := by
  have HB : Hid _ := fun (_ : Unit) => bytes_any True 1 W w rb l e hR (Or.inl (by decide)) (by decide)
  have HN : Hid _ := fun h => byte_bytes_nil (l := l) (e := e) h
  have HC : Hid _ := fun b r h => byte_bytes_cons (l := l) (r := r) (e := e) (b := b) h
  obtain ⟨⟨B1, B2, B3⟩, hB⟩ : ∃ R, R = Dec.bytes 1 l e := ⟨_, rfl⟩
  rw [← hB] at HB HN HC
  clear hB hR
  simp only at HN HC
  cases B1 with
  | nil =>
    rw [HN.out rfl]
    go_enter Tryd.func46, Tryd.ntmps46
    go_wp2_with (go_at_call 32; refine (HB.out ()).mono ?_; rintro en w1 ⟨⟨a, cap, rfl, hby⟩, hR1, hB1⟩)
    go_ret
    exact ⟨rfl, hR1, hB1⟩
  | cons b r =>
    obtain ⟨rfl, hE⟩ := HC.out b r rfl
    rw [hE]
    go_enter Tryd.func46, Tryd.ntmps46
    go_wp2_with (go_at_call 32; refine (HB.out ()).mono ?_; rintro en w1 ⟨⟨a, cap, rfl, hby⟩, hR1, hB1⟩; obtain ⟨bb, bo, hba, hbb, hbc⟩ := hby.cell 0 b rfl; subst hba; replace hbc := (hR1.gr.cell bb _ hbb).trans hbc; simp only [Nat.add_zero] at hbc)
    go_ret
    exact ⟨rfl, hR1, hB1⟩
theorem and127b (b : Int) (h0 : 0 ≤ b) (h1 : b ≤ 255) : bits .and .u8 b 127 = b % 128 := by
  have := u8_and b 127 h0 (by omega) (by decide) (by decide)
  rw [this, show (127 : Int).toNat = 2 ^ 7 - 1 from rfl, Nat.and_two_pow_sub_one_eq_mod]
  omega
theorem or_shift (u y i : Nat) (hu : u < 128 ^ i) (h : u + y * 128 ^ i < 18446744073709551616) : bits .or .u64 (u : Int) ((y * 128 ^ i : Nat) : Int) = ((u + y * 128 ^ i : Nat) : Int) := by
  have h2 : y * 128 ^ i < 18446744073709551616 := by omega
  rw [bits_or_u64_nat u (y * 128 ^ i) (by omega) h2]
  congr 1
  have e : (128 : Nat) ^ i = 2 ^ (7 * i) := by rw [Nat.pow_mul]
  rw [e] at hu ⊢
  rw [← Nat.shiftLeft_eq, Nat.or_comm, ← Nat.shiftLeft_add_eq_or_of_lt hu, Nat.add_comm]
theorem or_wrap (u : Nat) (b : Int) (k : Nat) (h0 : 0 ≤ b) (hu : u < 128 ^ k) (h : u + (b % 128).toNat * 128 ^ k < 18446744073709551616) : bits .or .u64 (u : Int) (IntKind.u64.wrap (b % 128 * 2 ^ (7 * k))) = ((u + (b % 128).toNat * 128 ^ k : Nat) : Int) := by
  have e1 : (2 : Int) ^ (7 * k) = ((128 ^ k : Nat) : Int) := by rw [Int.pow_mul]; simp
  have e2 : b % 128 = ((b % 128).toNat : Int) := by omega
  have e3 : b % 128 * 2 ^ (7 * k) = (((b % 128).toNat * 128 ^ k : Nat) : Int) := by rw [e1]; rw [Int.natCast_mul, ← e2]
  rw [e3, IntKind.wrap_u64, Int.emod_eq_of_lt (by omega) (by omega)]
  exact or_shift u _ k hu h
set_option maxHeartbeats 1600000 in
theorem number_any (W w : World) (rb : Nat) (l : List Int) (e : Int) (hR : Rd True W w rb l e) :
    Calls Tryd.prog 45 #[.pointer (some ⟨rb, 0, none⟩)] w (IntPost W w rb .i64 (Dec.number l e)) := by
  by_cases h0 : e = 0
  · subst h0
    obtain ⟨R, hRR⟩ : ∃ R, R = Dec.num 10 0 0 l := ⟨_, rfl⟩
    have hRN : Dec.number l 0 = R := hRR.symm
    rw [hRN]
    clear hRN
    go_enter Tryd.func45, Tryd.ntmps45
    go_wp2_with fail
    go_loopw [3, 6] (fun s i wr => ∃ (k u : Nat) (l1 : List Int), k ≤ 9 ∧ u < 128 ^ k ∧ i = .int .i64 k ∧ s = .int .u64 u ∧ Rd True W wr rb l1 0 ∧ Bg rb w wr ∧ Dec.num (10 - k) k u l1 = R) (fun _ i _ => 10 - (intOf i).toNat)
    case atStart => exact ⟨0, 0, l, by omega, by decide, rfl, rfl, hR, Bg.ofGr (Gr.refl w), hRR.symm⟩
    case round =>
      obtain ⟨k, u, l1, hk, hu, rfl, rfl, hR1, hB1, hE⟩ := hrel
      clear hRR hR
      have HB : Hid _ := fun (_ : Unit) => byte_any W _ rb l1 0 hR1
      obtain ⟨f, hf⟩ : ∃ f, 10 - k = f + 1 := ⟨9 - k, by omega⟩
      rw [hf] at hE
      have hk10 : (k : Int) < 10 := by omega
      cases l1 with
      | nil =>
        rw [Dec.byte_nil] at HB
        clear hR1
        rw [Dec.num_nil] at hE
        by_cases hk0 : k = 0
        · have hu0 : u = 0 := by subst hk0; simpa using hu
          subst hk0
          subst hu0
          have x1 := and127b 0 (by decide) (by decide)
          have x2 : bits .or .u64 0 0 = 0 := by decide
          have HE : Hid _ := hE
          clear hE hu
          go_wp2_with (go_at_call 46; refine (HB.out ()).mono ?_; rintro en w1 ⟨rfl, hR2, hB2⟩)
          go_ret
          rw [← HE.out]
          exact ⟨ret_int (by first | rfl | decide +kernel), hR2, hB1.trans hB2⟩
        · have g1 : decide (0 < (k : Int)) = true := by simp; omega
          have HE : Hid _ := hE
          clear hE hu
          go_wp2_with (first | (go_at_call 46; refine (HB.out ()).mono ?_; rintro en w1 ⟨rfl, hR2, hB2⟩) | (go_at_call 33; refine (fail_any True W _ rb _ _ 4 hR2 (by decide)).mono ?_; rintro en w2 ⟨rfl, hR3, hB3⟩))
          go_ret
          rw [← HE.out]
          exact ⟨ret_int rfl, hR3, (hB1.trans hB2).trans hB3⟩
      | cons b r =>
        rw [Dec.byte_cons] at HB
        obtain ⟨b0, b1⟩ := hR1.byt b List.mem_cons_self
        clear hR1
        by_cases hbad : (0 < k ∧ b = 0) ∨ (k = 9 ∧ 1 < b)
        · rw [Dec.num_bad hbad] at hE
          have g1 : decide (0 < (k : Int)) = true := by simp; omega
          by_cases hb0 : b = 0
          · subst hb0
            have HE : Hid _ := hE
            clear hE hu
            go_wp2_with (first | (go_at_call 46; refine (HB.out ()).mono ?_; rintro en w1 ⟨rfl, hR2, hB2⟩) | (go_at_call 33; refine (fail_any True W _ rb _ _ 4 hR2 (by decide)).mono ?_; rintro en w2 ⟨rfl, hR3, hB3⟩))
            go_ret
            rw [← HE.out]
            exact ⟨ret_int rfl, hR3, (hB1.trans hB2).trans hB3⟩
          · have g2 : (b == 0) = false := by simpa using hb0
            have g3 : ((k : Int) == 9) = true := by simp; omega
            have g4 : decide (1 < b) = true := by simp; omega
            have HE : Hid _ := hE
            clear hE hu
            go_wp2_with (first | (go_at_call 46; refine (HB.out ()).mono ?_; rintro en w1 ⟨rfl, hR2, hB2⟩) | (go_at_call 33; refine (fail_any True W _ rb _ _ 4 hR2 (by decide)).mono ?_; rintro en w2 ⟨rfl, hR3, hB3⟩))
            go_ret
            rw [← HE.out]
            exact ⟨ret_int rfl, hR3, (hB1.trans hB2).trans hB3⟩
        · obtain ⟨v1, v2⟩ := Dec.num_step (b := b) hk hu b0 (fun hh => hbad (Or.inr hh))
          have x1 := and127b b b0 b1
          have x2 : bits .or .u64 (u : Int) (IntKind.u64.wrap (b % 128 * 2 ^ (7 * k))) = ((u + (b % 128).toNat * 128 ^ k : Nat) : Int) := or_wrap u b k b0 hu v1
          obtain ⟨V, hV⟩ : ∃ V, V = u + (b % 128).toNat * 128 ^ k := ⟨_, rfl⟩
          have hVu : k < 9 → V < 128 ^ (k + 1) := by rw [hV]; exact v2
          rw [← hV] at x2 v1
          by_cases h128 : b < 128
          · rw [Dec.num_last hbad h128, ← hV] at hE
            clear hV v2
            by_cases hk0 : k = 0
            · have g1 : decide (0 < (k : Int)) = false := by simp; omega
              have g3 : ((k : Int) == 9) = false := by simp; omega
              clear hk0
              have g5 : decide (b < 128) = true := by simpa using h128
              by_cases hev : V % 2 = 0
              · have t0 : (((V : Nat) : Int) % 2 == 0) = true := by simp; omega
                have t1 : ((V : Nat) : Int).tdiv 2 = ((V / 2 : Nat) : Int) := by rw [Int.tdiv_eq_ediv_of_nonneg (by omega)]; omega
                have hz : Dec.unzig V = ((V / 2 : Nat) : Int) := by rw [Dec.unzig, if_pos hev]
                obtain ⟨m, hm⟩ : ∃ m, V / 2 = m := ⟨_, rfl⟩
                rw [hm] at t1 hz
                have hm2 : m < 9223372036854775808 := by omega
                have t2 : IntKind.u64.wrap (m : Int) = (m : Int) := by rw [IntKind.wrap_u64]; omega
                rw [hz] at hE
                have HE : Hid _ := hE
                clear hE hz hm hev hu hVu
                go_wp2_with (go_at_call 46; refine (HB.out ()).mono ?_; rintro en w1 ⟨rfl, hR2, hB2⟩)
                all_goals first
                  | (exfalso; simp at g1; omega)
                  | (go_ret; rw [← HE.out]; exact ⟨ret_int (by first | rfl | decide | simp | omega), hR2, hB1.trans hB2⟩)
              · have t0 : (((V : Nat) : Int) % 2 == 0) = false := by simp; omega
                have t1 : ((V : Nat) : Int).tdiv 2 = ((V / 2 : Nat) : Int) := by rw [Int.tdiv_eq_ediv_of_nonneg (by omega)]; omega
                have hz : Dec.unzig V = -((V / 2 : Nat) : Int) - 1 := by rw [Dec.unzig, if_neg hev]
                obtain ⟨m, hm⟩ : ∃ m, V / 2 = m := ⟨_, rfl⟩
                rw [hm] at t1 hz
                have hm2 : m < 9223372036854775808 := by omega
                have t2 : IntKind.u64.wrap (m : Int) = (m : Int) := by rw [IntKind.wrap_u64]; omega
                rw [hz] at hE
                have HE : Hid _ := hE
                clear hE hz hm hev hu hVu
                go_wp2_with (go_at_call 46; refine (HB.out ()).mono ?_; rintro en w1 ⟨rfl, hR2, hB2⟩)
                all_goals first
                  | (exfalso; simp at g1; omega)
                  | (go_ret; rw [← HE.out]; exact ⟨ret_int (by first | rfl | decide | simp | omega), hR2, hB1.trans hB2⟩)
            · by_cases hk9 : k = 9
              · have g1 : decide (0 < (k : Int)) = true := by simp; omega
                have g2 : (b == 0) = false := by simp; omega
                have g3 : ((k : Int) == 9) = true := by simp; omega
                have g4 : decide (1 < b) = false := by simp; omega
                clear hk9
                have g5 : decide (b < 128) = true := by simpa using h128
                by_cases hev : V % 2 = 0
                · have t0 : (((V : Nat) : Int) % 2 == 0) = true := by simp; omega
                  have t1 : ((V : Nat) : Int).tdiv 2 = ((V / 2 : Nat) : Int) := by rw [Int.tdiv_eq_ediv_of_nonneg (by omega)]; omega
                  have hz : Dec.unzig V = ((V / 2 : Nat) : Int) := by rw [Dec.unzig, if_pos hev]
                  obtain ⟨m, hm⟩ : ∃ m, V / 2 = m := ⟨_, rfl⟩
                  rw [hm] at t1 hz
                  have hm2 : m < 9223372036854775808 := by omega
                  have t2 : IntKind.u64.wrap (m : Int) = (m : Int) := by rw [IntKind.wrap_u64]; omega
                  rw [hz] at hE
                  have HE : Hid _ := hE
                  clear hE hz hm hev hu hVu
                  go_wp2_with (go_at_call 46; refine (HB.out ()).mono ?_; rintro en w1 ⟨rfl, hR2, hB2⟩)
                  all_goals first
                    | (exfalso; simp at g1; omega)
                    | (go_ret; rw [← HE.out]; exact ⟨ret_int (by first | rfl | decide | simp | omega), hR2, hB1.trans hB2⟩)
                · have t0 : (((V : Nat) : Int) % 2 == 0) = false := by simp; omega
                  have t1 : ((V : Nat) : Int).tdiv 2 = ((V / 2 : Nat) : Int) := by rw [Int.tdiv_eq_ediv_of_nonneg (by omega)]; omega
                  have hz : Dec.unzig V = -((V / 2 : Nat) : Int) - 1 := by rw [Dec.unzig, if_neg hev]
                  obtain ⟨m, hm⟩ : ∃ m, V / 2 = m := ⟨_, rfl⟩
                  rw [hm] at t1 hz
                  have hm2 : m < 9223372036854775808 := by omega
                  have t2 : IntKind.u64.wrap (m : Int) = (m : Int) := by rw [IntKind.wrap_u64]; omega
                  rw [hz] at hE
                  have HE : Hid _ := hE
                  clear hE hz hm hev hu hVu
                  go_wp2_with (go_at_call 46; refine (HB.out ()).mono ?_; rintro en w1 ⟨rfl, hR2, hB2⟩)
                  all_goals first
                    | (exfalso; simp at g1; omega)
                    | (go_ret; rw [← HE.out]; exact ⟨ret_int (by first | rfl | decide | simp | omega), hR2, hB1.trans hB2⟩)
              · have g1 : decide (0 < (k : Int)) = true := by simp; omega
                have g2 : (b == 0) = false := by simp; omega
                have g3 : ((k : Int) == 9) = false := by simp; omega
                have g5 : decide (b < 128) = true := by simpa using h128
                by_cases hev : V % 2 = 0
                · have t0 : (((V : Nat) : Int) % 2 == 0) = true := by simp; omega
                  have t1 : ((V : Nat) : Int).tdiv 2 = ((V / 2 : Nat) : Int) := by rw [Int.tdiv_eq_ediv_of_nonneg (by omega)]; omega
                  have hz : Dec.unzig V = ((V / 2 : Nat) : Int) := by rw [Dec.unzig, if_pos hev]
                  obtain ⟨m, hm⟩ : ∃ m, V / 2 = m := ⟨_, rfl⟩
                  rw [hm] at t1 hz
                  have hm2 : m < 9223372036854775808 := by omega
                  have t2 : IntKind.u64.wrap (m : Int) = (m : Int) := by rw [IntKind.wrap_u64]; omega
                  rw [hz] at hE
                  have HE : Hid _ := hE
                  clear hE hz hm hev hu hVu
                  go_wp2_with (go_at_call 46; refine (HB.out ()).mono ?_; rintro en w1 ⟨rfl, hR2, hB2⟩)
                  all_goals first
                    | (exfalso; simp at g1; omega)
                    | (go_ret; rw [← HE.out]; exact ⟨ret_int (by first | rfl | decide | simp | omega), hR2, hB1.trans hB2⟩)
                · have t0 : (((V : Nat) : Int) % 2 == 0) = false := by simp; omega
                  have t1 : ((V : Nat) : Int).tdiv 2 = ((V / 2 : Nat) : Int) := by rw [Int.tdiv_eq_ediv_of_nonneg (by omega)]; omega
                  have hz : Dec.unzig V = -((V / 2 : Nat) : Int) - 1 := by rw [Dec.unzig, if_neg hev]
                  obtain ⟨m, hm⟩ : ∃ m, V / 2 = m := ⟨_, rfl⟩
                  rw [hm] at t1 hz
                  have hm2 : m < 9223372036854775808 := by omega
                  have t2 : IntKind.u64.wrap (m : Int) = (m : Int) := by rw [IntKind.wrap_u64]; omega
                  rw [hz] at hE
                  have HE : Hid _ := hE
                  clear hE hz hm hev hu hVu
                  go_wp2_with (go_at_call 46; refine (HB.out ()).mono ?_; rintro en w1 ⟨rfl, hR2, hB2⟩)
                  all_goals first
                    | (exfalso; simp at g1; omega)
                    | (go_ret; rw [← HE.out]; exact ⟨ret_int (by first | rfl | decide | simp | omega), hR2, hB1.trans hB2⟩)
          · rw [Dec.num_more hbad h128, ← hV] at hE
            clear hV v2
            have hk9 : k ≠ 9 := fun h => hbad (Or.inr ⟨h, by omega⟩)
            by_cases hk0 : k = 0
            · have g1 : decide (0 < (k : Int)) = false := by simp; omega
              have g3 : ((k : Int) == 9) = false := by simp; omega
              clear hk0
              have g5 : decide (b < 128) = false := by simpa using h128
              have HV : Hid _ := hVu
              have HE : Hid _ := hE
              have HU : Hid _ := hu
              clear hE hVu hu
              go_wp2_with (go_at_call 46; refine (HB.out ()).mono ?_; rintro en w1 ⟨rfl, hR2, hB2⟩)
              all_goals first
                | (exfalso; simp at g1; omega)
                | (go_roundw; (case rel => exact ⟨k + 1, V, r, by omega, HV.out (by omega), by go_num, rfl, hR2, hB1.trans hB2, by rw [show 10 - (k + 1) = f by omega]; exact HE.out⟩); (case measure => simp [intOf]; omega))
            · have g1 : decide (0 < (k : Int)) = true := by simp; omega
              have g2 : (b == 0) = false := by simp; omega
              have g3 : ((k : Int) == 9) = false := by simp; omega
              have g5 : decide (b < 128) = false := by simpa using h128
              have HV : Hid _ := hVu
              have HE : Hid _ := hE
              have HU : Hid _ := hu
              clear hE hVu hu
              go_wp2_with (go_at_call 46; refine (HB.out ()).mono ?_; rintro en w1 ⟨rfl, hR2, hB2⟩)
              all_goals first
                | (exfalso; simp at g1; omega)
                | (go_roundw; (case rel => exact ⟨k + 1, V, r, by omega, HV.out (by omega), by go_num, rfl, hR2, hB1.trans hB2, by rw [show 10 - (k + 1) = f by omega]; exact HE.out⟩); (case measure => simp [intOf]; omega))
  · rw [Dec.number_e h0]
    have HB : Hid _ := fun (_ : Unit) => byte_any W w rb l e hR
    rw [Dec.byte_e h0] at HB
    have x1 := and127b 0 (by decide) (by decide)
    have x2 : bits .or .u64 0 0 = 0 := by decide
    clear hR
    go_enter Tryd.func45, Tryd.ntmps45
    go_wp2_with fail
    go_loopw [3, 6] (fun s i wr => i = .int .i64 0 ∧ s = .int .u64 0 ∧ wr = w) (fun _ _ _ => 0)
    case atStart => exact ⟨rfl, rfl, rfl⟩
    case round =>
      obtain ⟨rfl, rfl, rfl⟩ := hrel
      go_wp2_with (go_at_call 46; refine (HB.out ()).mono ?_; rintro en w1 ⟨rfl, hR2, hB2⟩)
      go_ret
      exact ⟨ret_int (by first | rfl | decide +kernel), hR2, hB2⟩
end Go.Proofs.YtddamfnoggjkfaaDoor
