/- Contracts of Format, and of the document's answer. -/
import Derived.Test.YtpemgnnnehcnjadTxtF
import Derived.Test.YtpemgnnnehcnjadTxtP
import Derived.Test.YtpemgnnnehcnjadShelf
import Derived.Deep.Cut
namespace Go.Proofs.Ytpemgnnnehcnjad
open Go.ChangeShapes Go.WideShapes Go.ChangeAt Go.RowKit
theorem in_any (n l h : Int) (w : World) :
    Calls Try.prog 9 #[.int .i64 n, .int .i64 l, .int .i64 h] w fun e w' => e = .returned (.bool (decide (l ≤ n ∧ n ≤ h))) ∧ w' = w := by
  go_enter Try.func9, Try.ntmps9
  go_wp2
  all_goals
    go_ret
    exact ⟨ret_bool (by simp <;> omega), rfl⟩
theorem pIsSign : Pred 8 Txt.sgnI := ⟨enters_of Try.func8 (by kernel_rfl) rfl, fun c w _ _ => sisSign_any c w⟩
theorem pSigns1 : Pred 15 Txt.sgnI := ⟨enters_of Try.func15 (by kernel_rfl) rfl, fun c w _ _ => rsigns1_any c w⟩
theorem rsigns_any (s : ByteArray) (w : World) (hs : s.size ≤ maxLen) :
    Calls Try.prog 10 #[.string s] w fun e w' => e = .returned (.bool (Txt.sgns s.data.toList)) ∧ w' = w := by
  go_enter Try.func10, Try.ntmps10
  go_wp2_with (go_at_call 14; refine (rall_any _ _ pSigns1 _ _ hs).mono ?_; rintro e w' ⟨rfl, rfl⟩)
  go_ret
  exact ⟨rfl, rfl⟩
/-- The library's variable holds some number. -/
def ML (w : World) : Prop := ∃ m, w.cell? ⟨0, 0, none⟩ = some (.int .i64 m)
theorem ML.drewN {w : World} (h : ML w) (n : Nat) : ML (w.drewN n) := by
  obtain ⟨m, hm⟩ := h; exact ⟨m, by rw [World.cell?_drewN]; exact hm⟩
/-- Nothing but draws lies between two worlds. -/
def Drew (w w' : World) : Prop := ∃ n, w' = w.drewN n
theorem Drew.refl (w : World) : Drew w w := ⟨0, rfl⟩
theorem drewN_add (w : World) (a b : Nat) : (w.drewN a).drewN b = w.drewN (a + b) := by simp [World.drewN, Nat.add_assoc]
theorem Drew.trans {a b c : World} (h : Drew a b) (k : Drew b c) : Drew a c := by
  obtain ⟨n, rfl⟩ := h; obtain ⟨m, rfl⟩ := k; exact ⟨n + m, drewN_add a n m⟩
theorem Drew.ml {a b : World} (h : Drew a b) (k : ML a) : ML b := by obtain ⟨n, rfl⟩ := h; exact k.drewN n
theorem Drew.grown {a b : World} (h : Drew a b) : Grown a b := by obtain ⟨n, rfl⟩ := h; exact Grown.refl a
theorem scut_any (s sep : ByteArray) (a b : List UInt8) (f : Bool) (w : World) (hw : ML w) (hs : s.size < 4294967281) (hc : Lib.cut s.data.toList sep.data.toList = (a, b, f)) :
    Calls Try.prog 6 #[.string s, .string sep] w fun e w' => e = .returned (.tuple #[.string ⟨a.toArray⟩, .string ⟨b.toArray⟩, .bool f]) ∧ Drew w w' := by
  obtain ⟨m, hm⟩ := hw
  have := Try.strings_Cut s sep m w hs hm
  rw [hc] at this
  exact this
theorem size_mk (a : List UInt8) : (ByteArray.mk a.toArray).size = a.length := by simp [ByteArray.size]
theorem sallL_any (a : List UInt8) (w : World) (hs : (ByteArray.mk a.toArray).size ≤ maxLen) :
    Calls Try.prog 7 #[.string ⟨a.toArray⟩, .func (.func 8) #[] #[]] w fun e w' => e = .returned (.bool (Txt.sgns a)) ∧ w' = w :=
  sall_any _ _ pIsSign _ w hs
theorem toList_mk (a : List UInt8) : (ByteArray.mk a.toArray).toList = a := by rw [ByteArray.toList_eq]
set_option maxHeartbeats 800000 in
theorem sFormat_any (s : ByteArray) (w : World) (hw : ML w) (hs : s.size ≤ maxLen) :
    Calls Try.prog 4 #[.string s] w fun e w' => e = .returned (.bool (Txt.fmtB s.data.toList)) ∧ Drew w w' := by
  have hl := Txt.size_list s
  by_cases h0 : s.size = 0
  · obtain rfl := Txt.eq_empty h0
    go_enter Try.func4, Try.ntmps4
    go_wp2
    go_ret
    exact ⟨ret_bool (by decide), Drew.refl _⟩
  obtain ⟨hne, hne'⟩ := Txt.ne_empty (s := s) (by omega)
  by_cases h1 : 12 < s.size
  · go_enter Try.func4, Try.ntmps4
    go_wp2
    go_ret
    exact ⟨ret_bool (by unfold Txt.fmtB; rw [hl, decide_eq_false (by omega)]; rfl), Drew.refl _⟩
  have hin : decide (1 ≤ s.data.toList.length ∧ s.data.toList.length ≤ 12) = true := decide_eq_true (by omega)
  have hsz : s.size < 4294967281 := by omega
  have lp := Txt.cut_len (l := s.data.toList) (sub := Txt.pct)
  have ls := Txt.cut_len (l := s.data.toList) (sub := Txt.sla)
  have HF : Hid (Txt.fmtB s.data.toList = (bif (Lib.cut s.data.toList Txt.pct).2.2 then Txt.fmtP s.data.toList else bif (Lib.cut s.data.toList Txt.sla).2.2 then Txt.fmtS s.data.toList else Txt.sgns s.data.toList)) := by
    unfold Txt.fmtB; rw [hin]; rfl
  have HP : Hid (Txt.fmtP s.data.toList = (Txt.sgns (Lib.cut s.data.toList Txt.pct).1 && Txt.sgns (Lib.cut s.data.toList Txt.pct).2.1)) := by rfl
  have HS : Hid (Txt.fmtS s.data.toList = ((!(Lib.cut s.data.toList Txt.sla).1.isEmpty && !(Lib.cut s.data.toList Txt.sla).2.1.isEmpty) && (Txt.sgns (Lib.cut s.data.toList Txt.sla).1 && Txt.sgns (Lib.cut s.data.toList Txt.sla).2.1))) := by rfl
  clear hin
  rcases hp : Lib.cut s.data.toList Txt.pct with ⟨a, b, f⟩
  rcases hq : Lib.cut s.data.toList Txt.sla with ⟨c, d, g⟩
  rw [hp] at lp; rw [hq] at ls
  have HF' : Hid (Txt.fmtB s.data.toList = (bif f then (Txt.sgns a && Txt.sgns b) else bif g then ((!c.isEmpty && !d.isEmpty) && (Txt.sgns c && Txt.sgns d)) else Txt.sgns s.data.toList)) := by
    have h1 := HF.out; have h2 := HP.out; have h3 := HS.out
    rw [h2, h3, hp, hq] at h1; exact h1
  have ha : (ByteArray.mk a.toArray).size ≤ maxLen := by rw [size_mk]; unfold maxLen at hs ⊢; simp only at lp; omega
  have hb : (ByteArray.mk b.toArray).size ≤ maxLen := by rw [size_mk]; unfold maxLen at hs ⊢; simp only at lp; omega
  have hc : (ByteArray.mk c.toArray).size ≤ maxLen := by rw [size_mk]; unfold maxLen at hs ⊢; simp only at ls; omega
  have hd : (ByteArray.mk d.toArray).size ≤ maxLen := by rw [size_mk]; unfold maxLen at hs ⊢; simp only at ls; omega
  have H1 : Hid (Lib.cut s.data.toList Txt.pct = (a, b, f)) := hp
  have H2 : Hid (Lib.cut s.data.toList Txt.sla = (c, d, g)) := hq
  clear hp hq HF HP HS lp ls
  cases f
  · have H3 : Hid (Txt.fmtB s.data.toList = bif g then ((!c.isEmpty && !d.isEmpty) && (Txt.sgns c && Txt.sgns d)) else Txt.sgns s.data.toList) := HF'.out
    clear HF'
    cases g
    · go_enter Try.func4, Try.ntmps4
      go_upto_region 6 with (go_at_call 6; refine (scut_any _ _ _ _ _ _ hw hsz H1.out).mono ?_; rintro e w1 ⟨rfl, hw1⟩)
      have hm1 := hw1.ml hw
      go_wp2_with (first | (go_at_call 6; refine (scut_any _ _ _ _ _ _ hm1 hsz H2.out).mono ?_; rintro e w2 ⟨rfl, hw2⟩) | (go_at_call 7; refine (sall_any _ _ pIsSign _ _ hs).mono ?_; rintro e w3 ⟨rfl, hw3⟩; subst w3))
      go_ret
      exact ⟨ret_bool H3.out.symm, hw1.trans hw2⟩
    · have hcl := toList_mk c
      have hdl := toList_mk d
      by_cases c0 : c = []
      · subst c0
        go_enter Try.func4, Try.ntmps4
        go_upto_region 6 with (go_at_call 6; refine (scut_any _ _ _ _ _ _ hw hsz H1.out).mono ?_; rintro e w1 ⟨rfl, hw1⟩)
        have hm1 := hw1.ml hw
        go_wp2_with (first | (go_at_call 6; refine (scut_any _ _ _ _ _ _ hm1 hsz H2.out).mono ?_; rintro e w2 ⟨rfl, hw2⟩))
        go_ret
        exact ⟨ret_bool (by rw [H3.out]; rfl), hw1.trans hw2⟩
      have c1 : c.isEmpty = false := by cases c <;> simp_all
      by_cases d0 : d = []
      · subst d0
        have H4 : Hid (Txt.fmtB s.data.toList = false) := by rw [H3.out]; simp [Hid]
        go_enter Try.func4, Try.ntmps4
        go_upto_region 6 with (go_at_call 6; refine (scut_any _ _ _ _ _ _ hw hsz H1.out).mono ?_; rintro e w1 ⟨rfl, hw1⟩)
        have hm1 := hw1.ml hw
        go_wp2_with (first | (go_at_call 6; refine (scut_any _ _ _ _ _ _ hm1 hsz H2.out).mono ?_; rintro e w2 ⟨rfl, hw2⟩))
        go_ret
        exact ⟨ret_bool H4.out.symm, hw1.trans hw2⟩
      have d1 : d.isEmpty = false := by cases d <;> simp_all
      have H4 : Hid (Txt.fmtB s.data.toList = (Txt.sgns c && Txt.sgns d)) := by
        have h := H3.out
        rw [c1, d1] at h
        exact h
      cases hsc : Txt.sgns c
      all_goals
        go_enter Try.func4, Try.ntmps4
        go_upto_region 6 with (go_at_call 6; refine (scut_any _ _ _ _ _ _ hw hsz H1.out).mono ?_; rintro e w1 ⟨rfl, hw1⟩)
        have hm1 := hw1.ml hw
        go_wp2_with (first | (go_at_call 6; refine (scut_any _ _ _ _ _ _ hm1 hsz H2.out).mono ?_; rintro e w2 ⟨rfl, hw2⟩) | (go_at_call 7; refine (sallL_any _ _ (by assumption)).mono ?_; rintro e w3 ⟨rfl, hw3⟩; subst w3))
        go_ret
        exact ⟨ret_bool (by rw [H4.out, hsc]; rfl), hw1.trans hw2⟩
  · have H3 : Hid (Txt.fmtB s.data.toList = (Txt.sgns a && Txt.sgns b)) := HF'.out
    clear HF'
    cases hsa : Txt.sgns a
    all_goals
      go_enter Try.func4, Try.ntmps4
      go_wp2_with (first | (go_at_call 6; refine (scut_any _ _ _ _ _ _ hw hsz H1.out).mono ?_; rintro e w1 ⟨rfl, hw1⟩) | (go_at_call 7; refine (sallL_any _ _ (by assumption)).mono ?_; rintro e w3 ⟨rfl, hw3⟩; subst w3))
      go_ret
      exact ⟨ret_bool (by rw [H3.out, hsa]; rfl), hw1⟩
theorem extract_le (s : ByteArray) (a b : Nat) : (s.extract a b).size ≤ s.size := by simp [ByteArray.size_extract]; omega
theorem rsignsL_any (s : ByteArray) (l : List UInt8) (w : World) (hs : s.size ≤ maxLen) (he : s.data.toList = l) :
    Calls Try.prog 10 #[.string s] w fun e w' => e = .returned (.bool (Txt.sgns l)) ∧ w' = w := by
  subst he; exact rsigns_any s w hs
set_option maxHeartbeats 1600000 in
theorem rFormat_any (s : ByteArray) (w : World) (hs : s.size ≤ maxLen) :
    Calls Try.prog 5 #[.string s] w fun e w' => e = .returned (.bool (Txt.fmtB s.data.toList)) ∧ w' = w := by
  have hl := Txt.size_list s
  have hML := hs
  by_cases h1 : 1 ≤ s.size ∧ s.size ≤ 12
  · have hi : decide ((1 : Int) ≤ s.size ∧ (s.size : Int) ≤ 12) = true := by simp; omega
    have HF : Hid (Txt.fmtB s.data.toList = (bif (Lib.cut s.data.toList Txt.sla).2.2 then Txt.fmtS s.data.toList else bif (Lib.cut s.data.toList Txt.pct).2.2 then Txt.fmtP s.data.toList else Txt.sgns s.data.toList)) := by
      have h := Txt.fmtB_other s.data.toList
      rw [hl, decide_eq_true (by omega)] at h; exact h
    unfold maxLen at hs
    go_enter Try.func5, Try.ntmps5
    go_wp2_with (go_at_call 9; refine (in_any _ _ _ _).mono ?_; rintro e w' ⟨rfl, rfl⟩)
    go_loop [3] (fun i => ∃ k : Nat, k ≤ s.size ∧ i = .int .i64 k ∧ Lib.NoOcc s.data.toList Txt.sla k) (fun i => s.size - (intOf i).toNat)
    case atStart => exact ⟨0, Nat.zero_le _, rfl, Lib.NoOcc.zero _ _⟩
    case round =>
      obtain ⟨k, hk, rfl, hr⟩ := hrel
      by_cases hlt : k < s.size
      · have ho : Hid (Lib.occAt s.data.toList Txt.sla k = decide ((s[k].toNat : Int) = 47)) := Txt.occ_one s 47 k hlt
        by_cases hc : (s[k].toNat : Int) = 47
        · have hidx := Lib.index_hit hr (by omega) (by rw [ho.out]; exact decide_eq_true hc)
          have hcut := Txt.cut_at hidx
          have HG : Hid (Txt.fmtB s.data.toList = ((!(s.data.toList.take k).isEmpty && !(s.data.toList.drop (k + 1)).isEmpty) && (Txt.sgns (s.data.toList.take k) && Txt.sgns (s.data.toList.drop (k + 1))))) := by
            have h := HF.out
            unfold Txt.fmtS at h
            rw [hcut] at h
            exact h
          clear hidx hcut HF ho
          by_cases k0 : k = 0
          · subst k0
            go_wp2
            go_ret
            exact ⟨ret_bool (by rw [HG.out]; rfl), rfl⟩
          by_cases k1 : k + 1 < s.size
          · have t1 : (s.data.toList.take k).isEmpty = false := by
              cases ht : s.data.toList.take k with
              | nil => have := congrArg List.length ht; rw [List.length_take, hl] at this; simp only [List.length_nil] at this; omega
              | cons _ _ => rfl
            have t2 : (s.data.toList.drop (k + 1)).isEmpty = false := by
              cases ht : s.data.toList.drop (k + 1) with
              | nil => have := congrArg List.length ht; rw [List.length_drop, hl] at this; simp only [List.length_nil] at this; omega
              | cons _ _ => rfl
            have H4 : Hid (Txt.fmtB s.data.toList = (Txt.sgns (s.data.toList.take k) && Txt.sgns (s.data.toList.drop (k + 1)))) := by
              have h := HG.out
              rw [t1, t2] at h
              exact h
            clear HG t1 t2
            cases hsc : Txt.sgns (s.data.toList.take k)
            all_goals
              go_wp2_with (go_at_call 10; refine (rsignsL_any _ _ _ (Nat.le_trans (extract_le _ _ _) hML) (by first | rw [Lib.Pa.extract_upto_list] | rw [Lib.extract_to_end])).mono ?_; rintro e w3 ⟨rfl, hw3⟩; subst w3)
              go_ret
              exact ⟨ret_bool (by rw [H4.out, hsc]; rfl), rfl⟩
          · have t2 : s.data.toList.drop (k + 1) = [] := List.drop_of_length_le (by omega)
            have H4 : Hid (Txt.fmtB s.data.toList = false) := by
              have h := HG.out
              rw [t2] at h
              rw [h]; simp [Hid]
            clear HG t2
            go_wp2
            go_ret
            exact ⟨ret_bool H4.out.symm, rfl⟩
        · have hn := hr.succ (by rw [ho.out]; exact decide_eq_false hc)
          go_wp2
          go_round
          case rel => exact ⟨k + 1, by omega, by go_num, hn⟩
          case measure => simp [intOf]; omega
      · have hidx : Hid (Lib.index s.data.toList Txt.sla = -1) := Lib.index_past (by decide) hr (by rw [hl]; simp [Txt.sla]; omega)
        have HG : Hid (Txt.fmtB s.data.toList = (bif (Lib.cut s.data.toList Txt.pct).2.2 then Txt.fmtP s.data.toList else Txt.sgns s.data.toList)) := by
          have h := HF.out
          rw [Txt.cut_none hidx.out] at h
          exact h
        clear hidx HF hr
        go_wp2
        go_loop [4] (fun i => ∃ k : Nat, k + 1 ≤ s.size ∧ i = .int .i64 k ∧ Lib.NoOcc s.data.toList Txt.pct k) (fun i => s.size - (intOf i).toNat)
        case atStart => exact ⟨0, by omega, rfl, Lib.NoOcc.zero _ _⟩
        case round =>
          obtain ⟨j, hj, rfl, hr⟩ := hrel
          by_cases hlj : j + 1 < s.size
          · have ho : Hid (Lib.occAt s.data.toList Txt.pct j = (decide ((s[j].toNat : Int) = 37) && decide ((s[j + 1].toNat : Int) = 115))) := Txt.occ_two s 37 115 j hlj
            by_cases hc : (s[j].toNat : Int) = 37
            · by_cases hd : (s[j + 1].toNat : Int) = 115
              · have hidx := Lib.index_hit hr (by omega) (by rw [ho.out, decide_eq_true hc, decide_eq_true hd]; rfl)
                have hcut := Txt.cut_at hidx
                have H4 : Hid (Txt.fmtB s.data.toList = (Txt.sgns (s.data.toList.take j) && Txt.sgns (s.data.toList.drop (j + 2)))) := by
                  have h := HG.out
                  unfold Txt.fmtP at h
                  rw [hcut] at h
                  exact h
                clear hidx hcut HG ho hr
                cases hsc : Txt.sgns (s.data.toList.take j)
                all_goals
                  go_wp2_with (go_at_call 10; refine (rsignsL_any _ _ _ (Nat.le_trans (extract_le _ _ _) hML) (by first | rw [Lib.Pa.extract_upto_list] | rw [Lib.extract_to_end])).mono ?_; rintro e w3 ⟨rfl, hw3⟩; subst w3)
                  go_ret
                  exact ⟨ret_bool (by rw [H4.out, hsc]; rfl), rfl⟩
              · have hn := hr.succ (by rw [ho.out, decide_eq_false hd, Bool.and_false])
                go_wp2
                go_round
                case rel => exact ⟨j + 1, by omega, by go_num, hn⟩
                case measure => simp [intOf]; omega
            · have hn := hr.succ (by rw [ho.out, decide_eq_false hc, Bool.false_and])
              go_wp2
              go_round
              case rel => exact ⟨j + 1, by omega, by go_num, hn⟩
              case measure => simp [intOf]; omega
          · have hidx : Hid (Lib.index s.data.toList Txt.pct = -1) := Lib.index_past (by decide) hr (by rw [hl]; simp [Txt.pct]; omega)
            have H4 : Hid (Txt.fmtB s.data.toList = Txt.sgns s.data.toList) := by
              have h := HG.out
              rw [Txt.cut_none hidx.out] at h
              exact h
            clear hidx HG hr
            go_wp2_with (go_at_call 10; refine (rsigns_any _ _ hML).mono ?_; rintro e w3 ⟨rfl, hw3⟩; subst w3)
            go_ret
            exact ⟨ret_bool H4.out.symm, rfl⟩
  · have hi : decide ((1 : Int) ≤ s.size ∧ (s.size : Int) ≤ 12) = false := by simp; omega
    have HH : Hid (Txt.fmtB s.data.toList = false) := by
      unfold Txt.fmtB; rw [hl, decide_eq_false h1]; rfl
    go_enter Try.func5, Try.ntmps5
    go_wp2_with (go_at_call 9; refine (in_any _ _ _ _).mono ?_; rintro e w' ⟨rfl, rfl⟩)
    go_ret
    exact ⟨ret_bool HH.out.symm, rfl⟩
end Go.Proofs.Ytpemgnnnehcnjad
