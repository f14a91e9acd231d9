/- Proved: at every int the law DatesBack returns true: of each day of the window civil.Date and civil.Number lead back and forth, and the next number is the next day's. The table daysAhead holds what its initialiser lays (tied to the program's text by the card). -/
import Derived.Test.YtgncfbckgbkpcabDoorCards
import Derived.Test.YtgncfbckgbkpcabDoorTie
import Derived.Test.YtgncfbckgbkpcabDoorMath
import Derived.Test.YtgncfbckgbkpcabDoorPlain
import Derived.Test.YtgncfbckgbkpcabDoorYear
import Derived.Test.YtgncfbckgbkpcabDoorLaid
import Derived.Test.YtgncfbckgbkpcabDoorShapes
import Derived.WalkKit
import Derived.ProofKit
import Derived.OpenShut
import Derived.Deep.DeepHandedRow
import Derived.Lib.LaidTab
import Derived.Deep.Cut
namespace Go.Proofs.YtgncfbckgbkpcabDoor
open Go.ChangeShapes Go.WideShapes Go.ChangeAt Go.RowKit
set_option linter.unusedVariables false

theorem next_day {k y m d a b c : Int} (h : Cal.Day y m d) (hn : Cal.mb y m + d - 1 = k) (h' : Cal.Day a b c) (hn' : Cal.mb a b + c - 1 = k + 1) (hk : k + 1 ≤ 47482) :
    (a = y ∧ b = m ∧ c = d + 1 ∧ d < Cal.dim y m) ∨ (a = y ∧ b = m + 1 ∧ c = 1 ∧ d = Cal.dim y m) ∨ (a = y + 1 ∧ b = 1 ∧ c = 1 ∧ m = 12 ∧ d = 31 ∧ Cal.dim y m = 31) := by
  obtain ⟨y1, y2, m1, m2, d1, d2⟩ := h
  by_cases q : d < Cal.dim y m
  · have u := Cal.day_unique h' (⟨y1, y2, m1, m2, by omega, by omega⟩ : Cal.Day y m (d + 1)) (by omega)
    exact Or.inl ⟨u.1, u.2.1, u.2.2, q⟩
  have e : d = Cal.dim y m := by omega
  by_cases q' : m < 12
  · have s := Cal.mb_succ y m1 m2
    have l := Cal.dim_lo y (m + 1)
    have u := Cal.day_unique h' (⟨y1, y2, by omega, by omega, by omega, by omega⟩ : Cal.Day y (m + 1) 1) (by omega)
    exact Or.inr (Or.inl ⟨u.1, u.2.1, u.2.2, e⟩)
  have m12 : m = 12 := by omega
  subst m12
  have s := Cal.mb_succ y m1 m2
  have s' : Cal.mb y (12 + 1) = Cal.yb (y + 1) := Cal.mb_13 y
  have dm : Cal.dim y 12 = 31 := by simp [Cal.dim]
  have o := Cal.mb_one (y + 1)
  have l := Cal.dim_lo (y + 1) 1
  have yy : y < 2100 := by
    by_cases g : y = 2100
    · subst g
      have v : Cal.mb 2100 12 = 47816 := by decide
      omega
    · omega
  have u := Cal.day_unique h' (⟨by omega, by omega, by omega, by omega, by omega, by omega⟩ : Cal.Day (y + 1) 1 1) (by omega)
  exact Or.inr (Or.inr ⟨u.1, u.2.1, u.2.2, rfl, by omega, dm⟩)
theorem back_facts {k y m d a b c : Int} (h : Cal.Day y m d) (hn : Cal.mb y m + d - 1 = k) (h' : Cal.Day a b c) (hn' : Cal.mb a b + c - 1 = k + 1) (hk : k + 1 ≤ 47482) :
    (a = y ∧ b = m ∧ c = d + 1 ∧ (Cal.mb y m + d - 1 == k) = true ∧ (d == Cal.dim y m) = false ∧ (d + 1 == 1) = false) ∨
    (a = y ∧ b = m + 1 ∧ c = 1 ∧ (Cal.mb y m + d - 1 == k) = true ∧ (d == Cal.dim y m) = true ∧ (m + 1 == m) = false) ∨
    (a = y + 1 ∧ b = 1 ∧ c = 1 ∧ (Cal.mb y m + d - 1 == k) = true ∧ (d == Cal.dim y m) = true ∧ (y + 1 == y) = false ∧ (m == 12) = true ∧ (d == 31) = true) := by
  have d1 := h.d1
  rcases next_day h hn h' hn' hk with ⟨q1, q2, q3, q4⟩ | ⟨q1, q2, q3, q4⟩ | ⟨q1, q2, q3, q4, q5, q6⟩
  · exact Or.inl ⟨q1, q2, q3, by simpa using hn, by simp; omega, by simp; omega⟩
  · exact Or.inr (Or.inl ⟨q1, q2, q3, by simpa using hn, by simpa using q4, by simp; omega⟩)
  · exact Or.inr (Or.inr ⟨q1, q2, q3, by simpa using hn, by simp; omega, by simp; omega, by simpa using q4, by simpa using q5⟩)
theorem civilTells_any (w : World) (hT : Tab w) :
    Calls Tryd.prog 10 #[] w fun e w' => e = .returned (.bool true) ∧ Grown w w' := by
  have e : Cal.dim 2000 2 = 29 := by decide
  go_enter Tryd.func10, Tryd.ntmps10
  go_wp2_with (first | (go_at_call 11; refine (window_any _).mono ?_; rintro e w1 ⟨rfl, rfl⟩) | (go_at_call 15; refine (days_yes _ _ _ hT (by omega) (by omega) (by omega) (by omega)).mono ?_; rintro e w2 ⟨rfl, hg⟩))
  go_ret
  exact ⟨rfl, hg⟩
set_option maxRecDepth 20000 in
set_option maxHeartbeats 3200000 in
theorem datesBack_walk (a0 : Int) (w0 : wfi a0) (w : World) (hT : Tab w) :
    Calls Tryd.prog 5 #[.int .i64 a0] w fun e w' => e = .returned (.bool true) ∧ Grown w w' := by
  have p1 := Cal.pk_lo a0 (show (0 : Int) < 73049 by omega)
  have p2 := Cal.pk_hi a0 (show (0 : Int) < 73049 by omega)
  have hp : ∀ W : World, Calls Tryd.prog 12 #[.int .i64 a0, .int .i64 73049] W fun e w' => e = .returned (.int .i64 (Cal.pk a0 73049)) ∧ w' = W := fun W => picked_any a0 73049 W w0 (by omega) (by omega)
  generalize Cal.pk a0 73049 = k at p1 p2 hp
  clear w0
  have hG : Grown w w := Grown.refl w
  go_enter Tryd.func5, Tryd.ntmps5
  go_upto_region 8 with (first
    | (go_at_call 10; refine (civilTells_any _ hT).mono ?_; rintro e w1 ⟨rfl, hg1⟩; replace hG := Grown_trans hG hg1; replace hT := hT.grown hg1; clear hg1)
    | (go_at_call 11; refine (window_any _).mono ?_; rintro e w1 ⟨rfl, rfl⟩)
    | (go_at_call 12; refine (hp _).mono ?_; rintro e w1 ⟨rfl, rfl⟩)
    | (go_at_call 13; have hdd := hd; clear hdd; refine (date_yes _ _ hT (by omega) (by omega)).mono ?_; rintro e w2 ⟨a, b, c, rfl, hd', hn', hg1⟩; replace hG := Grown_trans hG hg1; replace hT := hT.grown hg1; clear hg1)
    | (go_at_call 13; refine (date_yes _ _ hT (by omega) (by omega)).mono ?_; rintro e w2 ⟨y, m, d, rfl, hd, hn, hg1⟩; replace hG := Grown_trans hG hg1; replace hT := hT.grown hg1; clear hg1; have HN : Hid (Cal.mb y m + d - 1 = -25567 + k) := hn; clear hn)
    | (go_at_call 14; refine (number_yes _ _ _ _ hT hd).mono ?_; rintro e w2 ⟨rfl, hg1⟩; replace hG := Grown_trans hG hg1; replace hT := hT.grown hg1; clear hg1))
  have nx := back_facts hd HN.out hd' hn' (by omega)
  clear hd' hn' HN
  have hm1 := hd.m1; have hm2 := hd.m2; have hy1 := hd.y1; have hy2 := hd.y2; have hd1 := hd.d1; have hd2 : d ≤ 31 := Int.le_trans hd.d2 (Cal.dim_hi y m)
  clear hd p1 p2 hp
  rcases nx with ⟨rfl, rfl, rfl, q1, q2, q3⟩ | ⟨rfl, rfl, rfl, q1, q2, q3⟩ | ⟨rfl, rfl, rfl, q1, q2, q3, q4, q5⟩
  all_goals
    go_wp2_with (go_at_call 15; refine (days_yes _ _ _ hT hy1 hy2 hm1 hm2).mono ?_; rintro e w2 ⟨rfl, hg1⟩; replace hG := Grown_trans hG hg1; clear hg1 hT hy1 hy2 hm1 hm2)
    go_ret
    exact ⟨ret_bool (by first | rfl | simp [*]), hG⟩

theorem datesBack_own : ownKnob Tryd.prog.godebug = none := by kernel_rfl
theorem gTab : Tryd.prog.globalNamed "sundial/civil.daysAhead" = some 0 := by kernel_rfl
theorem gTabType : (Tryd.prog.globals[0]?).map (·.type) = some 45 := by kernel_rfl
theorem cellsTab : Tryd.prog.cellsOf 45 = 13 := by kernel_rfl
theorem cellsNum : Tryd.prog.cellsOf 3 = 1 := by kernel_rfl
/-- What the row's list gives: the table's cells hold its thirteen numbers. -/
theorem datesBack_table {W : World} (h : laidMetH Tryd.prog Rows.datesBackRow.laid W) : Lib.TabIs Tryd.prog W "sundial/civil.daysAhead" .i64 [0, 31, 59, 90, 120, 151, 181, 212, 243, 273, 304, 334, 365] :=
  Lib.tabIs_of_head (rest := []) gTab gTabType Tryd.underlying45 Tryd.underlying3 cellsNum cellsTab h
theorem datesBack_tab {W : World} (h : laidMetH Tryd.prog Rows.datesBackRow.laid W) : Tab W := by
  intro m h1 h2
  have t := datesBack_table h
  rcases cases13 h1 h2 with e | e | e | e | e | e | e | e | e | e | e | e | e <;> subst e
  · exact t.cell gTab 0 (by decide)
  · exact t.cell gTab 1 (by decide)
  · exact t.cell gTab 2 (by decide)
  · exact t.cell gTab 3 (by decide)
  · exact t.cell gTab 4 (by decide)
  · exact t.cell gTab 5 (by decide)
  · exact t.cell gTab 6 (by decide)
  · exact t.cell gTab 7 (by decide)
  · exact t.cell gTab 8 (by decide)
  · exact t.cell gTab 9 (by decide)
  · exact t.cell gTab 10 (by decide)
  · exact t.cell gTab 11 (by decide)
  · exact t.cell gTab 12 (by decide)
/-- A world for the witness: the settled one, the table holding what its initialiser lays. -/
def laidHeap (w : World) : World := { w with heap := w.heap.modify 0 fun
    | .cells _ t frozen => .cells #[.int .i64 0, .int .i64 31, .int .i64 59, .int .i64 90, .int .i64 120, .int .i64 151, .int .i64 181, .int .i64 212, .int .i64 243, .int .i64 273, .int .i64 304, .int .i64 334, .int .i64 365] t frozen
    | o => o }
theorem datesBack_met (os : Os) : laidMet Tryd.prog Rows.datesBackRow.laid ((laidHeap (World.holding Tryd.prog os ⟨#[], #[], []⟩)).forCall (fun _ _ => 0) ⟨#[], #[.int .i64 0], []⟩).memory :=
  laidMet_of_run' 8 (by kernel_rfl) (by kernel_rfl)
theorem datesBack_reads (os : Os) {H : Type} (enc : TypeId × Value → H) : ∃ places, DataW.whole enc Tryd.prog ((laidHeap (World.holding Tryd.prog os ⟨#[], #[], []⟩)).forCall (fun _ _ => 0) ⟨#[], #[.int .i64 0], []⟩).memory Tryd.f5.params.toList Rows.datesBackSpec.vars false (#[.int .i64 0] : Array Value).toList 8 = some ([.lit (.int .i64 0)], [], places) :=
  ⟨[], by kernel_rfl⟩
theorem datesBack_contract (H : Type) (enc : TypeId × Value → H) (W : World) (base : Nat) (args : Array Value) (ds gs : List (DataW H)) (before : List MemPlace)
    (hval : ∀ (j : Nat) t v, Tryd.f5.params[j]? = some t → args[j]? = some v → Value.okWide Tryd.prog W .any base t v)
    (hW : DataW.Whole enc Tryd.prog Tryd.f5.params.toList Rows.datesBackSpec.vars false W args.toList ds gs before) (hL : laidMetH Tryd.prog Rows.datesBackRow.laid W) :
    Calls Tryd.prog 5 args W fun e W' => ∃ v, e = .returned v ∧ Rows.datesBackSpec.post enc Tryd.prog Tryd.f5 false true false false W args v W' := by
  have hW' := hW
  obtain ⟨p, q, hA0, hV, rfl, hfz, hnd⟩ := hW
  have hA : DataW.TrodAll enc Tryd.prog W 0 (fun _ => true) true Tryd.f5.params.toList args.toList ds p := hA0
  rw [Tryd.params5] at hA hval
  obtain ⟨v0, vs0, d0, ds0, p0, q0, hargs, rfl, rfl, h0, r0⟩ := trodAll_cons hA
  obtain ⟨rfl, rfl, rfl⟩ := trodAll_nil r0
  obtain rfl : args = #[v0] := by cases args; simp_all
  obtain ⟨rfl, rfl⟩ := trodVars_none hV
  obtain ⟨a0, rfl, rfl, rfl, w0⟩ := open_int Tryd.underlying3 (hval 0 3 v0 rfl rfl) h0
  clear hA0
  simp only [List.append_nil] at hW'
  refine (datesBack_walk a0 w0 W (datesBack_tab hL)).mono fun e W' ⟨he, hg⟩ => ?_
  subst he
  exact ⟨_, rfl, post_of_same (pa := []) (pv := []) hW' (fun _ _ _ => (trodAll_cons_mk (shut_bool Tryd.underlying4 _) trodAll_mk0)) (fun sp _ => (trodAll_cons_mk (shut_int Tryd.underlying3 w0) trodAll_mk0)) (fun _ _ => rfl) rfl
    (hg.frame _) hg.2.1 (ok_one (by kernel_rfl) rfl (okWide_bool_mk Tryd.underlying4 _))⟩
set_option maxRecDepth 100000 in
theorem datesBack_lifted (os : Os) (started : os.Started) (H : Type) (enc : TypeId × Value → H) (F : Stop.Interp) :
    ReturnsInHanded {} Tryd.checked os 5 .any ((OpenSpec.ofChange Rows.datesBackSpec).preRow enc Tryd.prog Tryd.f5 Rows.datesBackRow.domain false Rows.datesBackRow.laid) (((OpenSpec.ofChange Rows.datesBackSpec).at F).post enc Tryd.prog Tryd.f5 false true false false) := by
  obtain ⟨places, hx⟩ := datesBack_reads os enc
  refine returnsInHanded_of_row (C := Tryd.checked) (s := OpenSpec.ofChange Rows.datesBackSpec) datesBack_own started (by kernel_rfl) Tryd.func5
    (witness_row_at (enc := enc) (C := Tryd.checked) false (laidHeap (World.holding Tryd.prog os ⟨#[], #[], []⟩)) #[.int .i64 0] rfl (by kernel_rfl) (by kernel_rfl) (by kernel_rfl)
      (OpenSpec.preRow_of_cond 8 hx (by kernel_rfl) (fun k hk => by cases hk) (by kernel_rfl) (datesBack_met os))) ?_
  intro W base args ds gs before hval hW _ _ _ hL _ _
  exact datesBack_contract H enc W base args ds gs before hval hW hL
theorem datesBack_said : Rows.DatesBackSaid :=
  OpenClaim.holds_of_cond 5 Tryd.f5 rfl rfl rfl rfl rfl rfl rfl ⟨rfl, rfl, rfl, rfl, rfl⟩ rfl rfl rfl rfl rfl (by kernel_rfl) Tryd.func5 (by kernel_rfl)
    (of_decide_eq_true (by kernel_rfl)) (by unfold Func.isWrapper; first | (rw [if_pos (by decide +kernel)]; kernel_rfl) | (rw [if_neg (by decide +kernel)]; exact ⟨rfl, rfl⟩))
    (fun os started H enc _ F => by rw [OpenClaim.pre_eq_preRow]; exact datesBack_lifted os started H enc F)
theorem datesBack_plain (f : FuncId) (fn : Func) (hf : Tryd.pinned.checked.prog.funcNamed "sundial/sundialkeep.DatesBack" = some f) (hfn : Tryd.pinned.checked.prog.funcs[f]? = some fn) :
    false = Tryd.pinned.checked.prog.looks [] ∧ ∀ (j : Nat) t, fn.params[j]? = some t → Tryd.pinned.checked.prog.wantsStandIn t = false := by
  obtain rfl : f = 5 := Option.some.inj ((show Tryd.prog.funcNamed "sundial/sundialkeep.DatesBack" = some 5 by kernel_rfl).symm.trans hf) |>.symm
  obtain rfl : fn = Tryd.f5 := (Option.some.inj (Tryd.func5.symm.trans hfn)).symm
  refine ⟨by kernel_rfl, fun j t ht => ?_⟩
  rw [Tryd.params5] at ht
  have hm : t = 3 := by have h := Array.mem_of_getElem? ht; simp at h; first | simpa using h | (rcases h with h | h | h | h <;> simp [h]) | (rcases h with h | h | h <;> simp [h])
  rcases hm with rfl
  exact (show Tryd.prog.wantsStandIn 3 = false by kernel_rfl)
/-- The card. -/
theorem datesBack_card : Rows.DatesBackCardSaid :=
  Claim7.holds_tied_plain_at .later [] _ _ _ _ datesBack_said (fun _ h => by cases h) (by kernel_rfl) (fun _ h => by cases h) datesBack_row_tie rfl ⟨rfl, rfl⟩ (by kernel_rfl) rfl datesBack_plain (by kernel_rfl)
#print axioms datesBack_card
end Go.Proofs.YtgncfbckgbkpcabDoor
