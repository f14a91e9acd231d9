/- Plain mathematics of the calendar: no Go in sight. It proves nothing of the program by itself. -/
import Derived.Below
import Derived.RowKit3
import Derived.ProofKit
namespace Go.Proofs.YtcpmbjlhblkniaaDoor
namespace Cal

theorem tmod_pos {a b : Int} (h : 0 ≤ a) : a.tmod b = a % b := Int.tmod_eq_emod_of_nonneg h
theorem tmod_neg {a b : Int} (h : a < 0) : a.tmod b = -((-a) % b) := by
  have e : a.tmod b = -((-a).tmod b) := by rw [Int.neg_tmod, Int.neg_neg]
  rw [e, Int.tmod_eq_emod_of_nonneg (by omega)]

def leapB (y : Int) : Bool := (y % 4 == 0 && !(y % 100 == 0)) || y % 400 == 0
theorem tm4 (y : Int) : (y.tmod 4 = 0) ↔ (y % 4 = 0) := by
  by_cases h : 0 ≤ y
  · rw [tmod_pos h]
  · rw [tmod_neg (by omega)]; omega
theorem tm100 (y : Int) : (y.tmod 100 = 0) ↔ (y % 100 = 0) := by
  by_cases h : 0 ≤ y
  · rw [tmod_pos h]
  · rw [tmod_neg (by omega)]; omega
theorem tm400 (y : Int) : (y.tmod 400 = 0) ↔ (y % 400 = 0) := by
  by_cases h : 0 ≤ y
  · rw [tmod_pos h]
  · rw [tmod_neg (by omega)]; omega
theorem leap_t (y : Int) : leapB y = ((y.tmod 4 == 0 && !(y.tmod 100 == 0)) || y.tmod 400 == 0) := by
  have a := tm4 y; have b := tm100 y; have c := tm400 y
  have a' : (y.tmod 4 == 0) = (y % 4 == 0) := by rw [Bool.eq_iff_iff]; simpa using a
  have b' : (y.tmod 100 == 0) = (y % 100 == 0) := by rw [Bool.eq_iff_iff]; simpa using b
  have c' : (y.tmod 400 == 0) = (y % 400 == 0) := by rw [Bool.eq_iff_iff]; simpa using c
  rw [a', b', c', leapB]

/-- The weekday of a day's number. -/
def wdy (n : Int) : Int := (n + 4) % 7
theorem wdy_lo (n : Int) : 0 ≤ wdy n := by unfold wdy; omega
theorem wdy_hi (n : Int) : wdy n ≤ 6 := by unfold wdy; omega
theorem wdy_a (n : Int) : (n.tmod 7 + 4 + 7).tmod 7 = wdy n := by
  unfold wdy
  by_cases h : 0 ≤ n
  · rw [tmod_pos h, tmod_pos (by omega)]; omega
  · rw [tmod_neg (a := n) (by omega), tmod_pos (by omega)]; omega
theorem tm7_lo (n : Int) : -6 ≤ n.tmod 7 := by
  by_cases h : 0 ≤ n
  · rw [tmod_pos h]; omega
  · rw [tmod_neg (by omega)]; omega
theorem tm7_hi (n : Int) : n.tmod 7 ≤ 6 := by
  by_cases h : 0 ≤ n
  · rw [tmod_pos h]; omega
  · rw [tmod_neg (by omega)]; omega
theorem wdy_b (n : Int) (h : n.tmod 7 < 0) : (n.tmod 7 + 7 + 4) % 7 = wdy n := by
  unfold wdy
  by_cases g : 0 ≤ n
  · rw [tmod_pos g] at h ⊢; omega
  · rw [tmod_neg (by omega)] at h ⊢; omega
theorem wdy_c (n : Int) (h : 0 ≤ n.tmod 7) : (n.tmod 7 + 4) % 7 = wdy n := by
  unfold wdy
  by_cases g : 0 ≤ n
  · rw [tmod_pos g] at h ⊢; omega
  · rw [tmod_neg (by omega)] at h ⊢; omega

/-- P1.4: what is wrong with a day of a month: 0, 2 (ErrRange) or 3 (ErrKind). -/
def dayF (k w n : Int) : Int :=
  if k = 1 then (if w = 0 ∧ 1 ≤ n ∧ n ≤ 31 then 0 else 2)
  else if k = 2 then (if 0 ≤ w ∧ w ≤ 6 ∧ n = 0 then 0 else 2)
  else if k = 3 ∨ k = 4 then (if 0 ≤ w ∧ w ≤ 6 ∧ 1 ≤ n ∧ n ≤ 31 then 0 else 2)
  else 3
/-- P1.6: what is wrong with a moment of a year. -/
def momF (mo k w n ti cl : Int) : Int :=
  if dayF k w n ≠ 0 then dayF k w n
  else if cl = 0 ∨ cl = 1 ∨ cl = 2 then (if 1 ≤ mo ∧ mo ≤ 12 ∧ 0 ≤ ti ∧ ti ≤ 604800 then 0 else 2)
  else 3

/-- A leap year's day more. -/
def lp (y : Int) : Int := if leapB y then 1 else 0
theorem lp_lo (y : Int) : 0 ≤ lp y := by unfold lp; split <;> omega
theorem lp_hi (y : Int) : lp y ≤ 1 := by unfold lp; split <;> omega
theorem lp_iff (y : Int) : lp y = if (y % 4 = 0 ∧ y % 100 ≠ 0) ∨ y % 400 = 0 then 1 else 0 := by
  have e : (leapB y = true) = ((y % 4 = 0 ∧ y % 100 ≠ 0) ∨ y % 400 = 0) := by unfold leapB; simp
  unfold lp
  simp only [e]

/-- Leap years ahead of a year, from year 1 on; the number of a year's first day. -/
def lya (y : Int) : Int := (y - 1) / 4 - (y - 1) / 100 + (y - 1) / 400
def yb (y : Int) : Int := 365 * (y - 1970) + lya y - 477
theorem lya_succ (y : Int) : lya (y + 1) = lya y + lp y := by
  rw [lp_iff]; unfold lya
  split <;> omega
theorem yb_succ (y : Int) : yb (y + 1) = yb y + 365 + lp y := by
  have := lya_succ y
  unfold yb; omega
theorem lya_bd {y : Int} (h : 1 ≤ y) (h' : y ≤ 10000) : 0 ≤ lya y ∧ lya y ≤ 2500 := by unfold lya; omega
theorem yb_bd {y : Int} (h : 1 ≤ y) (h' : y ≤ 10000) : -800000 ≤ yb y ∧ yb y ≤ 4000000 := by unfold yb lya; omega
theorem yb_1970 : yb 1970 = 0 := by decide
theorem yb_1899 : yb 1899 = -25932 := by decide
theorem yb_1900 : yb 1900 = -25567 := by decide
theorem yb_2100 : yb 2100 = 47482 := by decide
theorem yb_2101 : yb 2101 = 47847 := by decide
theorem yb_mono {a b : Int} (h : a ≤ b) : yb a ≤ yb b := by unfold yb lya; omega
theorem yb_guess {n : Int} (h1 : -25932 ≤ n) (h2 : n < 47847) : yb (1899 + (n + 25932) / 366) ≤ n := by unfold yb lya; omega

/-- Days ahead of a month, in a year that is no leap year. -/
def tab (m : Int) : Int :=
  if m = 1 then 0 else if m = 2 then 31 else if m = 3 then 59 else if m = 4 then 90 else if m = 5 then 120 else if m = 6 then 151 else if m = 7 then 181
  else if m = 8 then 212 else if m = 9 then 243 else if m = 10 then 273 else if m = 11 then 304 else if m = 12 then 334 else 365
/-- The number of a month's first day; month 13 is the next year's January. -/
def mb (y m : Int) : Int := yb y + tab m + if 2 < m then lp y else 0
/-- Days of a month. -/
def dim (y m : Int) : Int := if m = 4 ∨ m = 6 ∨ m = 9 ∨ m = 11 then 30 else if m = 2 then 28 + lp y else 31
theorem cases12 {m : Int} (h : 1 ≤ m) (h' : m ≤ 12) : m = 1 ∨ m = 2 ∨ m = 3 ∨ m = 4 ∨ m = 5 ∨ m = 6 ∨ m = 7 ∨ m = 8 ∨ m = 9 ∨ m = 10 ∨ m = 11 ∨ m = 12 := by omega
theorem mb_succ (y : Int) {m : Int} (h : 1 ≤ m) (h' : m ≤ 12) : mb y (m + 1) = mb y m + dim y m := by
  rcases cases12 h h' with e | e | e | e | e | e | e | e | e | e | e | e <;> subst e <;> simp [mb, dim, tab] <;> omega
theorem mb_one (y : Int) : mb y 1 = yb y := by simp [mb, tab]
theorem mb_13 (y : Int) : mb y 13 = yb (y + 1) := by rw [yb_succ]; simp [mb, tab]
theorem dim_lo (y m : Int) : 28 ≤ dim y m := by
  have := lp_lo y
  unfold dim; split
  · omega
  · split <;> omega
theorem dim_hi (y m : Int) : dim y m ≤ 31 := by
  have := lp_hi y
  unfold dim; split
  · omega
  · split <;> omega
theorem tab_bd (m : Int) : 0 ≤ tab m ∧ tab m ≤ 365 := by
  unfold tab
  repeat' split
  all_goals omega
theorem mb_bd {y : Int} (m : Int) (h : 1 ≤ y) (h' : y ≤ 10000) : -800000 ≤ mb y m ∧ mb y m ≤ 4000400 := by
  have a := yb_bd h h'
  have b := tab_bd m
  have c := lp_lo y
  have d := lp_hi y
  unfold mb; split <;> omega
/-- A month lies within its year. -/
theorem mb_in (y : Int) {m : Int} (h : 1 ≤ m) (h' : m ≤ 12) : yb y ≤ mb y m ∧ mb y m + dim y m ≤ yb (y + 1) := by
  have a := lp_lo y
  rw [yb_succ]
  rcases cases12 h h' with e | e | e | e | e | e | e | e | e | e | e | e <;> subst e <;> simp [mb, dim, tab] <;> omega
theorem mb_lt (y : Int) {a b : Int} (h : 1 ≤ a) (h' : b ≤ 13) (hab : a < b) : mb y a + dim y a ≤ mb y b := by
  have key : ∀ k : Nat, ∀ a : Int, 1 ≤ a → a + 1 + k ≤ 13 → mb y a + dim y a ≤ mb y (a + 1 + k) := by
    intro k
    induction k with
    | zero => intro a h1 h2; have := mb_succ y h1 (by omega); simp; omega
    | succ k ih =>
      intro a h1 h2
      have i1 := ih a h1 (by omega)
      have i2 := mb_succ y (m := a + 1 + k) (by omega) (by omega)
      have i3 := dim_lo y (a + 1 + k)
      have e : a + 1 + ((k + 1 : Nat) : Int) = a + 1 + k + 1 := by omega
      rw [e]; omega
  have := key (b - a - 1).toNat a h (by omega)
  have e : a + 1 + ((b - a - 1).toNat : Int) = b := by omega
  rw [e] at this; exact this

/-- A day that may be. -/
structure Day (y m d : Int) : Prop where
  y1 : 1899 ≤ y
  y2 : y ≤ 2100
  m1 : 1 ≤ m
  m2 : m ≤ 12
  d1 : 1 ≤ d
  d2 : d ≤ dim y m
theorem day_unique {y m d y' m' d' : Int} (h : Day y m d) (h' : Day y' m' d') (e : mb y m + d - 1 = mb y' m' + d' - 1) : y = y' ∧ m = m' ∧ d = d' := by
  have a := mb_in y h.m1 h.m2
  have b := mb_in y' h'.m1 h'.m2
  have h1 := h.d1; have h2 := h.d2; have h3 := h'.d1; have h4 := h'.d2
  have ey : y = y' := by
    rcases Int.lt_trichotomy y y' with g | g | g
    · have := yb_mono (show y + 1 ≤ y' by omega); omega
    · exact g
    · have := yb_mono (show y' + 1 ≤ y by omega); omega
  subst ey
  have em : m = m' := by
    rcases Int.lt_trichotomy m m' with g | g | g
    · have := mb_lt y h.m1 (show m' ≤ 13 by have := h'.m2; omega) g; omega
    · exact g
    · have := mb_lt y h'.m1 (show m ≤ 13 by have := h.m2; omega) g; omega
  subst em
  exact ⟨rfl, rfl, by omega⟩
theorem day_num {y m d : Int} (h : Day y m d) : -25932 ≤ mb y m + d - 1 ∧ mb y m + d - 1 < 47847 := by
  have a := mb_in y h.m1 h.m2
  have b := yb_mono h.y1
  have c := yb_mono (show y + 1 ≤ 2101 by have := h.y2; omega)
  rw [yb_1899] at b; rw [yb_2101] at c
  have h1 := h.d1; have h2 := h.d2
  omega

/-- A number that is picked. -/
def pk (n k : Int) : Int := if n < 0 then (-(n + 1)) % k else n % k
theorem pk_lo (n : Int) {k : Int} (h : 0 < k) : 0 ≤ pk n k := by
  unfold pk; split
  · exact Int.emod_nonneg _ (by omega)
  · exact Int.emod_nonneg _ (by omega)
theorem pk_hi (n : Int) {k : Int} (h : 0 < k) : pk n k < k := by
  unfold pk; split
  · exact Int.emod_lt_of_pos _ h
  · exact Int.emod_lt_of_pos _ h
theorem pk_neg {n k : Int} (h : n < 0) : -(n + 1).tmod k = pk n k := by
  unfold pk; rw [if_pos h, ← Int.neg_tmod, tmod_pos (by omega)]
theorem pk_pos {n k : Int} (h : 0 ≤ n) : n % k = pk n k := by
  unfold pk; rw [if_neg (by omega)]

/-- The last day of a weekday that is not behind day n; the first one that is not ahead. -/
def nb (n w : Int) : Int := n - (wdy n - w) % 7
def na (n w : Int) : Int := n + (w - wdy n) % 7
/-- P1.5: the day that is found. -/
def fnd (y m k w n : Int) : Int :=
  if k = 1 then mb y m + n - 1 else if k = 2 then nb (mb y m + dim y m - 1) w else if k = 3 then na (mb y m + n - 1) w else nb (mb y m + n - 1) w
def findE (y m k d n : Int) : Int :=
  if dayF k d n ≠ 0 then dayF k d n else if (1899 ≤ y ∧ y ≤ 2100 ∧ 1 ≤ m ∧ m ≤ 12) ∧ n ≤ dim y m then 0 else 2
def findV (y m k d n : Int) : Int := if findE y m k d n = 0 then fnd y m k d n else 0
theorem dayF_zero {k d n : Int} (h : dayF k d n = 0) : (k = 1 ∧ d = 0 ∧ 1 ≤ n ∧ n ≤ 31) ∨ (k = 2 ∧ 0 ≤ d ∧ d ≤ 6 ∧ n = 0) ∨ (k = 3 ∧ 0 ≤ d ∧ d ≤ 6 ∧ 1 ≤ n ∧ n ≤ 31) ∨ (k = 4 ∧ 0 ≤ d ∧ d ≤ 6 ∧ 1 ≤ n ∧ n ≤ 31) := by
  unfold dayF at h
  split at h
  · split at h
    · omega
    · omega
  · split at h
    · split at h
      · omega
      · omega
    · split at h
      · split at h
        · omega
        · omega
      · omega
theorem findE_day {y m k d n : Int} (h : dayF k d n ≠ 0) : findE y m k d n = dayF k d n ∧ findV y m k d n = 0 := by
  have e : findE y m k d n = dayF k d n := by unfold findE; rw [if_pos h]
  exact ⟨e, by unfold findV; rw [e, if_neg h]⟩
theorem findE_no {y m k d n : Int} (h : dayF k d n = 0) (h' : ¬ ((1899 ≤ y ∧ y ≤ 2100 ∧ 1 ≤ m ∧ m ≤ 12) ∧ n ≤ dim y m)) : findE y m k d n = 2 ∧ findV y m k d n = 0 := by
  have e : findE y m k d n = 2 := by unfold findE; rw [if_neg (by omega), if_neg h']
  exact ⟨e, by unfold findV; rw [e]; rfl⟩
theorem findE_yes {y m k d n : Int} (h : dayF k d n = 0) (h' : (1899 ≤ y ∧ y ≤ 2100 ∧ 1 ≤ m ∧ m ≤ 12) ∧ n ≤ dim y m) : findE y m k d n = 0 ∧ findV y m k d n = fnd y m k d n := by
  have e : findE y m k d n = 0 := by unfold findE; rw [if_neg (by omega), if_pos h']
  exact ⟨e, by unfold findV; rw [e, if_pos rfl]⟩
theorem nb_bd (n d : Int) : n - 6 ≤ nb n d ∧ nb n d ≤ n := by unfold nb; omega
theorem na_bd (n d : Int) : n ≤ na n d ∧ na n d ≤ n + 6 := by unfold na; omega
theorem nb_at {n d x : Int} (h0 : 0 ≤ d) (h6 : d ≤ 6) (h1 : nb n d ≤ x) (h2 : x ≤ n) : wdy x = d ↔ x = nb n d := by
  unfold nb at *; unfold wdy at *; omega
theorem na_at {n d x : Int} (h0 : 0 ≤ d) (h6 : d ≤ 6) (h1 : n ≤ x) (h2 : x ≤ na n d) : wdy x = d ↔ x = na n d := by
  unfold na at *; unfold wdy at *; omega
theorem fnd_bd {y : Int} (m k d : Int) {n : Int} (h : 1 ≤ y) (h' : y ≤ 10000) (hn : 0 ≤ n) (hn' : n ≤ 31) : -900000 ≤ fnd y m k d n ∧ fnd y m k d n ≤ 4100000 := by
  have a := mb_bd m h h'
  have b := dim_lo y m
  have c := dim_hi y m
  have e := nb_bd (mb y m + dim y m - 1) d
  have f := na_bd (mb y m + n - 1) d
  have g := nb_bd (mb y m + n - 1) d
  unfold fnd
  split
  · omega
  · split
    · omega
    · split <;> omega
theorem findV_bd (y m k d n : Int) : -900000 ≤ findV y m k d n ∧ findV y m k d n ≤ 4100000 := by
  by_cases h : dayF k d n = 0
  · by_cases h' : (1899 ≤ y ∧ y ≤ 2100 ∧ 1 ≤ m ∧ m ≤ 12) ∧ n ≤ dim y m
    · rw [(findE_yes h h').2]
      have z := dayF_zero h
      exact fnd_bd m k d (by omega) (by omega) (by omega) (by omega)
    · rw [(findE_no h h').2]; omega
  · rw [(findE_day h).2]; omega

/-- P1.6: Instant. -/
def instE (y mo k d n ti cl off sv : Int) : Int :=
  if momF mo k d n ti cl ≠ 0 then momF mo k d n ti cl else if (-86400 ≤ off ∧ off ≤ 86400) ∧ (-86400 ≤ sv ∧ sv ≤ 86400) then findE y mo k d n else 2
def instV (y mo k d n ti cl off sv : Int) : Int :=
  if instE y mo k d n ti cl off sv = 0 then (if cl = 0 then 86400 * findV y mo k d n + ti - off - sv else if cl = 1 then 86400 * findV y mo k d n + ti - off else 86400 * findV y mo k d n + ti) else 0
theorem momF_zero {mo k d n ti cl : Int} (h : momF mo k d n ti cl = 0) : dayF k d n = 0 ∧ (cl = 0 ∨ cl = 1 ∨ cl = 2) ∧ 1 ≤ mo ∧ mo ≤ 12 ∧ 0 ≤ ti ∧ ti ≤ 604800 := by
  unfold momF at h
  split at h
  · omega
  · split at h
    · split at h
      · omega
      · omega
    · omega
theorem instE_mom {y mo k d n ti cl off sv : Int} (h : momF mo k d n ti cl ≠ 0) : instE y mo k d n ti cl off sv = momF mo k d n ti cl ∧ instV y mo k d n ti cl off sv = 0 := by
  have e : instE y mo k d n ti cl off sv = momF mo k d n ti cl := by unfold instE; rw [if_pos h]
  exact ⟨e, by unfold instV; rw [e, if_neg h]⟩
theorem instE_off {y mo k d n ti cl off sv : Int} (h : momF mo k d n ti cl = 0) (h' : ¬ ((-86400 ≤ off ∧ off ≤ 86400) ∧ (-86400 ≤ sv ∧ sv ≤ 86400))) : instE y mo k d n ti cl off sv = 2 ∧ instV y mo k d n ti cl off sv = 0 := by
  have e : instE y mo k d n ti cl off sv = 2 := by unfold instE; rw [if_neg (by omega), if_neg h']
  exact ⟨e, by unfold instV; rw [e]; rfl⟩
theorem instE_find {y mo k d n ti cl off sv : Int} (h : momF mo k d n ti cl = 0) (h' : (-86400 ≤ off ∧ off ≤ 86400) ∧ (-86400 ≤ sv ∧ sv ≤ 86400)) : instE y mo k d n ti cl off sv = findE y mo k d n := by
  unfold instE; rw [if_neg (by omega), if_pos h']
theorem instV_no {y mo k d n ti cl off sv : Int} (h : instE y mo k d n ti cl off sv ≠ 0) : instV y mo k d n ti cl off sv = 0 := by
  unfold instV; rw [if_neg h]
theorem instV_yes {y mo k d n ti cl off sv : Int} (h : instE y mo k d n ti cl off sv = 0) :
    instV y mo k d n ti cl off sv = if cl = 0 then 86400 * findV y mo k d n + ti - off - sv else if cl = 1 then 86400 * findV y mo k d n + ti - off else 86400 * findV y mo k d n + ti := by
  unfold instV; rw [if_pos h]
end Cal

open Go.RowKit
theorem Grown_trans {a b c : World} (h : Grown a b) (k : Grown b c) : Grown a c :=
  ⟨World.keptBut_trans h.1 k.1, fun x => (k.2.1 x).trans (h.2.1 x), Nat.le_trans h.2.2 k.2.2⟩
theorem Grown_block {W w1 : World} (h : Grown W w1) (b : Nat) (hb : b < W.heap.size) : w1.heap[b]? = W.heap[b]? := by
  have k := h.1.2.2 b hb
  split at k
  · rename_i c t fr c' t' fr' e1 e2
    obtain ⟨rfl, rfl, hs, hj⟩ := k
    rw [e1, e2]
    have e : c' = c := by apply Array.ext_getElem?; intro j; exact hj j (fun f => f)
    rw [e]
  · rename_i es cl es' cl' e1 e2
    rcases k with k | ⟨rfl, rfl⟩
    · exact k.elim
    · rw [e1, e2]
  · exact k
theorem Grown_cell {W w1 : World} (h : Grown W w1) (b : Nat) (o : Nat) (hb : b < W.heap.size) : w1.cell? ⟨b, o, none⟩ = W.cell? ⟨b, o, none⟩ :=
  World.cell?_of_block (w := W) (Grown_block h b hb)
theorem gcell {W w1 : World} (h : Grown W w1) : (∀ b o, b < W.heap.size → w1.cell? ⟨b, o, none⟩ = W.cell? ⟨b, o, none⟩) ∧ ∀ b, b < W.heap.size → b < w1.heap.size :=
  ⟨fun b o hb => Grown_cell h b o hb, fun _ hb => Nat.lt_of_lt_of_le hb h.2.2⟩
theorem ret2_int {k j : IntKind} {a b a' b' : Int} (h : a = a') (h' : b = b') : Ending.returned (.tuple #[.int k a, .int j b]) = .returned (.tuple #[.int k a', .int j b']) := by rw [h, h']
theorem ret_int {k : IntKind} {a b : Int} (h : a = b) : Ending.returned (.int k a) = .returned (.int k b) := by rw [h]
theorem int_eq {k : IntKind} {a b : Int} (h : a = b) : Value.int k a = .int k b := by rw [h]
theorem ret_bool {a b : Bool} (h : a = b) : Ending.returned (.bool a) = .returned (.bool b) := by rw [h]
end Go.Proofs.YtcpmbjlhblkniaaDoor
