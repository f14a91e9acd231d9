/- Contracts: bytes that are read one behind the other (P5.6), by the program. -/
import Derived.Test.YtddamfnoggjkfaaDoorDecM
import Derived.Test.YtddamfnoggjkfaaDoorEncS
import Derived.Laws.BitsAllLaws
import Derived.Laws.Bits128
import Derived.Laws.Bits64b
namespace Go.Proofs.YtddamfnoggjkfaaDoor
open Go.ChangeShapes Go.WideShapes Go.ChangeAt Go.RowKit
set_option linter.unusedVariables false
/-- A slice of bytes, and what it holds. -/
structure BysAt (w : World) (a : Option Addr) (l : List Int) : Prop where
  len : l.length ≤ maxLen
  cell : ∀ (i : Nat) z, l[i]? = some z → ∃ b o, a = some ⟨b, o, none⟩ ∧ b < w.heap.size ∧ w.cell? ⟨b, o + i, none⟩ = some (.int .u8 z)
theorem BysAt.gr {w w' : World} {a : Option Addr} {l : List Int} (h : BysAt w a l) (hg : Gr w w') : BysAt w' a l :=
  ⟨h.len, fun i z hz => by
    obtain ⟨b, o, e, hb, hc⟩ := h.cell i z hz
    exact ⟨b, o, e, Nat.lt_of_lt_of_le hb hg.size, (hg.cell b _ hb).trans hc⟩⟩
theorem BysAt.take {w : World} {a : Option Addr} {l : List Int} (h : BysAt w a l) (n : Nat) : BysAt w a (l.take n) :=
  ⟨Nat.le_trans (List.length_take_le' n l) h.len, fun i z hz => h.cell i z (by
    rw [List.getElem?_take] at hz
    split at hz
    · exact hz
    · cases hz)⟩
theorem BysAt.drop {w : World} {b o : Nat} {l : List Int} (h : BysAt w (some ⟨b, o, none⟩) l) (n : Nat) : BysAt w (some ⟨b, o + n, none⟩) (l.drop n) :=
  ⟨by rw [List.length_drop]; have := h.len; omega, fun i z hz => by
    rw [List.getElem?_drop] at hz
    obtain ⟨b', o', e, hb, hc⟩ := h.cell (n + i) z hz
    cases e
    exact ⟨b, o + n, rfl, hb, by rw [Nat.add_assoc]; exact hc⟩⟩
/-- A reader of bytes: those that are left, and what is wrong. -/
structure Rd (q : Prop) (W w : World) (rb : Nat) (l : List Int) (e : Int) : Prop where
  gr : Gr W w
  old : W.heap.size ≤ rb
  byt : ∀ z ∈ l, 0 ≤ z ∧ z ≤ 255
  ex : ∃ a cap, w.heap[rb]? = some (.cells #[.slice a l.length cap, .int .i64 e] 51) ∧ l.length ≤ cap ∧ cap ≤ 9223372036854775807 ∧ BysAt W a l ∧ (q → e = 0 → ∃ b o, a = some ⟨b, o, none⟩)
theorem Rd.lt {q : Prop} {W w : World} {rb : Nat} {l : List Int} {e : Int} (h : Rd q W w rb l e) : rb < w.heap.size := by
  obtain ⟨a, cap, h1, _⟩ := h.ex
  exact (Array.getElem?_eq_some_iff.1 h1).1
theorem Rd.bg {q : Prop} {W w w' : World} {rb : Nat} {l : List Int} {e : Int} (h : Rd q W w rb l e) (hg : Gr w w') : Rd q W w' rb l e := by
  obtain ⟨a, cap, h1, h2⟩ := h.ex
  exact ⟨h.gr.trans hg, h.old, h.byt, a, cap, (hg.block rb h.lt).trans h1, h2⟩
theorem Rd.weak {q : Prop} {W w : World} {rb : Nat} {l : List Int} {e : Int} (h : Rd True W w rb l e) : Rd q W w rb l e := by
  obtain ⟨a, cap, h1, h2, h3, h4, h5⟩ := h.ex
  exact ⟨h.gr, h.old, h.byt, a, cap, h1, h2, h3, h4, fun _ he => h5 trivial he⟩
/-- Behind a store of what is wrong. -/
theorem Rd.wrong {q : Prop} {W w : World} {rb : Nat} {l : List Int} {e x : Int} (h : Rd q W w rb l e) (hx : x ≠ 0) : Rd True W (w.setCell ⟨rb, 1, none⟩ (.int .i64 x)) rb l x := by
  obtain ⟨a, cap, h1, h2, h3, h4, h5⟩ := h.ex
  refine ⟨h.gr.setCell h.old _, h.old, h.byt, a, cap, ?_, h2, h3, h4, fun _ he => absurd he hx⟩
  have := heap_setCell_same w rb 1 _ _ (.int .i64 x) h1
  simpa using this
structure FailPost (q : Prop) (W w : World) (rb : Nat) (l : List Int) (e x : Int) (en : Ending) (w' : World) : Prop where
  en : en = .returned (.tuple #[])
  rd : Rd q W w' rb l (Dec.fail e x)
  bg : Bg rb w w'
set_option maxHeartbeats 800000 in
theorem fail_any (q : Prop) (W w : World) (rb : Nat) (l : List Int) (e x : Int) (hR : Rd q W w rb l e) (hx : x ≠ 0) :
    Calls Tryd.prog 33 #[.pointer (some ⟨rb, 0, none⟩), .int .i64 x] w (FailPost q W w rb l e x) := by
  have hlt := hR.lt
  by_cases h0 : e = 0
  · subst h0
    have HR : Hid _ := (hR.wrong hx).weak (q := q)
    obtain ⟨a, cap, h1, h2, h3, h4, h5⟩ := hR.ex
    obtain ⟨c1, f1⟩ := row_all h1
    clear hR h1
    go_enter Tryd.func33, Tryd.ntmps33
    go_wp2
    go_end0
    exact ⟨rfl, HR.out, (Bg.ofGr (Gr.refl w)).setCell _ _⟩
  · have HR : Hid _ := hR
    have g : (e == 0) = false := by simpa using h0
    have hf := Dec.fail_e h0 x
    obtain ⟨a, cap, h1, h2, h3, h4, h5⟩ := hR.ex
    obtain ⟨c1, f1⟩ := row_all h1
    clear hR h1
    go_enter Tryd.func33, Tryd.ntmps33
    go_wp2
    go_end0
    exact ⟨rfl, by rw [hf]; exact HR.out, Bg.ofGr (Gr.refl w)⟩
theorem rd_true {q : Prop} {W w : World} {rb : Nat} {l : List Int} {e : Int} (h : Rd q W w rb l e) (h0 : e ≠ 0) : Rd True W w rb l e := by
  obtain ⟨a, cap, h1, h2, h3, h4, h5⟩ := h.ex
  exact ⟨h.gr, h.old, h.byt, a, cap, h1, h2, h3, h4, fun _ he => absurd he h0⟩
theorem fail_true {q : Prop} {W w : World} {rb : Nat} {l : List Int} (h : Rd q W w rb l (Dec.fail 0 5)) : Rd True W w rb l 5 := rd_true (e := 5) h (by decide)
theorem fun_fail5 (q : Prop) (W w : World) (rb : Nat) (l : List Int) (e : Int) (hR : Rd q W w rb l e) : Calls Tryd.prog 33 #[.pointer (some ⟨rb, 0, none⟩), .int .i64 5] w (FailPost q W w rb l e 5) := fail_any q W w rb l e 5 hR (by decide)
structure BysPost (W w : World) (rb : Nat) (R : List Int × List Int × Int) (en : Ending) (w' : World) : Prop where
  ex : ∃ a cap, en = .returned (.slice a R.1.length cap) ∧ BysAt W a R.1
  rd : Rd True W w' rb R.2.1 R.2.2
  bg : Bg rb w w'
theorem BysAt.nil (w : World) (a : Option Addr) : BysAt w a [] := ⟨Nat.zero_le _, fun i z hz => by simp at hz⟩
/-- Behind a store of what is left. -/
theorem Rd.rest {q : Prop} {W w : World} {rb b o n cap : Nat} {l : List Int} (h : Rd q W w rb l 0) (hb : w.heap[rb]? = some (.cells #[.slice (some ⟨b, o, none⟩) l.length cap, .int .i64 0] 51)) (hc : l.length ≤ cap) (hc2 : cap ≤ 9223372036854775807) (hB : BysAt W (some ⟨b, o, none⟩) l) (hn : n ≤ l.length) :
    Rd True W (w.setCell ⟨rb, 0, none⟩ (.slice (some ⟨b, o + n, none⟩) (l.length - n) (cap - n))) rb (l.drop n) 0 := by
  refine ⟨h.gr.setCell h.old _, h.old, fun z hz => h.byt z (List.mem_of_mem_drop hz), some ⟨b, o + n, none⟩, cap - n, ?_, by rw [List.length_drop]; omega, by omega, hB.drop n, fun _ _ => ⟨_, _, rfl⟩⟩
  have := heap_setCell_same w rb 0 _ _ (.slice (some ⟨b, o + n, none⟩) (l.length - n) (cap - n)) hb
  rw [List.length_drop]
  simpa using this
theorem Rd.rest0 {q : Prop} {W w : World} {rb b o n cap : Nat} {l : List Int} (h : Rd q W w rb l 0) (hb : w.heap[rb]? = some (.cells #[.slice (some ⟨b, o, none⟩) l.length cap, .int .i64 0] 51)) (hc : l.length ≤ cap) (hc2 : cap ≤ 9223372036854775807) (hB : BysAt W (some ⟨b, o, none⟩) l) (hn : n ≤ l.length) (hcn : cap = n) :
    Rd True W (w.setCell ⟨rb, 0, none⟩ (.slice (some ⟨b, o, none⟩) 0 0)) rb (l.drop n) 0 := by
  have e0 : l.drop n = [] := List.drop_of_length_le (by omega)
  rw [e0]
  refine ⟨h.gr.setCell h.old _, h.old, (fun z hz => by cases hz), some ⟨b, o, none⟩, 0, ?_, Nat.le_refl _, by omega, BysAt.nil _ _, fun _ _ => ⟨_, _, rfl⟩⟩
  have := heap_setCell_same w rb 0 _ _ (.slice (some ⟨b, o, none⟩) 0 0) hb
  simpa using this
set_option maxHeartbeats 1600000 in
theorem bytes_any (q : Prop) (n : Nat) (W w : World) (rb : Nat) (l : List Int) (e : Int) (hR : Rd q W w rb l e) (hz : 0 < n ∨ q) (hn : n ≤ 200000) :
    Calls Tryd.prog 32 #[.pointer (some ⟨rb, 0, none⟩), .int .i64 n] w (BysPost W w rb (Dec.bytes n l e)) := by
  have hlt := hR.lt
  have HF : Hid _ := fun (_ : Unit) => fun_fail5 q W w rb l e hR
  by_cases h0 : e = 0
  · subst h0
    by_cases hs : l.length < n
    · rw [Dec.bytes_short hs]
      have hs' : ((l.length : Nat) : Int) < ((n : Nat) : Int) := by omega
      obtain ⟨a, cap, h1, h2, h3, h4, h5⟩ := hR.ex
      obtain ⟨c1, f1⟩ := row_all h1
      clear hR h1 h5
      go_enter Tryd.func32, Tryd.ntmps32
      go_upto_region 3 with (go_at_call 33; refine (HF.out ()).mono ?_; rintro en w1 ⟨rfl, hR1, hB1⟩)
      obtain ⟨a', cap', k1, k2, k3, k4, k5⟩ := hR1.ex
      obtain ⟨c2, f2⟩ := row_all k1
      simp only [Dec.fail_0] at c2
      have HR1 : Hid _ := hR1
      clear hR1 k1 c1 f1 k5
      go_wp2
      go_ret
      exact ⟨⟨none, 0, rfl, BysAt.nil _ _⟩, fail_true HR1.out, hB1⟩
    · rw [Dec.bytes_ok hs]
      have hs' : ¬ ((l.length : Nat) : Int) < ((n : Nat) : Int) := by omega
      obtain ⟨a, cap, h1, h2, h3, h4, h5⟩ := hR.ex
      obtain ⟨b, o, rfl⟩ : ∃ b o, a = some ⟨b, o, none⟩ := by
        rcases hz with hz | hz
        · obtain ⟨z, hzl⟩ : ∃ z, l[0]? = some z := ⟨_, List.getElem?_eq_getElem (by omega)⟩
          obtain ⟨b, o, e, _⟩ := h4.cell 0 z hzl
          exact ⟨b, o, e⟩
        · exact h5 hz rfl
      obtain ⟨c1, f1⟩ := row_all h1
      have i1 : n ≤ l.length := by omega
      have i2 : n ≤ cap := by omega
      have i3 : (n : Int) ≤ (l.length : Int) := by omega
      have i4 : (n : Int) ≤ (cap : Int) := by omega
      have i5 : (l.length : Int) ≤ (cap : Int) := by omega
      have htl : (l.take n).length = n := by rw [List.length_take]; omega
      by_cases hcn : cap = n
      · have HE : Hid _ := And.intro (hR.rest0 h1 h2 h3 h4 (n := n) (by omega) hcn) (h4.take n)
        subst hcn
        clear hR h1 h5 HF
        go_enter Tryd.func32, Tryd.ntmps32
        go_wp2
        go_ret
        exact ⟨⟨some ⟨b, o, none⟩, cap, by rw [htl]; rfl, HE.out.2⟩, HE.out.1, (Bg.ofGr (Gr.refl w)).setCell _ _⟩
      · have HE : Hid _ := And.intro (hR.rest h1 h2 h3 h4 (n := n) (by omega)) (h4.take n)
        have i6 : ¬ cap - n = 0 := by omega
        clear hR h1 h5 HF
        go_enter Tryd.func32, Tryd.ntmps32
        go_wp2
        go_ret
        exact ⟨⟨some ⟨b, o, none⟩, cap, by rw [htl]; rfl, HE.out.2⟩, HE.out.1, (Bg.ofGr (Gr.refl w)).setCell _ _⟩
  · rw [Dec.bytes_e h0]
    have g : (e != 0) = true := by simpa using h0
    obtain ⟨a, cap, h1, h2, h3, h4, h5⟩ := hR.ex
    obtain ⟨c1, f1⟩ := row_all h1
    have HR0 : Hid _ := hR
    clear hR h1 h5
    by_cases hs : l.length < n
    · have hs' : ((l.length : Nat) : Int) < ((n : Nat) : Int) := by omega
      go_enter Tryd.func32, Tryd.ntmps32
      go_upto_region 3 with (go_at_call 33; refine (HF.out ()).mono ?_; rintro en w1 ⟨rfl, hR1, hB1⟩)
      rw [Dec.fail_e h0] at hR1
      obtain ⟨a', cap', k1, k2, k3, k4, k5⟩ := hR1.ex
      obtain ⟨c2, f2⟩ := row_all k1
      have HR1 : Hid _ := hR1
      clear hR1 k1 c1 f1 k5
      go_wp2
      go_ret
      exact ⟨⟨none, 0, rfl, BysAt.nil _ _⟩, rd_true HR1.out h0, hB1⟩
    · have hs' : ¬ ((l.length : Nat) : Int) < ((n : Nat) : Int) := by omega
      go_enter Tryd.func32, Tryd.ntmps32
      go_wp2
      go_ret
      exact ⟨⟨none, 0, rfl, BysAt.nil _ _⟩, rd_true HR0.out h0, Bg.ofGr (Gr.refl w)⟩
end Go.Proofs.YtddamfnoggjkfaaDoor
