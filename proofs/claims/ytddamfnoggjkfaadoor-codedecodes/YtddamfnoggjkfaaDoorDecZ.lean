/- Contracts: numbers, an instruction, an answer (P5.6), by the program. -/
import Derived.Test.YtddamfnoggjkfaaDoorDecY
import Derived.Test.YtddamfnoggjkfaaDoorEncP
namespace Go.Proofs.YtddamfnoggjkfaaDoor
open Go.ChangeShapes Go.WideShapes Go.ChangeAt Go.RowKit
set_option linter.unusedVariables false
theorem Tryd.infoIntD : ∃ i, Tryd.prog.info? 3 = some i ∧ i.zero = some (.int .i64 0) ∧ i.size = 1 ∧ i.bytes = 8 :=
  ⟨_, rfl, by kernel_rfl, by kernel_rfl, by kernel_rfl⟩
theorem owns_bg {w w' : World} {rb base : Nat} {e : TypeId} {size : Nat} {v : Value} {n : Nat} {xs : List Value} (h : w.ownsRow base e size v n xs) (hb : rb < base) (hg : Bg rb w w') : w'.ownsRow base e size v n xs :=
  owns_same h fun g hv => by
    have := owns_lt h hv
    exact hg.block g this.2 (by omega)
theorem Bg.gr0 {b : Nat} {w w' w2 : World} (h : Bg b w w') (hg : Gr w' w2) : Bg b w w2 := h.trans (Bg.ofGr hg)
theorem Bg.by_ {b : Nat} {w w1 w2 : World} {row : Option Nat} (h : Bg b w w1) (hg : w1.grownBy w2 row) (hr : ∀ k, row = some k → w.heap.size ≤ k) : Bg b w w2 :=
  ⟨hg.os.trans h.os, hg.output.trans h.out, Nat.le_trans h.size hg.size, fun x hx hb => (hg.block x (Nat.lt_of_lt_of_le hx h.size) (fun e => by have := hr x e.symm; omega)).trans (h.block x hx hb)⟩
theorem IntsAt.bg {w w' : World} {rb n : Nat} {a : Option Addr} {zs : List Int} (h : IntsAt w a zs) (hn : NewAt n a) (hb : rb < n) (hg : Bg rb w w') : IntsAt w' a zs :=
  ⟨h.len, fun i z hz => by
    obtain ⟨b, o, e, hbb, hc⟩ := h.cell i z hz
    have := hn.le b o _ e
    exact ⟨b, o, e, Nat.lt_of_lt_of_le hbb hg.size, (World.cell?_of_block (w := w) (a := ⟨b, o + i, none⟩) (hg.block b hbb (by omega))).trans hc⟩⟩
theorem Rd.bgr {q : Prop} {W w w2 : World} {rb : Nat} {l : List Int} {e : Int} {row : Option Nat} (h : Rd q W w rb l e) (hg : w.grownBy w2 row) (hr : ∀ k, row = some k → rb < k) : Rd q W w2 rb l e := by
  obtain ⟨a, cap, h1, h2⟩ := h.ex
  have hlt := h.lt
  have ho := h.old
  exact ⟨h.gr.by_ hg (fun k hk => by have := hr k hk; omega), ho, h.byt, a, cap, (hg.block rb hlt (fun e => by have := hr rb e.symm; omega)).trans h1, h2⟩
theorem owns_formK {w : World} {base : Nat} {e : TypeId} {size : Nat} {v : Value} {n : Nat} {xs : List Value} (h : w.ownsRow base e size v n xs) : ∃ a cap, v = .slice a n cap := by
  rcases h.2 with ⟨rfl, rfl⟩ | ⟨g, cap, cur, rfl, _⟩
  · exact ⟨none, 0, rfl⟩
  · exact ⟨_, _, rfl⟩
theorem ints_appD (a b : List Int) : ints (a ++ b) = ints a ++ ints b := by simp [ints]
theorem Dec.count_bd {most : Int} (h : 0 ≤ most) {l : List Int} {e : Int} : 0 ≤ (Dec.count most l e).1 ∧ (Dec.count most l e).1 ≤ most := by
  unfold Dec.count
  split
  · exact ⟨by simp, by simpa using h⟩
  · omega
structure IntsPost (W w : World) (rb : Nat) (R : List Int × List Int × Int) (en : Ending) (w' : World) : Prop where
  ex : ∃ a cap, en = .returned (.slice a R.1.length cap) ∧ R.1.length ≤ cap ∧ w'.ownsRow w.heap.size 3 1 (.slice a R.1.length cap) R.1.length (ints R.1)
  wf : ∀ z ∈ R.1, (Lit.int .i64 z).wf = true
  rd : Rd True W w' rb R.2.1 R.2.2
  bg : Bg rb w w'
set_option maxHeartbeats 1600000 in
theorem numbers_any (most : Int) (W w : World) (rb : Nat) (l : List Int) (e : Int) (hR : Rd True W w rb l e) (hm0 : 0 ≤ most) (hm : most ≤ 10000) :
    Calls Tryd.prog 36 #[.pointer (some ⟨rb, 0, none⟩), .int .i64 most] w (IntsPost W w rb (Dec.numbers most l e)) := by
  have HN : Hid _ := fun (_ : Unit) => count_any most W w rb l e hR
  obtain ⟨i0, hi, hi1, hi2, hi3⟩ := Tryd.infoIntD
  have hrb := hR.lt
  have hcb := Dec.count_bd hm0 (l := l) (e := e)
  unfold Dec.numbers
  obtain ⟨⟨n, l1, e1⟩, hNN⟩ : ∃ N, N = Dec.count most l e := ⟨_, rfl⟩
  rw [← hNN] at HN hcb ⊢
  simp only at hcb ⊢
  clear hNN hR
  obtain ⟨m, rfl⟩ : ∃ m : Nat, n = m := ⟨n.toNat, by omega⟩
  simp only [Int.toNat_natCast]
  go_enter Tryd.func36, Tryd.ntmps36
  go_wp2_with (go_at_call 34; refine (HN.out ()).mono ?_; rintro en w1 ⟨rfl, hR2, hB2⟩)
  have A0 : Hid _ := And.intro hR2 hB2
  clear hR2 hB2
  go_loopw [5, 9] (fun v i wr => ∃ k : Nat, k ≤ m ∧ i = .int .i64 k ∧ Rd True W wr rb (Dec.times Dec.number k l1 e1).2.1 (Dec.times Dec.number k l1 e1).2.2 ∧ Bg rb w wr ∧ wr.ownsRow w.heap.size 3 1 v k (ints (Dec.times Dec.number k l1 e1).1) ∧ ∀ z ∈ (Dec.times Dec.number k l1 e1).1, (Lit.int .i64 z).wf = true) (fun _ i _ => m - (intOf i).toNat)
  case atStart => exact ⟨0, Nat.zero_le _, rfl, A0.out.1, A0.out.2, ⟨by simp [ints, Dec.times], Or.inl ⟨rfl, rfl⟩⟩, fun z hz => by cases hz⟩
  case round =>
    obtain ⟨k, hk, rfl, hRk, hBk, hok, hwk⟩ := hrel
    obtain ⟨va, vcap, hv⟩ := owns_formK hok
    subst hv
    have HK : Hid _ := And.intro hRk (And.intro hBk (And.intro hok hwk))
    have hsz := hBk.size
    have HT : Hid _ := Dec.times_snoc Dec.number k l1 e1
    have HL : Hid _ := Dec.times_len Dec.number k l1 e1
    clear hRk hBk hok hwk A0
    by_cases hlt : k < m
    · have HNU : Hid _ := fun (_ : Unit) => number_any W _ rb _ _ HK.out.1
      have HWN : Hid _ := Dec.number_wf (e := (Dec.times Dec.number k l1 e1).2.2) HK.out.1.byt
      obtain ⟨Tk, hTk⟩ : ∃ T, T = Dec.times Dec.number k l1 e1 := ⟨_, rfl⟩
      rw [← hTk] at HK HT HL HNU HWN
      clear hTk
      obtain ⟨Nk, hNk⟩ : ∃ N, N = Dec.number Tk.2.1 Tk.2.2 := ⟨_, rfl⟩
      rw [← hNk] at HT HNU HWN
      clear hNk
      obtain ⟨z, l2, e2⟩ := Nk
      go_wp2_with (first | (go_at_call 45; refine (HNU.out ()).mono ?_; rintro en w2 ⟨rfl, hR3, hB3⟩) | (at_builtin; (refine wpList_append_lies _ rfl _ _ _ rfl w.heap.size 3 i0 _ 1 8 Tryd.underlying23 hi hi1 hi2 hi3 rfl (by decide) _ k (ints Tk.1) (by rfl) (owns_gr (owns_bg HK.out.2.2.1 hrb hB3) (by exact (Gr.refl _).alloc _)) ⟨_, 0, none⟩ 1 1 [.int .i64 z] (by rfl) (by rfl) (World.news_of_block (cs := #[.int .i64 z]) (heapA _ _)) (by simp [Value.oneCell']) (by omega) (by unfold maxLen; omega) (by omega) (by have := hB3.size; simp; omega) _ rfl ?_)))
      intro g cap' w3 hown3 hgrow hat hlt3
      have hrow : ∀ x, (Value.slice va k vcap).ownBlock = some x → w.heap.size ≤ x := fun x hx => (owns_lt HK.out.2.2.1 hx).1
      have Hend : Hid _ := And.intro ((hR3.bg ((Gr.refl _).alloc _)).bgr hgrow (fun x hx => by have := hrow x hx; omega)) (And.intro (((HK.out.2.1.trans hB3).gr0 ((Gr.refl _).alloc _)).by_ hgrow hrow) hown3)
      clear hown3 hgrow hat hrow
      go_wp2
      go_roundw
      case rel =>
        refine ⟨k + 1, by omega, by go_num, ?_⟩
        rw [HT.out]
        refine ⟨Hend.out.1, Hend.out.2.1, by rw [ints_appD]; exact Hend.out.2.2, fun z' hz' => ?_⟩
        rcases List.mem_append.1 hz' with h | h
        · exact HK.out.2.2.2 z' h
        · rw [List.mem_singleton.1 h]; exact HWN.out
      case measure => simp [intOf]; omega
    · have hk' : k = m := by omega
      subst hk'
      go_wp2
      go_ret
      refine ⟨?_, HK.out.2.2.2, HK.out.1, HK.out.2.1⟩
      have ho := HK.out.2.2.1
      refine ⟨va, vcap, by rw [HL.out]; rfl, ?_, by rw [HL.out]; exact ho⟩
      rw [HL.out]
      rcases ho.2 with ⟨hv, hn⟩ | ⟨g, cap, cur, hv, _, _, h1, _⟩
      · omega
      · simp only [Value.slice.injEq] at hv
        rw [hv.2.2]
        exact h1
end Go.Proofs.YtddamfnoggjkfaaDoor
