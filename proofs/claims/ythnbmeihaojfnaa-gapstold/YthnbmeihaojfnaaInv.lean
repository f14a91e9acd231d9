/- Contract: Inverse: a tree of what clocks show. -/
import Derived.Test.YthnbmeihaojfnaaInvB
import Derived.Test.YthnbmeihaojfnaaInvC
import Derived.Test.YthnbmeihaojfnaaGro
import Derived.Test.YthnbmeihaojfnaaFiC
import Derived.Test.YthnbmeihaojfnaaSpnC
import Derived.Test.YthnbmeihaojfnaaCop
import Derived.Test.YthnbmeihaojfnaaFlat
import Derived.Test.YthnbmeihaojfnaaFstB
import Derived.Deep.DeepCutAuto
import Derived.Deep.CutBlock
namespace Go.Proofs.Ythnbmeihaojfnaa
open Go.ChangeShapes Go.WideShapes Go.ChangeAt Go.RowKit Go.Maps
set_option linter.unusedVariables false
set_option maxRecDepth 100000
theorem spans_pair {l : List Spn} (h : spnsF l = 0) : l.Pairwise (fun a b => a.frm < b.frm) := by
  rw [List.pairwise_iff_getElem]
  intro i j hi hj hij
  exact spans_sorted h (j - i - 1) i _ _ (List.getElem?_eq_getElem hi) (by rw [show i + (j - i - 1) + 1 = j by omega]; exact List.getElem?_eq_getElem hj)
theorem shows_mk (a : Option Addr) (n cap : Nat) (w : World) :
    Calls Try.prog 21 #[.slice a n cap] w fun e w' => e = .returned (.func (.func 38) #[] #[.pointer (some ⟨w.heap.size, 0, none⟩)]) ∧ w'.heap[w.heap.size]? = some (.cells #[.slice a n cap] 22) ∧ Gr w w' := by
  go_enter Try.func21, Try.ntmps21
  go_wp2
  go_ret
  exact ⟨rfl, heapA _ _, (Gr.refl _).alloc _⟩
/-- Blocks below a number stay, but a finder's map and list. -/
structure Fb (b2 M lb : Nat) (w w' : World) : Prop where
  os : w'.os = w.os
  out : w'.output = w.output
  size : w.heap.size ≤ w'.heap.size
  block : ∀ b, b < b2 → b ≠ M → b ≠ lb → w'.heap[b]? = w.heap[b]?
theorem Fb.refl (b2 M lb : Nat) (w : World) : Fb b2 M lb w w := ⟨rfl, rfl, Nat.le_refl _, fun _ _ _ _ => rfl⟩
theorem Fb.gr {b2 M lb : Nat} {w w1 w' : World} (h : Fb b2 M lb w w1) (g : Gr w1 w') (hb : b2 ≤ w1.heap.size) : Fb b2 M lb w w' :=
  ⟨g.os.trans h.os, g.out.trans h.out, Nat.le_trans h.size g.size, fun b h1 h2 h3 => (g.block b (by omega)).trans (h.block b h1 h2 h3)⟩
theorem Fb.fga {b2 M lb : Nat} {w w1 w' : World} (h : Fb b2 M lb w w1) (g : Fga b2 M lb w1 w') : Fb b2 M lb w w' :=
  ⟨g.os.trans h.os, g.out.trans h.out, Nat.le_trans h.size g.size, fun b h1 h2 h3 => (g.block b h1 h2 h3).trans (h.block b h1 h2 h3)⟩
theorem Fb.by_ {b2 M lb : Nat} {w w1 w' : World} {row : Option Nat} (h : Fb b2 M lb w w1) (g : w1.grownBy w' row) (hr : ∀ k, row = some k → b2 ≤ k) (hb : b2 ≤ w1.heap.size) : Fb b2 M lb w w' :=
  ⟨g.os.trans h.os, g.output.trans h.out, Nat.le_trans h.size g.size, fun b h1 h2 h3 => (g.block b (by omega) (fun e => by have := hr b e.symm; omega)).trans (h.block b h1 h2 h3)⟩
theorem Fb.toGr {b2 M lb : Nat} {w0 w w' : World} (h : Fb b2 M lb w w') (g : Gr w0 w) (h1 : w0.heap.size ≤ b2) (h2 : w0.heap.size ≤ M) (h3 : w0.heap.size ≤ lb) : Gr w0 w' :=
  ⟨h.os.trans g.os, h.out.trans g.out, Nat.le_trans g.size h.size, fun b hb => (h.block b (by omega) (by omega) (by omega)).trans (g.block b hb)⟩
theorem Fb.ints {b2 M lb : Nat} {w w' : World} {a : Option Addr} {zs : List Int} {v : Value} {t : TypeId} {es : Array MapEntry} {cl : Nat} (h : Fb b2 M lb w w') (hz : IntsAt w a zs) (hb2 : w.heap.size ≤ b2) (hM : w.heap[M]? = some (.map es cl)) (hl : w.heap[lb]? = some (.cells #[v] t)) (hv : ∀ n, v ≠ .int .i64 n) : IntsAt w' a zs :=
  ⟨hz.len, fun i z hi => by
    obtain ⟨b, o, e, hlt, hc⟩ := hz.cell i z hi
    have n1 : b ≠ M := fun e2 => by
      subst e2
      rw [show w.cell? ⟨b, o + i, none⟩ = none by simp [World.cell?, hM]] at hc
      cases hc
    have n2 : b ≠ lb := fun e2 => by
      subst e2
      rw [(row_all hl).1] at hc
      generalize o + i = k at hc
      cases k with
      | zero => exact hv z (by simpa using hc)
      | succ k => simp at hc
    exact ⟨b, o, e, Nat.lt_of_lt_of_le hlt h.size, (World.cell?_of_block (w := w) (a := ⟨b, o + i, none⟩) (h.block b (by omega) n1 n2)).trans hc⟩⟩
/-- What Inverse answers: the tree, or that there is too much of something. -/
structure InvPost (l : List Spn) (w w' : World) (e : Ending) : Prop where
  gr : Gr w w'
  tells : (∃ f : Fst, e = .returned (.tuple #[.agg f.cells.toArray, .int .i64 0]) ∧ FstOk w' f ∧ forF f = 0 ∧ ∀ t, ∃ y, f.answers[evalI f t]? = some y ∧ y.val = localV l t) ∨
    e = .returned (.tuple #[.agg #[.slice none 0 0, .slice none 0 0], .int .i64 1]) ∧ ((∃ n ∈ edges l, 6 < (offsR n l).length) ∨ 2000 < (edges l).length)
set_option maxHeartbeats 6400000 in
theorem inverse_any (a : Option Addr) (cap : Nat) (l : List Spn) (w : World) (hl : SpansAt w a l) (hc : l.length ≤ cap) (hc2 : cap ≤ 9223372036854775807) (h0 : spnsF l = 0) :
    Calls Try.prog 5 #[.slice a l.length cap] w fun e w' => InvPost l w w' e := by
  have HC : Hid _ := fun W (h : SpansAt W a l) => checkSpans_any a cap l W h
  simp only [h0] at HC
  have HF : Hid _ := fun W => finderA_any W
  obtain ⟨s0, s1, s2, s3⟩ := spans_good h0
  have hp := spans_pair h0
  have HSH : Hid _ := fun n lb W (h : SpansAt W a l) (hlb : W.heap[lb]? = some (.cells #[.slice a l.length cap] 22)) (n0 : -1099511627776 ≤ n) (n1 : n ≤ 1099511627776) => shows_any a cap l n lb W h hlb s0 s1 hc hc2 n0 n1 s2 hp
  have HED : Hid _ := fun W (h : SpansAt W a l) => edges_any a cap l W h s0 s1 s2
  have HSP : Hid _ := hl
  have HS2 : Hid _ := s2
  have l1 := hl.len
  unfold maxLen at l1
  clear hl hp s3
  go_enter Try.func5, Try.ntmps5
  go_wp2_with fail
  have gA : Gr w (w.alloc (Obj.cells #[.slice none 0 0, .slice none 0 0] 26)) := (Gr.refl _).alloc _
  refine (HC.out _ (HSP.out.gr gA)).mono ?_
  rintro e w1 ⟨rfl, hg1⟩
  have K1 : Hid _ := (hg1.block w.heap.size (by simp)).trans (heapA w _)
  have HG1 : Hid _ := gA.trans hg1
  have z1 : w.heap.size < w1.heap.size := by have := hg1.size; simp at this; omega
  clear hg1 gA
  go_wp2_with fail
  refine (HF.out _).mono ?_
  rintro e w2 ⟨kb, mb, lb, M, base, rfl, hFA, hkb, hlb, hM, hbase, hg2⟩
  have HFA : Hid _ := hFA
  have HG2 : Hid _ := hg2
  clear hFA hg2
  go_wp2_with fail
  refine (shows_mk a l.length cap w2).mono ?_
  rintro e w3 ⟨rfl, hlx, hg3⟩
  have HLX : Hid _ := hlx
  have HG3 : Hid _ := hg3
  clear hlx hg3
  go_wp2_with fail
  refine (HED.out _ (HSP.out.gr (HG1.out.trans (HG2.out.trans HG3.out)))).mono ?_
  rintro e w4 ⟨va, vcap, rfl, hzs, hg4⟩
  have HZS : Hid _ := hzs
  have HG4 : Hid _ := hg4
  clear hzs hg4
  obtain ⟨es, hes⟩ : ∃ es, edges l = es := ⟨_, rfl⟩
  rw [hes] at HZS ⊢
  have HES : Hid _ := hes
  clear hes
  have hEL := edges_law HS2.out
  rw [HES.out] at hEL
  have hnE : ∀ n ∈ es, -1099511627776 ≤ n ∧ n ≤ 1099511627776 := fun n hn => by
    rcases (hEL.1.mem n).1 hn with h | h
    · omega
    · have := edg_lo HS2.out n h; omega
  have hel : es.length ≤ 2001 := by omega
  have HEL : Hid _ := hEL
  have HNE : Hid _ := hnE
  have hG34 : Gr w2 w4 := HG3.out.trans HG4.out
  have hbM := HFA.out.M1
  have hbl := HFA.out.l1
  have z24 := hG34.size
  have z23 := HG3.out.size
  have z12 := HG2.out.size
  have hF4 : FinA w4 kb mb lb M w4.heap.size w1.heap.size (.slice none 0 0) [] (.map []) := (HFA.out.gr hG34).rebase (by omega) (Nat.le_refl _) (Nat.le_refl _)
  have HF4 : Hid _ := hF4
  have HLX4 : Hid _ := (HG4.out.block w2.heap.size (Array.getElem?_eq_some_iff.1 HLX.out).1).trans HLX.out
  have zlx : w2.heap.size < w4.heap.size := (Array.getElem?_eq_some_iff.1 HLX4.out).1
  have HG14 : Hid _ := HG2.out.trans hG34
  obtain ⟨i0, hi, hi1, hi2, hi3⟩ := (show ∃ i, Try.prog.info? 66 = some i ∧ i.zero = some (.agg #[.int .i64 0, .int .i64 0]) ∧ i.size = 2 ∧ i.bytes = 16 from ⟨_, rfl, by kernel_rfl, by kernel_rfl, by kernel_rfl⟩)
  clear hEL hnE hF4 hG34
  go_wp2_with fail
  go_loopw [8, 27] (fun v8 t wr => ∃ (k : Nat) (v : Value) (ns : List Ans) (D : DataW Unit) (qs : List (Int × Int)), k ≤ es.length ∧ t = .int .i64 k ∧ qs.length = k ∧ ns.length ≤ k ∧ wr.ownsRow w4.heap.size 66 2 v8 qs.length (partL qs) ∧ FinA wr kb mb lb M w4.heap.size w1.heap.size v ns D ∧ InvSay l (es.take k) ns qs ∧ Fb w4.heap.size M lb w4 wr) (fun _ t _ => es.length - (intOf t).toNat)
  case atStart => exact ⟨0, _, [], _, [], Nat.zero_le _, rfl, rfl, Nat.le_refl _, ⟨by simp [partL], Or.inl ⟨rfl, rfl⟩⟩, HF4.out, InvSay.start l, Fb.refl _ _ _ _⟩
  case round =>
    obtain ⟨k, v, ns, D, qs, hk, rfl, hqk, hnk, hown, hF, hS, hfb⟩ := hrel
    have HOWN : Hid _ := hown
    have HFR : Hid _ := hF
    have HS : Hid _ := hS
    have HFB : Hid _ := hfb
    have hgr : Gr w1 wr := hfb.toGr HG14.out (by omega) hM hlb
    have HGR : Hid _ := hgr
    obtain ⟨mes, mcl, hmap, _⟩ := HF4.out.map
    have hzr := hfb.ints HZS.out (Nat.le_refl _) hmap HF4.out.lbox (fun n e => by cases e)
    have HLR : Hid _ := (hfb.block w2.heap.size zlx (by omega) (by omega)).trans HLX4.out
    have hqk' := hqk
    clear hown hF hS hfb hgr hmap hqk
    by_cases hlt : k < es.length
    · obtain ⟨n, hn⟩ : ∃ n, es[k]? = some n := ⟨_, List.getElem?_eq_getElem hlt⟩
      obtain ⟨b, o, e, hb, hcn⟩ := hzr.cell k n hn
      subst e
      have hnm := List.mem_of_getElem? hn
      have HN : Hid _ := hn
      have i1 : (k : Int) < (es.length : Int) := by omega
      clear hn hzr
      go_wp2_with fail
      refine (HSH.out n w2.heap.size wr (HSP.out.gr (HG1.out.trans HGR.out)) HLR.out (HNE.out n hnm).1 (HNE.out n hnm).2).mono ?_
      rintro e w5 ⟨x, rfl, hxok, hxv, hg5, hxr⟩
      have HXK : Hid _ := hxok
      have HXV : Hid _ := hxv
      have HXR : Hid _ := hxr
      have HG5 : Hid _ := hg5
      obtain ⟨xo, xs, xn, xa, xc, xz, xj⟩ := x
      clear hxok hxv hg5 hxr hcn
      simp only [Ans.cells]
      by_cases h6 : 6 < xz.length
      · have b6 : decide ((6 : Int) < (xz.length : Int)) = true := by rw [decide_eq_true_iff]; omega
        have kr := (HG5.out.block _ (Nat.lt_of_lt_of_le z1 HGR.out.size)).trans ((HGR.out.block _ z1).trans K1.out)
        have cr := (row_all kr).1
        have fr := (row_all kr).2
        have zr5 : w.heap.size < w5.heap.size := (Array.getElem?_eq_some_iff.1 kr).1
        go_wp2_with fail
        refine bodyPost_ret (v := .tuple #[.agg #[.slice none 0 0, .slice none 0 0], .int .i64 1]) (by simp [results, Try.results5, go_sem, cr, zr5]) rfl ⟨?_, Or.inr ⟨rfl, Or.inl ⟨n, by rw [HES.out]; exact hnm, ?_⟩⟩⟩
        · repeat (with_reducible first | exact HG1.out.trans (HGR.out.trans HG5.out) | refine Gr.setCell ?_ (by simp) _ | refine Gr.alloc ?_ _)
        · have hv := HXV.out
          simp only [Ans.val, localV, Prod.mk.injEq] at hv
          rw [← hv.2.2.2.1]; exact h6
      · have b6 : decide ((6 : Int) < (xz.length : Int)) = false := by rw [decide_eq_false_iff_not]; omega
        have b6n : ¬ (6 : Int) < (xz.length : Int) := by omega
        have b6l : xz.length ≤ 6 := by omega
        have hfar5 : Far w5 w1.heap.size ⟨xo, xs, xn, xa, xc, xz, xj⟩ := ⟨fun hne b o sp e => by
          obtain ⟨b', e', cs, hcs⟩ := HXR.out hne
          simp only at e e'
          rw [e'] at e
          cases e
          exact Or.inr ⟨cs, hcs⟩⟩
        have HFAR : Hid _ := hfar5
        have hofl : (offsR n l).length ≤ 6 := by
          have hv := HXV.out
          simp only [Ans.val, localV, Prod.mk.injEq] at hv
          rw [← hv.2.2.2.1]; exact b6l
        have HOFL : Hid _ := hofl
        have HPL : Hid _ := fun W (hg : Gr w5 W) => placeA_any kb mb lb M w4.heap.size w1.heap.size v ns D ⟨xo, xs, xn, xa, xc, xz, xj⟩ W (HFR.out.gr (HG5.out.trans hg)) (HXK.out.gr hg) b6l (hfar5.gr hg) (by omega)
        simp only [Ans.cells] at HPL
        have htk : es.take (k + 1) = es.take k ++ [n] := by rw [List.take_add_one, HN.out]; rfl
        have HTK : Hid _ := htk
        have zW5 : w4.heap.size ≤ w5.heap.size := Nat.le_trans HFR.out.size HG5.out.size
        have hq9 : qs.length ≤ 3000 := by omega
        clear hfar5 hofl htk
        go_wp2_with (first
          | (go_at_call 36; refine (HPL.out _ ((Gr.refl _).alloc _)).mono ?_; rintro e w6 ⟨i6, v6, n6, D6, rfl, ⟨y6, hy6, hyv6⟩, hor6, hF6, hg6⟩
             have how5 := owns_gr HOWN.out (HG5.out.trans ((Gr.refl w5).alloc (Obj.cells #[.int .i64 xo, .bool xs, .string xn, .slice xa xz.length xc, .int .i64 xj] 39)))
             have how6 : w6.ownsRow w4.heap.size 66 2 _ qs.length (partL qs) := owns_same how5 fun x hx => by
               obtain ⟨cur, hr⟩ := owns_typed how5 hx
               rw [hr]; exact hg6.typed _ _ _ hr (by decide) (fun e => by
                 have hlbx := (HFR.out.gr (HG5.out.trans ((Gr.refl w5).alloc (Obj.cells #[.int .i64 xo, .bool xs, .string xn, .slice xa xz.length xc, .int .i64 xj] 39)))).lbox
                 rw [← e, hr] at hlbx
                 cases hlbx)
             have HOW6 : Hid _ := how6
             have HSN : Hid _ := HS.out.snoc hor6 HXV.out HOFL.out hy6 hyv6
             have HF6 : Hid _ := hF6
             have HFB6 : Hid _ := (HFB.out.gr (HG5.out.trans ((Gr.refl w5).alloc (Obj.cells #[.int .i64 xo, .bool xs, .string xn, .slice xa xz.length xc, .int .i64 xj] 39))) HFR.out.size).fga hg6
             have hn6l : n6.length ≤ k + 1 := by
               rcases hor6 with h | h
               · rw [h]; omega
               · rw [h]; simp; omega
             have hi6 : i6 < n6.length := (List.getElem?_eq_some_iff.1 hy6).1
             clear how5 how6 hg6 hor6 hy6 hyv6)
          | (at_builtin; go_loud (refine wpList_append_lies _ rfl _ _ _ rfl w4.heap.size 66 i0 _ 2 16 Try.underlying63 hi hi1 hi2 hi3 rfl (by decide) _ qs.length (partL qs) (by rfl) (owns_gr HOW6.out (by exact (Gr.refl _).alloc _)) ⟨_, 0, none⟩ 1 1 [.int .i64 n, .int .i64 i6] (by rfl) (by rfl) (World.news_of_block (cs := #[.int .i64 n, .int .i64 i6]) (heapA _ _)) (by simp [Value.oneCell']) (by omega) (by unfold maxLen; omega) (by omega) (by have := HF6.out.size; simp; omega) _ rfl ?_); intro g7 cap7 w7 hown7 hgrow7 hat7 hlt7
             have HE : Hid _ := And.intro hown7 hgrow7
             clear hown7 hgrow7 hat7 hlt7))
        go_roundw
        case rel =>
          have how7 := owns_gr HOW6.out ((Gr.refl w6).alloc (Obj.cells #[.int .i64 n, .int .i64 i6] 66))
          have hF7 := HF6.out.gr ((Gr.refl w6).alloc (Obj.cells #[.int .i64 n, .int .i64 i6] 66))
          have hg7 := HE.out.2
          refine ⟨k + 1, v6, n6, D6, qs ++ [(n, (i6 : Int))], by omega, by go_num, by simp; omega, hn6l, ?_, hF7.pw ⟨hg7.os, hg7.output, hg7.size, fun x hx hor => hg7.block x hx (fun e => ?_)⟩, by rw [HTK.out]; exact HSN.out, (HFB6.out.gr ((Gr.refl w6).alloc _) HF6.out.size).by_ hg7 (fun x hx => (owns_lt how7 hx).1) hF7.size⟩
          · have e9 : (qs ++ [(n, (i6 : Int))]).length = qs.length + 1 := by simp
            rw [e9, partL_snoc, hqk']
            have h9 := HE.out.1
            rw [hqk'] at h9
            exact h9
          · obtain ⟨cur, hr⟩ := owns_typed how7 e.symm
            rcases hor with h | h
            · have := (owns_lt how7 e.symm).1
              have := HF4.out.size
              have := z12
              omega
            · exact h.1 cur hr
        case measure => simp [intOf]; omega
    · have hk' : k = es.length := by omega
      have hS := HS.out
      rw [hk', List.take_length] at hS
      have HSA : Hid _ := hS
      have hqe : qs.length = es.length := by omega
      obtain ⟨er, ee⟩ := HEL.out.1.head
      have hq0 : 0 < qs.length := by rw [hqe, ee]; simp
      obtain ⟨pg, pcap, pcs, rfl, hpg1, hpg2, hpg3, hpg4, hpg5, hpg6⟩ := owns_cmp HOWN.out hq0
      unfold maxLen at hpg6
      obtain ⟨aa, acap, hav, hacap, hmx, hfive⟩ := owns_fivesV (fun _ => rfl) HFR.out.row
      subst hav
      have HFI : Hid _ := hfive
      have HLI : Hid _ := fun W (hg : Gr wr W) => listedA_any kb mb lb M w4.heap.size w1.heap.size _ ns D W (HFR.out.gr hg)
      have hq9 : qs.length ≤ 3000 := by omega
      have hn9 : ns.length ≤ 3000 := by omega
      have kr := (HGR.out.block _ z1).trans K1.out
      have KR : Hid _ := kr
      have zrr : w.heap.size < wr.heap.size := (Array.getElem?_eq_some_iff.1 kr).1
      have hRise : Rise qs := by
        have := hS.rise HEL.out.1.rise
        cases qs with
        | nil => simp at hq0
        | cons q r => exact ⟨(List.pairwise_cons.1 this).2⟩
      have hok : ∀ x ∈ qs, PartOk ns.length x := fun x hx => by
        obtain ⟨i, hi⟩ := List.getElem?_of_mem hx
        have hil := (List.getElem?_eq_some_iff.1 hi).1
        obtain ⟨j, e1, y, e2, e3⟩ := hS.says.at_ i _ (show (es.map fun e => (e, e))[i]? = some (es[i]'(by omega), es[i]'(by omega)) by simp [List.getElem?_eq_getElem (by omega : i < es.length)])
        rw [hi] at e1
        cases e1
        have hb := HNE.out (es[i]'(by omega)) (List.getElem_mem _)
        have := (List.getElem?_eq_some_iff.1 e2).1
        exact ⟨WalkArith.wf_i64 ⟨by simp only; omega, by simp only; omega⟩, by simp only; omega, by simp only; omega⟩
      have HGW2 : Hid _ := fun W (hg : Gr wr W) => grow_any pg pcap ns.length pcs qs W (Nat.lt_of_lt_of_le hpg2 hg.size) ((hg.block pg hpg2).trans hpg3) hpg4 hq0 (by omega) hpg5 (by omega) (by omega) hok hRise
      have HP3 : Hid _ := hpg3
      have HQK : Hid _ := hqk'
      have HQE : Hid _ := hqe
      have HKK : Hid _ := hk'
      clear hS hqe ee hqk' hk' hRise hok hpg4 hfive kr hzr hpg3 HOWN
      obtain ⟨cr, fr⟩ := row_all KR.out
      go_wp2_with fail
      refine (HLI.out _ (Gr.refl _)).mono ?_
      rintro e w5 ⟨rfl, hw5⟩
      subst w5
      by_cases h2 : 2000 < ns.length
      · have b2 : decide ((2000 : Int) < (ns.length : Int)) = true := by rw [decide_eq_true_iff]; omega
        go_wp2_with fail
        refine bodyPost_ret (v := .tuple #[.agg #[.slice none 0 0, .slice none 0 0], .int .i64 1]) (by simp [results, Try.results5, go_sem, cr]) rfl ⟨?_, Or.inr ⟨rfl, Or.inr ?_⟩⟩
        · repeat (with_reducible first | exact HG1.out.trans HGR.out | refine Gr.setCell ?_ (by simp) _ | refine Gr.alloc ?_ _)
        · rw [HES.out]; have := HKK.out; omega
      · have b2 : decide ((2000 : Int) < (ns.length : Int)) = false := by rw [decide_eq_false_iff_not]; omega
        have b2n : ¬ (2000 : Int) < (ns.length : Int) := by omega
        clear cr fr
        go_wp2_with fail
        refine (HGW2.out _ (Gr.refl _)).mono ?_
        rintro e w6 ⟨nodes, nv, nb, rfl, n2, n3, n4, n5, n6, n7, n8⟩
        have hlow : w1.heap.size ≤ pg := by have := HF4.out.size; omega
        have hF6 := HFR.out.cg n5 HP3.out hlow
        have hgr6 := HGR.out.cg n5 hlow
        have HF6 : Hid _ := hF6
        have POST : Hid _ := fun (_ : Unit) => And.intro n2 (And.intro n4 (And.intro n6 (And.intro n7 hgr6)))
        obtain ⟨nga, ngcap, hnv⟩ : ∃ na ncap, nv = .slice na nodes.length ncap := row_formA n2
        obtain ⟨ya, ycap, hyv, hyc, hymx, hyfive⟩ := owns_fivesV (fun _ => rfl) hF6.row
        cases hyv
        subst hnv
        have HFI6 : Hid _ := hyfive
        clear n2 n3 n4 n5 n6 n7 n8 hgr6 hF6 hyfive
        go_wp2_with fail
        refine (listedA_any kb mb lb M w4.heap.size w1.heap.size _ ns D w6 HF6.out).mono ?_
        rintro e w7 ⟨rfl, hw7⟩
        subst w7
        have HCO : Hid _ := fun W (hg : Gr w6 W) => copies_any aa acap ns W (HFI6.out.gr hg) (fun y hy => ⟨(HF6.out.ok y hy).gr hg, by have := HF6.out.ok6 y hy; omega, by
          obtain ⟨e, he, hv, _⟩ := HSA.out.all y hy
          simp only [Ans.val, localV, Prod.mk.injEq] at hv
          rw [hv.2.2.1]; exact Nat.zero_le _⟩) (by omega)
        go_wp2_with fail
        refine (HCO.out _ (by repeat (with_reducible first | exact Gr.refl _ | refine Gr.drew ?_))).mono ?_
        rintro e w8 ⟨ob, ys, rfl, hyl, hyv, hyf, hyok, hob, hg8⟩
        have hgr8 := (POST.out ()).2.2.2.2.trans hg8
        have k8 := (hgr8.block w.heap.size z1).trans K1.out
        obtain ⟨c8, f8⟩ := row_all k8
        have HY : Hid _ := fun (_ : Unit) => And.intro hyv (And.intro hyf (And.intro hyok (And.intro hg8 hgr8)))
        have HYL : Hid _ := hyl
        clear hyv hyf hyok hg8 hgr8 hyl
        go_wp2_with fail
        obtain ⟨pr, pok, pgw, pl, _⟩ := POST.out ()
        obtain ⟨hyv, hyf, hyok, hg8, hgr8⟩ := HY.out ()
        have hyl := HYL.out
        obtain ⟨na', ncap', hne, hncap, hnmx, hnfive⟩ := owns_fivesV (cells := Nod.cells) (fun _ => rfl) (owns_gr pr hg8)
        cases hne
        obtain ⟨fg1, fg2⟩ := inv_good (na := nga) (ncap := ngcap) (aa := some ⟨ob, 0, none⟩) (acap := ns.length) HEL.out.1 HS2.out hel HSA.out (by omega) pgw pl hyv
        have hfst : FstOk w8 ⟨nga, ngcap, nodes, some ⟨ob, 0, none⟩, ns.length, ys⟩ := ⟨hncap, by show ys.length ≤ ns.length; omega, hnfive, pok, hyf, hyok⟩
        refine bodyPost_ret (v := .tuple #[.agg (Fst.cells ⟨nga, ngcap, nodes, some ⟨ob, 0, none⟩, ns.length, ys⟩).toArray, .int .i64 0]) (by simp [results, Try.results5, go_sem, c8, Fst.cells, hyl]) rfl ⟨?_, Or.inl ⟨_, rfl, hfst.but ⟨⟨_, k8⟩⟩ (but2 _ _ _ _), fg1, fg2⟩⟩
        repeat (with_reducible first | exact HG1.out.trans hgr8 | refine Gr.setCell ?_ (by simp) _)
set_option maxHeartbeats 1600000 in
theorem inverse_bad (a : Option Addr) (cap : Nat) (l : List Spn) (w : World) (hl : SpansAt w a l) (h0 : spnsF l ≠ 0) :
    Calls Try.prog 5 #[.slice a l.length cap] w fun e w' => e = .returned (.tuple #[.agg #[.slice none 0 0, .slice none 0 0], .int .i64 (spnsF l)]) ∧ Gr w w' := by
  have HC : Hid _ := fun W (h : SpansAt W a l) => checkSpans_any a cap l W h
  obtain ⟨E, hE⟩ : ∃ E, spnsF l = E := ⟨_, rfl⟩
  rw [hE] at h0
  simp only [hE] at HC ⊢
  clear hE
  have g0 : (E != 0) = true := by simpa using h0
  have l1 := hl.len
  unfold maxLen at l1
  go_enter Try.func5, Try.ntmps5
  go_wp2_with fail
  have gA : Gr w (w.alloc (Obj.cells #[.slice none 0 0, .slice none 0 0] 26)) := (Gr.refl _).alloc _
  refine (HC.out _ (hl.gr gA)).mono ?_
  rintro e w1 ⟨rfl, hg1⟩
  have k1 := (hg1.block w.heap.size (by simp)).trans (heapA w _)
  obtain ⟨c1, f1⟩ := row_all k1
  have hgw1 := gA.trans hg1
  clear hg1 gA k1
  go_wp2_with fail
  refine bodyPost_ret (v := .tuple #[.agg #[.slice none 0 0, .slice none 0 0], .int .i64 E]) (by simp [results, Try.results5, go_sem, c1]) rfl ⟨rfl, ?_⟩
  repeat (with_reducible first | exact hgw1 | refine Gr.setCell ?_ (by simp) _)
end Go.Proofs.Ythnbmeihaojfnaa
