/- Contract: what a program that may be run tells (P5.4), by the program: the loop. -/
import Derived.Test.YtcpmbjlhblkniaaDoorRunT
import Derived.Test.YtcpmbjlhblkniaaDoorStB
import Derived.Deep.RegionHeld3
import Derived.Deep.Cut
namespace Go.Proofs.YtcpmbjlhblkniaaDoor
open Go.ChangeShapes Go.WideShapes Go.ChangeAt Go.RowKit
set_option linter.unusedVariables false
set_option maxRecDepth 100000
structure TolR (p : Prg) (on : Ver.On) (R : Int × Int) (t : Int) (w wr : World) (j : Nat) (l : List Int) (k : Int) (v : Value) : Prop where
  mem : TolM p w wr v l
  at_ : Ver.At p on j l k
  eq : Ver.exec p.code p.pool t (p.code.length - j) j l k = R
theorem TolR.next {p : Prg} {on : Ver.On} {R : Int × Int} {t : Int} {w wr wr' : World} {j j' : Nat} {l l' : List Int} {k : Int} {v v' : Value} {s m op n : Int} (hG : Ver.Good p) (hw : Ver.Ways p.code.length p.code on p.code.length s m)
    (h : TolR p on R t w wr j l k v) (hx : p.code[j]? = some ⟨op, n⟩) (hj : j' ∈ Ver.nxts op n j) (hl : (l'.length : Int) = l.length + (Ver.lays op - Ver.takes op)) (he : Ver.exec p.code p.pool t (p.code.length - j - 1 + 1) j l k = Ver.exec p.code p.pool t (p.code.length - j - 1) j' l' (k + 1)) (hm : TolM p w wr' v' l') :
    TolR p on R t w wr' j' l' (k + 1) v' := by
  have hn := h.at_.next hG hw hx hj hl
  have hlt := h.at_.lt
  have hgt := Ver.nxts_gt hj
  refine ⟨hm, hn, ?_⟩
  rw [← h.eq, show p.code.length - j = p.code.length - j - 1 + 1 by omega, he]
  exact Ver.exec_fuel _ _ _ _ _ (by omega) (by omega)
theorem TolR.start {p : Prg} {on : Ver.On} {t : Int} {w wr : World} {v : Value} {s m : Int} (hG : Ver.Good p) (hw : Ver.Ways p.code.length p.code on p.code.length s m) (hm : TolM p w wr v []) : TolR p on (Ver.ran p t) t w wr 0 [] 0 v :=
  ⟨hm, Ver.At.start hG hw, rfl⟩
theorem lt_of_someR {w : World} {b : Nat} {o : Obj} (h : w.heap[b]? = some o) : b < w.heap.size := (Array.getElem?_eq_some_iff.1 h).1
/-- Slots of the region that lays a number of the pool. -/
def Fi12 (va : Option Addr) (ln vcap pb0 : Nat) (pa : Option Addr) (pn pcap xb pb po : Nat) (n z : Int) (n0 : Nat) : Tmp → Value → World → Prop
  | 33, v, _ => v = .slice va ln vcap
  | 34, v, _ => v = .pointer (some ⟨pb0, 1, none⟩)
  | 35, v, _ => v = .slice pa pn pcap
  | 36, v, _ => v = .pointer (some ⟨xb, 1, none⟩)
  | 37, v, _ => v = .int .i64 n
  | 38, v, _ => v = .pointer (some ⟨pb, po + n.toNat, none⟩)
  | 39, v, _ => v = .int .i64 z
  | 40, v, w => ∃ g, v = .slice (some ⟨g, 0, none⟩) 1 1 ∧ n0 ≤ g ∧ w.heap[g]? = some (.cells #[.int .i64 z] 3)
  | _, _, _ => True
theorem Fi12.mono {va : Option Addr} {ln vcap pb0 : Nat} {pa : Option Addr} {pn pcap xb pb po : Nat} {n z : Int} {n0 : Nat} (d : Tmp) (v : Value) (w w' : World) (hg : Gr w w') (h : Fi12 va ln vcap pb0 pa pn pcap xb pb po n z n0 d v w) : Fi12 va ln vcap pb0 pa pn pcap xb pb po n z n0 d v w' := by
  unfold Fi12 at h ⊢
  split at h
  all_goals first | exact h | trivial | (obtain ⟨g, e, hn, hr⟩ := h; exact ⟨g, e, hn, (hg.block g (lt_of_someR hr)).trans hr⟩)
/-- Slots of the region that holds two numbers against each other. -/
def Fi16 (va : Option Addr) (ln vcap : Nat) (y z : Int) (n0 : Nat) : Tmp → Value → World → Prop
  | 48, v, _ => v = .slice va ln vcap
  | 49, v, _ => v = .int .i64 y
  | 50, v, _ => v = .int .i64 z
  | 51, v, _ => v = .bool (decide (y < z))
  | 52, v, _ => v = .int .i64 (if decide (y < z) = true then 1 else 0)
  | 53, v, w => ∃ g, v = .slice (some ⟨g, 0, none⟩) 1 1 ∧ n0 ≤ g ∧ w.heap[g]? = some (.cells #[.int .i64 (if decide (y < z) = true then 1 else 0)] 3)
  | _, _, _ => True
theorem Fi16.mono {va : Option Addr} {ln vcap : Nat} {y z : Int} {n0 : Nat} (d : Tmp) (v : Value) (w w' : World) (hg : Gr w w') (h : Fi16 va ln vcap y z n0 d v w) : Fi16 va ln vcap y z n0 d v w' := by
  unfold Fi16 at h ⊢
  split at h
  all_goals first | exact h | trivial | (obtain ⟨g, e, hn, hr⟩ := h; exact ⟨g, e, hn, (hg.block g (lt_of_someR hr)).trans hr⟩)
set_option maxHeartbeats 3200000 in
theorem told_any (p : Prg) (t : Int) (w : World) (hp : PrgOk w p) (hG : Ver.Good p) {on : Ver.On} {s m : Int} (hw : Ver.Ways p.code.length p.code on p.code.length s m) :
    Calls Tryd.prog 17 #[.agg p.cells.toArray, .int .i64 t] w fun e w' => e = .returned (.tuple #[.int .i64 (Ver.ran p t).1, .int .i64 (Ver.ran p t).2]) ∧ Gr w w' := by
  have hst := fun wr v (h : TolM p w wr v []) => TolR.start (t := t) hG hw h
  obtain ⟨R, hR⟩ : ∃ R, R = Ver.ran p t := ⟨_, rfl⟩
  rw [← hR] at hst ⊢
  clear hR
  have HP : Hid _ := hp
  have HG : Hid _ := hG
  have HW : Hid _ := hw
  have l1 := hG.clen
  have l2 := hG.plen
  obtain ⟨P, hP⟩ : ∃ P, P = p := ⟨_, rfl⟩
  have ec : P.cells = [.slice P.ca P.code.length P.ccap, .slice P.pa P.pool.length P.pcap, .slice P.aa P.answers.length P.acap] := rfl
  rw [hP] at ec
  rw [ec]
  clear hP P
  obtain ⟨i0, hi, hi1, hi2, hi3⟩ := Tryd.infoInt
  clear hp hG hw
  go_enter Tryd.func17, Tryd.ntmps17
  go_wp2_with fail
  obtain ⟨W0, hW0⟩ : ∃ W0, W0 = (w.alloc (Obj.cells #[.slice p.ca p.code.length p.ccap, .slice p.pa p.pool.length p.pcap, .slice p.aa p.answers.length p.acap] 27)).alloc (Obj.cells #[.slice none 0 0] 24) := ⟨_, rfl⟩
  have hS0 := hst W0 (.slice none 0 0) ⟨by rw [hW0]; exact ((Gr.refl _).alloc _).alloc _, by rw [hW0, ec]; exact heapB w _ _, ⟨by rw [hW0]; exact heapC w _ _, by omega, by rw [hW0]; simp, owns_nil _ _ _ _⟩⟩
  rw [← hW0]
  clear hW0 hst
  go_loopw [8, 9] (fun u i wr => ∃ (j : Nat) (l : List Int) (k : Int) (v : Value), i = .int .i64 j ∧ u = .int .i64 k ∧ TolR p on R t w wr j l k v) (fun _ i _ => p.code.length - (intOf i).toNat)
  case atStart => exact ⟨0, [], 0, _, rfl, rfl, hS0⟩
  case round =>
    obtain ⟨j, l, k, v, rfl, rfl, hT⟩ := hrel
    clear hS0
    have hlt := hT.at_.lt
    obtain ⟨x, hx⟩ : ∃ x, p.code[j]? = some x := ⟨_, List.getElem?_eq_getElem hlt⟩
    obtain ⟨b, o, hca, hb, hc1, hc2⟩ := HP.out.cat.cell j x hx
    obtain ⟨⟨o1, o2⟩, n0, n1⟩ := HG.out.ins j x hx
    obtain ⟨op, n⟩ := x
    obtain ⟨r1, r2, r3⟩ := hT.at_.room HW.out hx
    have hk0 := hT.at_.k0
    have hk1 := hT.at_.k1
    have HX : Hid _ := hx
    have HT : Hid _ := hT
    have q0 := (hT.mem.gr.cell b _ hb).trans hc1
    have q1 := (hT.mem.gr.cell b _ hb).trans hc2
    have hb' : b < wr.heap.size := Nat.lt_of_lt_of_le hb hT.mem.gr.size
    obtain ⟨cp, fp⟩ := row_all hT.mem.pbox
    obtain ⟨cs, fs⟩ := row_all hT.mem.stk.box
    rw [ec, hca] at cp
    have HCA : Hid _ := hca
    clear hca
    simp only at o1 o2 n0 n1 q0 q1
    have zb := hT.mem.stk.size
    have nb : n ≤ 8000 := by
      unfold Ver.choices at n1
      have g1 := HG.out.plen
      have g2 := HG.out.alen
      split at n1
      · omega
      split at n1
      · omega
      split at n1 <;> omega
    have hne0 : w.heap.size ≠ wr.heap.size := by omega
    have hne1 : w.heap.size + 1 ≠ wr.heap.size := by omega
    have hne2 : b ≠ wr.heap.size := by omega
    obtain ⟨va, vcap, hv, _, _⟩ := owns_ints hT.mem.stk.row
    subst hv
    clear hT hx hc1 hc2
    rcases ops6 o1 o2 with rfl | rfl | rfl | rfl | rfl | rfl
    · simp [Ver.takes, Ver.lays] at r1 r2
      go_upto_region 10 with fail
      clear cp fp cs fs
      obtain ⟨W1, hW1⟩ : ∃ W1, W1 = wr.alloc (Obj.cells #[Value.int .i64 1, Value.int .i64 n] 54) := ⟨_, rfl⟩
      rw [← hW1]
      have gW1 : Gr wr W1 := by rw [hW1]; exact (Gr.refl _).alloc _
      have M1 := HT.out.mem.more gW1
      have x1 : W1.cell? ⟨wr.heap.size, 1, none⟩ = some (.int .i64 n) := by rw [hW1]; exact cell_new wr _ _ 1
      have zx : wr.heap.size < W1.heap.size := by rw [hW1]; simp
      obtain ⟨cp, fp⟩ := row_all M1.pbox
      obtain ⟨cs, fs⟩ := row_all M1.stk.box
      have zW := M1.stk.size
      rw [ec, HCA.out] at cp
      clear hW1 q0 q1 hne0 hne1 hne2
      go_wp2_with (at_builtin; (refine wpList_append_lies _ rfl _ _ _ rfl (w.heap.size + 2) 3 i0 _ 1 8 Tryd.underlying24 hi hi1 hi2 hi3 rfl (by decide) _ l.length (ints l) (by rfl) (owns_gr M1.stk.row (by exact (Gr.refl _).alloc _)) ⟨_, 0, none⟩ 1 1 [.int .i64 t] (by rfl) (by rfl) (World.news_of_block (cs := #[.int .i64 t]) (heapA _ _)) (by simp [Value.oneCell']) (by omega) (by unfold maxLen; omega) (by omega) (by simp; omega) _ rfl ?_))
      intro g2 cap2 w3 hown3 hgrow hat hlt3
      have M2 := M1.push ((Gr.refl W1).alloc _) hgrow hown3
      have hbx := (hgrow.block (w.heap.size + 1) (by simp; omega) (fun e => own_ge M1.stk.row (by omega) e.symm)).trans ((Below.heap_alloc _ _ _ (by omega)).trans M1.stk.box)
      have Hend : Hid _ := HT.out.next HG.out HW.out HX.out (j' := j + 1) (by simp [Ver.nxts]) (by simp [Ver.lays, Ver.takes]) (Ver.exec_1 HX.out) M2
      obtain ⟨c3, f3⟩ := row_all hbx
      clear hown3 hgrow hat M2 hbx
      go_wp2
      go_roundw
      case rel => exact ⟨j + 1, _, k + 1, _, by go_num, rfl, Hend.out⟩
      case measure => simp [intOf]; omega
    · simp [Ver.takes, Ver.lays] at r1 r2
      have np : n < p.pool.length := by simpa [Ver.choices] using n1
      obtain ⟨z, hz⟩ : ∃ z, p.pool[n.toNat]? = some z := ⟨_, List.getElem?_eq_getElem (by omega)⟩
      obtain ⟨pb, po, hpa, hpb, hzc⟩ := HP.out.pat.cell _ z hz
      have HPA : Hid _ := hpa
      have HZ : Hid _ := hz
      clear hpa hz
      go_upto_region 12 with fail
      clear cp fp cs fs
      obtain ⟨W1, hW1⟩ : ∃ W1, W1 = wr.alloc (Obj.cells #[Value.int .i64 2, Value.int .i64 n] 54) := ⟨_, rfl⟩
      rw [← hW1]
      have gW1 : Gr wr W1 := by rw [hW1]; exact (Gr.refl _).alloc _
      have M1 := HT.out.mem.more gW1
      have x1 : W1.cell? ⟨wr.heap.size, 1, none⟩ = some (.int .i64 n) := by rw [hW1]; exact cell_new wr _ _ 1
      have zx : wr.heap.size < W1.heap.size := by rw [hW1]; simp
      obtain ⟨cp, fp⟩ := row_all M1.pbox
      obtain ⟨cs, fs⟩ := row_all M1.stk.box
      have zW := M1.stk.size
      rw [ec, HCA.out] at cp
      clear hW1 q0 q1 hne0 hne1 hne2
      have zp : pb < W1.heap.size := Nat.lt_of_lt_of_le hpb M1.gr.size
      replace hzc := (M1.gr.cell pb _ hpb).trans hzc
      rw [HPA.out] at cp
      refine Slots.name_frame ?_
      intro a0 ha0
      have e2 : a0.eval (.tmp 2) = .pointer (some ⟨w.heap.size, 0, none⟩) := by rw [ha0]; rfl
      have e6 : a0.eval (.tmp 6) = .pointer (some ⟨w.heap.size + 1, 0, none⟩) := by rw [ha0]; rfl
      have e10 : a0.eval (.tmp 10) = .pointer (some ⟨wr.heap.size, 0, none⟩) := by rw [ha0]; rfl
      have hsz : a0.tmps.size = 75 := by rw [ha0]; rfl
      have HA0 : Hid _ := ha0
      clear ha0
      refine Slots.wp_region_tailN 8 (R := Gr) (fun _ _ _ h k => h.trans k) Gr.refl (Fi12 va l.length vcap w.heap.size (some ⟨pb, po, none⟩) p.pool.length p.pcap wr.heap.size pb po n z W1.heap.size) Fi12.mono (by kernel_rfl) (by decide +kernel) (by rw [hsz]; decide +kernel) (by decide) (by decide +kernel) ?_ ?_
      · refine ⟨?_, ?_, ?_, ?_, ?_, ?_, ?_, ?_, trivial⟩
        · intro a w2 hR hs
          replace hR : Gr W1 w2 := Gr.trans (Gr.drew (Gr.refl W1)) hR
          exact St.loadInts ((hs.ini 6 (by decide +kernel)).trans e6) ((hR.cell (w.heap.size + 1) 0 (by omega)).trans (cs 0)) ⟨Gr.refl _, _, rfl, fun d hd => by cases hd; rfl⟩
        · intro a w2 hR hs
          replace hR : Gr W1 w2 := Gr.trans (Gr.drew (Gr.refl W1)) hR
          exact St.fieldProgram (b := w.heap.size) (o := 0) ((hs.ini 2 (by decide +kernel)).trans e2) (by decide) ⟨Gr.refl _, _, rfl, fun d hd => by cases hd; rfl⟩
        · intro a w2 hR hs
          replace hR : Gr W1 w2 := Gr.trans (Gr.drew (Gr.refl W1)) hR
          exact St.loadInts (hs.bef 34 (by decide +kernel)) ((hR.cell w.heap.size 1 (by omega)).trans (cp 1)) ⟨Gr.refl _, _, rfl, fun d hd => by cases hd; rfl⟩
        · intro a w2 hR hs
          replace hR : Gr W1 w2 := Gr.trans (Gr.drew (Gr.refl W1)) hR
          exact St.fieldInstr (b := wr.heap.size) (o := 0) ((hs.ini 10 (by decide +kernel)).trans e10) (by decide) ⟨Gr.refl _, _, rfl, fun d hd => by cases hd; rfl⟩
        · intro a w2 hR hs
          replace hR : Gr W1 w2 := Gr.trans (Gr.drew (Gr.refl W1)) hR
          exact St.loadI (hs.bef 36 (by decide +kernel)) ((hR.cell wr.heap.size 1 zx).trans x1) ⟨Gr.refl _, _, rfl, fun d hd => by cases hd; rfl⟩
        · intro a w2 hR hs
          replace hR : Gr W1 w2 := Gr.trans (Gr.drew (Gr.refl W1)) hR
          exact St.indexInts (hs.bef 35 (by decide +kernel)) (hs.bef 37 (by decide +kernel)) n0 np ⟨Gr.refl _, _, rfl, fun d hd => by cases hd; rfl⟩
        · intro a w2 hR hs
          replace hR : Gr W1 w2 := Gr.trans (Gr.drew (Gr.refl W1)) hR
          exact St.loadI (hs.bef 38 (by decide +kernel)) ((hR.cell pb _ zp).trans hzc) ⟨Gr.refl _, _, rfl, fun d hd => by cases hd; rfl⟩
        · intro a w2 hR hs
          replace hR : Gr W1 w2 := Gr.trans (Gr.drew (Gr.refl W1)) hR
          exact St.sliceInt (hs.bef 39 (by decide +kernel)) ⟨(Gr.refl _).alloc _, _, rfl, fun d hd => by cases hd; exact ⟨_, rfl, hR.size, heapA _ _⟩⟩
      · intro vs w2 hR hfi
        replace hR : Gr W1 w2 := Gr.trans (Gr.drew (Gr.refl W1)) hR
        have ea := hfi 33 (by decide)
        obtain ⟨gn, eb, hgn, hrown⟩ := hfi 40 (by decide)
        refine wp_append_lies w2 (.tmp 33) (.tmp 40) 24 rfl (w.heap.size + 2) 3 i0 _ 1 8 Tryd.underlying24 hi hi1 hi2 hi3 rfl (by decide) _ l.length (ints l) ((Slots.eval_fill (by decide +kernel) (by rw [hsz]; decide)).trans ea) (owns_gr M1.stk.row hR) ⟨gn, 0, none⟩ 1 1 [.int .i64 z] ((Slots.eval_fill (by decide +kernel) (by rw [hsz]; decide)).trans eb) (by rfl) (World.news_of_block hrown) (by simp [Value.oneCell']) (by omega) (by unfold maxLen; omega) (by omega) (by have := hR.size; omega) _ rfl ?_
        intro g2 cap2 w3 hown3 hgrow hat hlt3
        have M2 := M1.push hR hgrow hown3
        have Hend : Hid _ := HT.out.next HG.out HW.out HX.out (j' := j + 1) (by simp [Ver.nxts]) (by simp [Ver.lays, Ver.takes]) (Ver.exec_2 HX.out HZ.out) M2
        clear M2
        have hbx := (hgrow.block (w.heap.size + 1) (by have := hR.size; omega) (fun e => own_ge M1.stk.row (by omega) e.symm)).trans ((hR.block _ (by omega)).trans M1.stk.box)
        have c3 := (row_all hbx).1
        have f3 := (row_all hbx).2
        refine Slots.name_seq ?_
        intro a1 ha1
        have x6 : a1.eval (.tmp 6) = .pointer (some ⟨w.heap.size + 1, 0, none⟩) := by
          rw [ha1]
          refine Eq.trans (Slots.eval_put (by decide)) ?_
          refine Eq.trans (Slots.eval_other (by decide +kernel)) ?_
          exact e6
        have xn : a1.eval (.tmp 41) = .slice (some ⟨g2, 0, none⟩) (l.length + 1) cap2 := by
          rw [ha1]
          exact Slots.eval_put_same (Slots.lt_fill (by rw [hsz]; decide))
        have HA1 : Hid _ := ha1
        clear ha1
        refine Slots.seq_cons ?_
        refine St.storeInts x6 xn (c3 0) (f3 0) ?_
        refine Slots.seq_nil ?_
        rw [HA1.out, HA0.out]
        clear HA0 HA1 hown3 hgrow hat hbx c3 f3
        simp only [Slots.dstL, List.take_succ_cons, List.take_zero, List.filterMap_cons, List.filterMap_nil, Slots.fill]
        go_wp2
        go_roundw
        case rel => exact ⟨j + 1, _, k + 1, _, by go_num, rfl, Hend.out⟩
        case measure => simp [intOf]; omega
    · simp [Ver.takes, Ver.lays] at r1 r2
      obtain ⟨m', hm'⟩ : ∃ m', l.length = m' + 2 := ⟨l.length - 2, by omega⟩
      obtain ⟨za, hza⟩ : ∃ z, l[m']? = some z := ⟨_, List.getElem?_eq_getElem (by omega)⟩
      obtain ⟨zb', hzb⟩ : ∃ z, l[m' + 1]? = some z := ⟨_, List.getElem?_eq_getElem (by omega)⟩
      have hza2 : (l.take (m' + 1))[m']? = some za := by rw [List.getElem?_take_of_lt (by omega)]; exact hza
      have hl2 : (l.take (m' + 1)).length = m' + 1 := by rw [List.length_take]; omega
      go_upto_region 14 with fail
      clear cp fp cs fs
      obtain ⟨W1, hW1⟩ : ∃ W1, W1 = wr.alloc (Obj.cells #[Value.int .i64 3, Value.int .i64 n] 54) := ⟨_, rfl⟩
      rw [← hW1]
      have gW1 : Gr wr W1 := by rw [hW1]; exact (Gr.refl _).alloc _
      have M1 := HT.out.mem.more gW1
      have x1 : W1.cell? ⟨wr.heap.size, 1, none⟩ = some (.int .i64 n) := by rw [hW1]; exact cell_new wr _ _ 1
      have zx : wr.heap.size < W1.heap.size := by rw [hW1]; simp
      obtain ⟨cp, fp⟩ := row_all M1.pbox
      obtain ⟨cs, fs⟩ := row_all M1.stk.box
      have zW := M1.stk.size
      rw [ec, HCA.out] at cp
      clear hW1 q0 q1 hne0 hne1 hne2
      have HM : Hid _ := hm'
      have HA : Hid _ := And.intro hza hzb
      have HA2 : Hid _ := And.intro hza2 hl2
      clear hza hzb hza2 hl2 cp fp cs fs
      go_upto_region 15 with (go_at_call 38; refine (take_any _ _ (m' + 1) _ _ l zb' _ M1.stk (by have := HM.out; omega) HA.out.2 (by omega)).mono ?_; rintro e w2 ⟨rfl, hw2⟩)
      subst w2
      have M2 := M1.cut (m := m' + 1) rfl (by omega)
      go_upto_region 16 with (go_at_call 38; refine (take_any _ _ m' _ _ (l.take (m' + 1)) za _ (by rw [HA2.out.2]; exact M2.stk) HA2.out.2 HA2.out.1 (by omega)).mono ?_; rintro e w2 ⟨rfl, hw2⟩)
      subst w2
      have M3 := M2.cut (m := m') HA2.out.2 (by omega)
      rw [show (l.take (m' + 1)).take m' = l.take m' by rw [List.take_take]; congr 1; omega] at M3
      have E3 : Hid _ := Ver.exec_3 (code := p.code) (pool := p.pool) (t := t) (f := p.code.length - j - 1) (k := k) HX.out HM.out HA.out.1 HA.out.2
      rw [show (if za < zb' then (1 : Int) else 0) = if decide (za < zb') = true then 1 else 0 by simp] at E3
      obtain ⟨W3, hW3⟩ : ∃ W3, W3 = (W1.setCell ⟨w.heap.size + 1, 0, none⟩ (.slice va (m' + 1) vcap)).setCell ⟨w.heap.size + 1, 0, none⟩ (.slice va m' vcap) := ⟨_, rfl⟩
      rw [← hW3] at M3 ⊢
      have HL : Hid ((l.take m').length = m') := by show (l.take m').length = m'; rw [List.length_take]; have := HM.out; omega
      obtain ⟨cs, fs⟩ := row_all M3.stk.box
      have R3 : Hid _ := M3.stk.row
      rw [HL.out] at R3
      have zW3 := M3.stk.size
      clear hW3 M2
      refine Slots.name_frame ?_
      intro a0 ha0
      have e2 : a0.eval (.tmp 2) = .pointer (some ⟨w.heap.size, 0, none⟩) := by rw [ha0]; rfl
      have e6 : a0.eval (.tmp 6) = .pointer (some ⟨w.heap.size + 1, 0, none⟩) := by rw [ha0]; rfl
      have e12 : a0.eval (.tmp 12) = .int .i64 za := by rw [ha0]; rfl
      have e11 : a0.eval (.tmp 11) = .int .i64 zb' := by rw [ha0]; rfl
      have hsz : a0.tmps.size = 75 := by rw [ha0]; rfl
      have HA0 : Hid _ := ha0
      clear ha0
      refine Slots.wp_region_tailN 6 (R := Gr) (fun _ _ _ h k => h.trans k) Gr.refl (Fi16 va m' vcap za zb' W3.heap.size) Fi16.mono (by kernel_rfl) (by decide +kernel) (by rw [hsz]; decide +kernel) (by decide) (by decide +kernel) ?_ ?_
      · refine ⟨?_, ?_, ?_, ?_, ?_, ?_, trivial⟩
        · intro a w2 hR hs
          replace hR : Gr W3 w2 := Gr.trans (Gr.drew (Gr.refl W3)) hR
          exact St.loadInts ((hs.ini 6 (by decide +kernel)).trans e6) ((hR.cell (w.heap.size + 1) 0 (by omega)).trans (cs 0)) ⟨Gr.refl _, _, rfl, fun d hd => by cases hd; rfl⟩
        · intro a w2 hR hs
          replace hR : Gr W3 w2 := Gr.trans (Gr.drew (Gr.refl W3)) hR
          exact St.move ((hs.ini 12 (by decide +kernel)).trans e12) ⟨Gr.refl _, _, rfl, fun d hd => by cases hd; rfl⟩
        · intro a w2 hR hs
          replace hR : Gr W3 w2 := Gr.trans (Gr.drew (Gr.refl W3)) hR
          exact St.move ((hs.ini 11 (by decide +kernel)).trans e11) ⟨Gr.refl _, _, rfl, fun d hd => by cases hd; rfl⟩
        · intro a w2 hR hs
          replace hR : Gr W3 w2 := Gr.trans (Gr.drew (Gr.refl W3)) hR
          exact St.lss (hs.bef 49 (by decide +kernel)) (hs.bef 50 (by decide +kernel)) ⟨Gr.refl _, _, rfl, fun d hd => by cases hd; rfl⟩
        · intro a w2 hR hs
          replace hR : Gr W3 w2 := Gr.trans (Gr.drew (Gr.refl W3)) hR
          exact St.call (vs := #[.bool (decide (za < zb'))]) St.run_oneIf (St.args1 (hs.bef 51 (by decide +kernel))) (oneIf_any _ _) (fun e w3 h => by obtain ⟨rfl, rfl⟩ := h; exact ⟨_, rfl, Gr.refl _, _, rfl, fun d hd => by cases hd; rfl⟩)
        · intro a w2 hR hs
          replace hR : Gr W3 w2 := Gr.trans (Gr.drew (Gr.refl W3)) hR
          exact St.sliceInt (hs.bef 52 (by decide +kernel)) ⟨(Gr.refl _).alloc _, _, rfl, fun d hd => by cases hd; exact ⟨_, rfl, hR.size, heapA _ _⟩⟩
      · intro vs w2 hR hfi
        replace hR : Gr W3 w2 := Gr.trans (Gr.drew (Gr.refl W3)) hR
        have ea := hfi 48 (by decide)
        obtain ⟨gn, eb, hgn, hrown⟩ := hfi 53 (by decide)
        refine wp_append_lies w2 (.tmp 48) (.tmp 53) 24 rfl (w.heap.size + 2) 3 i0 _ 1 8 Tryd.underlying24 hi hi1 hi2 hi3 rfl (by decide) _ m' (ints (l.take m')) ((Slots.eval_fill (by decide +kernel) (by rw [hsz]; decide)).trans ea) (owns_gr R3.out hR) ⟨gn, 0, none⟩ 1 1 [.int .i64 (if decide (za < zb') = true then 1 else 0)] ((Slots.eval_fill (by decide +kernel) (by rw [hsz]; decide)).trans eb) (by rfl) (World.news_of_block hrown) (by simp [Value.oneCell']) (by omega) (by unfold maxLen; omega) (by omega) (by have := hR.size; omega) _ rfl ?_
        intro g2 cap2 w3 hown3 hgrow hat hlt3
        have M4 := M3.push hR hgrow (by rw [HL.out]; exact hown3)
        have Hend : Hid _ := HT.out.next HG.out HW.out HX.out (j' := j + 1) (by simp [Ver.nxts]) (by rw [List.length_append, HL.out, HM.out]; simp [Ver.lays, Ver.takes]; omega) (E3.out) M4
        clear M4
        have hbx := (hgrow.block (w.heap.size + 1) (by have := hR.size; omega) (fun e => own_ge R3.out (by omega) e.symm)).trans ((hR.block _ (by omega)).trans M3.stk.box)
        have c3 := (row_all hbx).1
        have f3 := (row_all hbx).2
        refine Slots.name_seq ?_
        intro a1 ha1
        have x6 : a1.eval (.tmp 6) = .pointer (some ⟨w.heap.size + 1, 0, none⟩) := by
          rw [ha1]
          refine Eq.trans (Slots.eval_put (by decide)) ?_
          refine Eq.trans (Slots.eval_other (by decide +kernel)) ?_
          exact e6
        have xn : a1.eval (.tmp 54) = .slice (some ⟨g2, 0, none⟩) (m' + 1) cap2 := by
          rw [ha1]
          exact Slots.eval_put_same (Slots.lt_fill (by rw [hsz]; decide))
        have HA1 : Hid _ := ha1
        clear ha1
        refine Slots.seq_cons ?_
        refine St.storeInts x6 xn (c3 0) (f3 0) ?_
        refine Slots.seq_nil ?_
        rw [HA1.out, HA0.out]
        clear HA0 HA1 hown3 hgrow hat hbx c3 f3
        simp only [Slots.dstL, List.take_succ_cons, List.take_zero, List.filterMap_cons, List.filterMap_nil, Slots.fill]
        go_wp2
        go_roundw
        case rel => exact ⟨j + 1, _, k + 1, _, by go_num, rfl, Hend.out⟩
        case measure => simp [intOf]; omega
    · simp [Ver.takes, Ver.lays] at r1 r2
      obtain ⟨m', hm'⟩ : ∃ m', l.length = m' + 1 := ⟨l.length - 1, by omega⟩
      obtain ⟨z, hz⟩ : ∃ z, l[m']? = some z := ⟨_, List.getElem?_eq_getElem (by omega)⟩
      go_upto_region 18 with fail
      clear cp fp cs fs
      obtain ⟨W1, hW1⟩ : ∃ W1, W1 = wr.alloc (Obj.cells #[Value.int .i64 4, Value.int .i64 n] 54) := ⟨_, rfl⟩
      rw [← hW1]
      have gW1 : Gr wr W1 := by rw [hW1]; exact (Gr.refl _).alloc _
      have M1 := HT.out.mem.more gW1
      have x1 : W1.cell? ⟨wr.heap.size, 1, none⟩ = some (.int .i64 n) := by rw [hW1]; exact cell_new wr _ _ 1
      have zx : wr.heap.size < W1.heap.size := by rw [hW1]; simp
      obtain ⟨cp, fp⟩ := row_all M1.pbox
      obtain ⟨cs, fs⟩ := row_all M1.stk.box
      have zW := M1.stk.size
      rw [ec, HCA.out] at cp
      clear hW1 q0 q1 hne0 hne1 hne2
      have HM : Hid _ := hm'
      have HZ : Hid _ := hz
      have E4 : Hid _ := Ver.exec_4 (code := p.code) (pool := p.pool) (t := t) (f := p.code.length - j - 1) (k := k) HX.out hm' hz
      have hl2 : Hid ((l.take m').length = m') := by show (l.take m').length = m'; rw [List.length_take]; omega
      have M2 := M1.cut (m := m') rfl (by omega)
      clear hz cp fp cs fs
      by_cases h0 : z = 0
      · rw [if_pos h0] at E4
        subst h0
        have Hend : Hid _ := HT.out.next HG.out HW.out HX.out (j' := j + 1 + n.toNat) (by simp [Ver.nxts]) (by rw [hl2.out, HM.out]; simp [Ver.lays, Ver.takes]; omega) E4.out M2
        clear E4 M2
        go_wp2_with (go_at_call 38; refine (take_any _ _ m' _ _ l 0 _ M1.stk HM.out HZ.out (by omega)).mono ?_; rintro e w2 ⟨rfl, hw2⟩; subst w2)
        go_roundw
        case rel => exact ⟨j + 1 + n.toNat, _, k + 1, _, by go_num, rfl, Hend.out⟩
        case measure => simp [intOf]; omega
      · rw [if_neg h0] at E4
        have h0' : (z == 0) = false := by simpa using h0
        have Hend : Hid _ := HT.out.next HG.out HW.out HX.out (j' := j + 1) (by simp [Ver.nxts]) (by rw [hl2.out, HM.out]; simp [Ver.lays, Ver.takes]; omega) E4.out M2
        clear E4 M2
        go_wp2_with (go_at_call 38; refine (take_any _ _ m' _ _ l z _ M1.stk HM.out HZ.out (by omega)).mono ?_; rintro e w2 ⟨rfl, hw2⟩; subst w2)
        go_roundw
        case rel => exact ⟨j + 1, _, k + 1, _, by go_num, rfl, Hend.out⟩
        case measure => simp [intOf]; omega
    · have Hend : Hid _ := HT.out.next HG.out HW.out HX.out (j' := j + 1 + n.toNat) (by simp [Ver.nxts]) (by simp [Ver.lays, Ver.takes]) (Ver.exec_5 HX.out) (HT.out.mem.more ((Gr.refl _).alloc (Obj.cells #[Value.int .i64 5, Value.int .i64 n] 54)))
      go_wp2
      go_roundw
      case rel => exact ⟨j + 1 + n.toNat, _, k + 1, _, by go_num, rfl, Hend.out⟩
      case measure => simp [intOf]; omega
    · have E6 : Hid _ := Ver.exec_6 (code := p.code) (pool := p.pool) (t := t) (f := p.code.length - j - 1) (l := l) (k := k) HX.out
      have hE : R = (n, k + 1) := by
        rw [← E6.out, ← HT.out.eq]
        congr 1
        omega
      have hgE := HT.out.mem.gr
      clear E6
      go_wp2
      go_ret2
      rw [hE]
      exact ⟨rfl, hgE.alloc _⟩
end Go.Proofs.YtcpmbjlhblkniaaDoor
