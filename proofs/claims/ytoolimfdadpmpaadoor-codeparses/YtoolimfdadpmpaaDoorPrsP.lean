/- Contract: Parse (P5.8), by the program. -/
import Derived.Test.YtoolimfdadpmpaaDoorPrsR
namespace Go.Proofs.YtoolimfdadpmpaaDoor
open Go.ChangeShapes Go.WideShapes Go.ChangeAt Go.RowKit
set_option linter.unusedVariables false
structure PrsPost (w : World) (R : Except (Int × Int) (List Ins)) (en : Ending) (w' : World) : Prop where
  ex : (∃ i x, R = .error (i, x) ∧ en = .returned (.tuple #[.slice none 0 0, .int .i64 i, .int .i64 x])) ∨ (∃ l a cap, R = .ok l ∧ en = .returned (.tuple #[.slice a l.length cap, .int .i64 0, .int .i64 0]) ∧ InssAt w' a l)
  gr : Gr w w'
structure PrsL (w wr : World) (R : Except (Int × Int) (List Ins)) (s : List UInt8) (L : List Ins) (v : Value) : Prop where
  res : R = Prs.more L (Prs.res (Prs.parts 10 s) L.length)
  own : wr.ownsRow w.heap.size 36 2 v L.length (insC L)
  len : L.length ≤ 8000
  siz : s.length ≤ 200000
  gr : Gr w wr
theorem prs_ok {R : Except (Int × Int) (List Ins)} {L : List Ins} {k : Nat} (h : R = Prs.more L (Prs.res (Prs.parts 10 []) k)) : R = .ok L := by
  have e : Prs.parts 10 [] = [[]] := by simp [Prs.parts]
  rw [h, e, Prs.res_end]
  simp [Prs.more]
theorem prs_short {R : Except (Int × Int) (List Ins)} {L : List Ins} {s : List UInt8} (hs : s ≠ []) (hn : (10 : UInt8) ∉ s) {k : Nat} (h : R = Prs.more L (Prs.res (Prs.parts 10 s) k)) : R = .error ((k : Int) + 1, 5) := by
  rw [h, Prs.parts_none hn, Prs.res_last hs]
  rfl
theorem prs_many {R : Except (Int × Int) (List Ins)} {L : List Ins} {a r : List UInt8} (ha : (10 : UInt8) ∉ a) {k : Nat} (hk : 8000 ≤ k) (h : R = Prs.more L (Prs.res (Prs.parts 10 (a ++ 10 :: r)) k)) : R = .error ((k : Int) + 1, 1) := by
  rw [h, Prs.parts_cut ha, Prs.res_many (Prs.parts_ne 10 r) hk]
  rfl
theorem prs_bad {R : Except (Int × Int) (List Ins)} {L : List Ins} {a r : List UInt8} (ha : (10 : UInt8) ∉ a) {k : Nat} (hk : ¬ 8000 ≤ k) {e : Int} (hi : Prs.ins a = .error e) (h : R = Prs.more L (Prs.res (Prs.parts 10 (a ++ 10 :: r)) k)) : R = .error ((k : Int) + 1, e) := by
  rw [h, Prs.parts_cut ha, Prs.res_bad (Prs.parts_ne 10 r) hk hi]
  rfl
theorem prs_on {R : Except (Int × Int) (List Ins)} {L : List Ins} {a r : List UInt8} (ha : (10 : UInt8) ∉ a) (hk : ¬ 8000 ≤ L.length) {x : Ins} (hi : Prs.ins a = .ok x) (h : R = Prs.more L (Prs.res (Prs.parts 10 (a ++ 10 :: r)) L.length)) : R = Prs.more (L ++ [x]) (Prs.res (Prs.parts 10 r) (L ++ [x]).length) := by
  rw [h, Prs.parts_cut ha, Prs.res_on (Prs.parts_ne 10 r) hk hi, Prs.more_more]
  simp
set_option maxHeartbeats 3200000 in
theorem parse_any (s : List UInt8) (w : World) (hS : s.length ≤ 9223372036854775807) (hT : Opr w) (hP : Po w) (hE : Er w) :
    Calls Tryd.prog 7 #[.string ⟨s.toArray⟩] w (PrsPost w (Prs.parse s)) := by
  have hsz := size_mk s
  by_cases hl : 200000 < s.length
  · have E1 : Hid (Prs.parse s = .error (0, 1)) := if_pos hl
    have g : decide (200000 < ((s.length : Nat) : Int)) = true := by rw [decide_eq_true_iff]; omega
    go_enter Tryd.func7, Tryd.ntmps7
    go_wp2
    refine bodyPost_ret (v := .tuple #[.slice none 0 0, .int .i64 0, .int .i64 1]) (by simp [results, Tryd.results7, go_sem]) rfl ⟨Or.inl ⟨0, 1, E1.out, rfl⟩, Gr.refl _⟩
  · have g : decide (200000 < ((s.length : Nat) : Int)) = false := by rw [decide_eq_false_iff_not]; omega
    have E0 : Hid (PrsL w w (Prs.parse s) s [] (.slice none 0 0)) := ⟨by rw [Prs.more_nil]; exact if_neg hl, ⟨by simp [insC], Or.inl ⟨rfl, rfl⟩⟩, by simp, by omega, Gr.refl _⟩
    obtain ⟨R, hR⟩ : ∃ R, Prs.parse s = R := ⟨_, rfl⟩
    rw [hR] at E0 ⊢
    clear hR
    obtain ⟨i0, hi, hi1, hi2, hi3⟩ := Tryd.infoIns
    go_enter Tryd.func7, Tryd.ntmps7
    go_wp2_with fail
    go_loopw [0, 5] (fun sv v wr => ∃ (t : List UInt8) (L : List Ins), sv = .string ⟨t.toArray⟩ ∧ PrsL w wr R t L v) (fun sv _ _ => strLen sv)
    case atStart => exact ⟨s, [], rfl, E0.out⟩
    case round =>
      obtain ⟨t, L, rfl, hrl⟩ := hrel
      obtain ⟨va, vcap, hv⟩ := owns_formK hrl.own
      subst hv
      have HR : Hid _ := hrl
      have hL := hrl.len
      have ht := hrl.siz
      have hws := hrl.gr.size
      clear E0 hrl g hl
      by_cases h0 : t = []
      · subst h0
        have HE0 : Hid _ := prs_ok HR.out.res
        go_wp2
        refine bodyPost_ret (v := .tuple #[.slice va L.length vcap, .int .i64 0, .int .i64 0]) (by simp [results, Tryd.results7, go_sem]) rfl ⟨Or.inr ?_, HR.out.gr⟩
        obtain ⟨a', cap', e1, e2, e3⟩ := owns_inss HR.out.own
        cases e1
        exact ⟨L, va, vcap, HE0.out, rfl, e3⟩
      · have g0 : (t == []) = false := by simpa using h0
        have HEr : Hid _ := hE.gr HR.out.gr
        rcases Prs.cut_case 10 t with ⟨h1, h2⟩ | ⟨a, r, h1, h2, h3⟩
        · have HE0 : Hid _ := prs_short h0 h1 HR.out.res
          have HC : Hid _ := fun (_ : Unit) => cut_gr t 10 t [] false wr HEr.out ht h2
          clear h1 h2 h0
          go_wp2_with (go_at_call 18; refine (HC.out ()).mono ?_; rintro e w1 ⟨rfl, hg1⟩)
          refine bodyPost_ret (v := .tuple #[.slice none 0 0, .int .i64 ((L.length : Int) + 1), .int .i64 5]) (by simp [results, Tryd.results7, go_sem]) rfl ⟨Or.inl ⟨_, _, HE0.out, rfl⟩, HR.out.gr.trans hg1⟩
        · have HC : Hid _ := fun (_ : Unit) => cut_gr t 10 a r true wr HEr.out ht h3
          have HRs : Hid _ := HR.out.res
          subst h1
          have hla : a.length ≤ 200000 := by simp at ht; omega
          have hlr : r.length ≤ 200000 := by simp at ht; omega
          have hsl : r.length < (a ++ 10 :: r).length := by simp; omega
          clear h0 h3
          by_cases hk : L.length = 8000
          · have HE0 : Hid _ := prs_many h2 (by omega) HRs.out
            have HE1 : Hid (R = .error (8001, 1)) := by show R = _; rw [HE0.out, hk]; rfl
            have g1 : ((L.length : Int) == 8000) = true := by simp; omega
            clear HRs HE0
            go_wp2_with (go_at_call 18; refine (HC.out ()).mono ?_; rintro e w1 ⟨rfl, hg1⟩)
            refine bodyPost_ret (v := .tuple #[.slice none 0 0, .int .i64 8001, .int .i64 1]) (by simp [results, Tryd.results7, go_sem]) rfl ⟨Or.inl ⟨_, _, HE1.out, rfl⟩, HR.out.gr.trans hg1⟩
          · have g1 : ((L.length : Int) == 8000) = false := by simp; omega
            have HI : Hid _ := fun W (h : Gr w W) => instructionT_any a W hla (hT.gr h) (hP.gr h) (hE.gr h)
            cases hins : Prs.ins a with
            | error e =>
              have HE0 : Hid _ := prs_bad h2 (by omega) hins HRs.out
              have he := Prs.ins_err hins
              have g2 : (e != 0) = true := by simp; omega
              rw [hins] at HI
              clear HRs hins
              go_wp2_with (first | (go_at_call 18; refine (HC.out ()).mono ?_; rintro e w1 ⟨rfl, hg1⟩) | (go_at_call 19; refine (HI.out _ (HR.out.gr.trans hg1)).mono ?_; rintro e w2 ⟨rfl, hg2⟩; simp only [insR]))
              refine bodyPost_ret (v := .tuple #[.slice none 0 0, .int .i64 ((L.length : Int) + 1), .int .i64 e]) (by simp [results, Tryd.results7, go_sem]) rfl ⟨Or.inl ⟨_, _, HE0.out, rfl⟩, ((HR.out.gr.trans hg1).trans hg2).alloc _⟩
            | ok x =>
              have HE0 : Hid _ := prs_on h2 (by omega) hins HRs.out
              rw [hins] at HI
              obtain ⟨op, n⟩ := x
              clear HRs hins
              go_upto_region 11 with (first | (go_at_call 18; refine (HC.out ()).mono ?_; rintro e w1 ⟨rfl, hg1⟩) | (go_at_call 19; refine (HI.out _ (HR.out.gr.trans hg1)).mono ?_; rintro e w2 ⟨rfl, hg2⟩; simp only [insR]))
              obtain ⟨W2, hW2⟩ : ∃ W2, W2 = w2.alloc (Obj.cells #[.int .i64 op, .int .i64 n] 36) := ⟨_, rfl⟩
              have G2 : Gr wr W2 := by rw [hW2]; exact (hg1.trans hg2).alloc _
              have kx : W2.heap[w2.heap.size]? = some (.cells #[.int .i64 op, .int .i64 n] 36) := by rw [hW2]; exact heapA _ _
              rw [← hW2]
              obtain ⟨cx, fx⟩ := row_all kx
              have HOW : Hid _ := fun (_ : Unit) => owns_gr HR.out.own G2
              have hz2 := G2.size
              clear hW2 HC HI hg1 hg2 kx
              go_wp2_with (at_builtin; (refine wpList_append_lies _ rfl _ _ _ rfl w.heap.size 36 i0 _ 2 16 Tryd.underlying22 hi hi1 hi2 hi3 rfl (by decide) _ L.length (insC L) (by rfl) (owns_gr (HOW.out ()) (by exact (Gr.refl _).alloc _)) ⟨_, 0, none⟩ 1 1 [.int .i64 op, .int .i64 n] (by rfl) (by rfl) (World.news_of_block (cs := #[.int .i64 op, .int .i64 n]) (heapA _ _)) (by simp [Value.oneCell']) (by omega) (by unfold maxLen; omega) (by omega) (by simp; omega) _ rfl ?_))
              intro g cap' w3 hown3 hgrow hat hlt3
              have hrow : ∀ x, (Value.slice va L.length vcap).ownBlock = some x → w.heap.size ≤ x := fun x hx => (owns_lt HR.out.own hx).1
              have G3 : Gr w w3 := ((HR.out.gr.trans G2).alloc _).by_ hgrow hrow
              have Hend : Hid _ := And.intro G3 hown3
              clear hown3 hgrow hat hrow G3 cx fx
              go_wp2
              go_roundw
              case rel =>
                refine ⟨r, L ++ [⟨op, n⟩], rfl, HE0.out, ?_, by simp; omega, hlr, Hend.out.1⟩
                rw [insC_app, List.length_append, List.length_singleton]
                exact Hend.out.2
              case measure => simpa [strLen, size_mk] using hsl
end Go.Proofs.YtoolimfdadpmpaaDoor
