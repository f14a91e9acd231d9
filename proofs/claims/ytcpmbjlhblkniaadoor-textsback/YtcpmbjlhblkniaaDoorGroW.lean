/- Contract: a tree is grown of parts (a closure that calls itself). -/
import Derived.Test.YtcpmbjlhblkniaaDoorGroM
import Derived.Test.YtcpmbjlhblkniaaDoorFinF
import Derived.Deep.RegionHeld3
namespace Go.Proofs.YtcpmbjlhblkniaaDoor
open Go.ChangeShapes Go.WideShapes Go.ChangeAt Go.RowKit Go.Maps
set_option linter.unusedVariables false
set_option maxRecDepth 100000
/-- Parts in a row: two numbers each. -/
structure PartsAt (w : World) (b o : Nat) (ps : List (Int × Int)) : Prop where
  cell : ∀ (i : Nat) x, ps[i]? = some x → w.cell? ⟨b, o + i * 2, none⟩ = some (.int .i64 x.1) ∧ w.cell? ⟨b, o + i * 2 + 1, none⟩ = some (.int .i64 x.2)
structure PartOk (many : Int) (x : Int × Int) : Prop where
  w1 : (Lit.int .i64 x.1).wf = true
  h0 : 0 ≤ x.2
  h1 : x.2 < many
theorem PartsAt.fg {base M lb : Nat} {w w' : World} {b o : Nat} {ps : List (Int × Int)} (h : PartsAt w b o ps) (hg : Fg base M lb w w') (hb : b < base) (h1 : b ≠ M) (h2 : b ≠ lb) : PartsAt w' b o ps :=
  ⟨fun i x hx => ⟨(World.cell?_of_block (w := w) (a := ⟨b, _, none⟩) (hg.block b hb h1 h2)).trans (h.cell i x hx).1, (World.cell?_of_block (w := w) (a := ⟨b, _, none⟩) (hg.block b hb h1 h2)).trans (h.cell i x hx).2⟩⟩
theorem PartsAt.take {w : World} {b o : Nat} {ps : List (Int × Int)} (h : PartsAt w b o ps) (k : Nat) : PartsAt w b o (ps.take k) :=
  ⟨fun i x hx => h.cell i x (by
    rw [List.getElem?_take] at hx
    split at hx
    · exact hx
    · cases hx)⟩
theorem PartsAt.drop {w : World} {b o : Nat} {ps : List (Int × Int)} (h : PartsAt w b o ps) (k : Nat) : PartsAt w b (o + k * 2) (ps.drop k) :=
  ⟨fun i x hx => by
    rw [List.getElem?_drop] at hx
    have := h.cell (k + i) x hx
    rwa [show o + (k + i) * 2 = o + k * 2 + i * 2 by omega] at this⟩
theorem Fg.refl (base M lb : Nat) (w : World) : Fg base M lb w w := ⟨rfl, rfl, Nat.le_refl _, fun _ _ _ _ => rfl⟩
theorem Fg.trans {base M lb : Nat} {a b c : World} (h : Fg base M lb a b) (k : Fg base M lb b c) : Fg base M lb a c :=
  ⟨k.os.trans h.os, k.out.trans h.out, Nat.le_trans h.size k.size, fun x h0 h1 h2 => (k.block x h0 h1 h2).trans (h.block x h0 h1 h2)⟩
theorem Fg.drewL {base M lb : Nat} {w w' : World} (h : Fg base M lb w.drew w') : Fg base M lb w w' := ⟨h.os, h.out, h.size, h.block⟩
theorem FinN.drew {w : World} {kb mb lb M base : Nat} {v : Value} {ns : List Tre.Nod} {D : DataW Unit} (h : FinN w kb mb lb M base v ns D) : FinN w.drew kb mb lb M base v ns D := h.gr (Gr.refl _).drew
set_option maxHeartbeats 3200000 in
theorem root_any (kb mb lb M base pb rb b many : Nat) (hpb : pb < base) (hpM : pb ≠ M) (hpl : pb ≠ lb) (hrb : rb < base) (hrM : rb ≠ M) (hrl : rb ≠ lb) (hbb : b < base) (hbM : b ≠ M) (hbl : b ≠ lb) (hmany : many ≤ 100000) :
    ∀ (n : Nat) (o cap : Nat) (ps : List (Int × Int)) (v : Value) (ns : List Tre.Nod) (D : DataW Unit) (w : World), ps.length ≤ n → 0 < ps.length → ns.length + 2 * ps.length ≤ 50000 → ps.length ≤ cap → cap ≤ 9223372036854775807 → FinN w kb mb lb M base v ns D → NG ns many → (∀ x ∈ ps, PartOk many x) → PartsAt w b o ps →
      w.heap[pb]? = some (.cells #[.func (.func 79) #[] #[.pointer (some ⟨kb, 0, none⟩), .pointer (some ⟨mb, 0, none⟩), .pointer (some ⟨lb, 0, none⟩)]] 129) →
      w.heap[rb]? = some (.cells #[.func (.func 78) #[] #[.pointer (some ⟨pb, 0, none⟩), .pointer (some ⟨rb, 0, none⟩)]] 150) →
      Calls Tryd.prog 78 #[.slice (some ⟨b, o, none⟩) ps.length cap, .pointer (some ⟨pb, 0, none⟩), .pointer (some ⟨rb, 0, none⟩)] w fun e w' =>
        ∃ (i : Nat) (v' : Value) (ns' : List Tre.Nod) (D' : DataW Unit), e = .returned (.int .i64 i) ∧ FinN w' kb mb lb M base v' ns' D' ∧ Fg base M lb w w' ∧ Grew many ns ns' i n ps := by
  intro n
  induction n with
  | zero => intro o cap ps v ns D w h1 h2; omega
  | succ n ih =>
    intro o cap ps v ns D w hn hp hlen hcap hcap2 hF hN hok hP hpx hrx
    have IH : Hid _ := ih
    clear ih
    obtain ⟨cp, _⟩ := row_all hpx
    obtain ⟨cr, _⟩ := row_all hrx
    have HPX : Hid _ := hpx
    have HRX : Hid _ := hrx
    clear hpx hrx
    by_cases h1 : ps.length = 1
    · match ps, h1 with
      | [p], _ =>
        obtain ⟨hc1, hc2⟩ := hP.cell 0 p rfl
        obtain ⟨pf, pa⟩ := p
        have hpo := hok (pf, pa) (by simp)
        simp at hc1 hc2
        have hnd : NodOk ⟨true, pa, 0, 0, 0⟩ := ⟨by have h0 := hpo.h0; have h1 := hpo.h1; simp only at h0 h1; exact WalkArith.wf_i64 ⟨by simp only; omega, by simp only; omega⟩, by show (Lit.int .i64 0).wf = true; decide, by show (Lit.int .i64 0).wf = true; decide, by show (Lit.int .i64 0).wf = true; decide⟩
        have HPL : Hid _ := fun W (h : FinN W kb mb lb M base v ns D) => place_any kb mb lb M base v ns D ⟨true, pa, 0, 0, 0⟩ W h hnd (by simp at hlen; omega)
        simp only [Nod.cells] at HPL
        simp only [List.length_singleton]
        go_enter Tryd.func78, Tryd.ntmps78
        go_upto_region 2 with fail
        have hO : w.cell? ⟨pb, 0, none⟩ = some (.func (.func 79) #[] #[.pointer (some ⟨kb, 0, none⟩), .pointer (some ⟨mb, 0, none⟩), .pointer (some ⟨lb, 0, none⟩)]) ∧ w.cell? ⟨b, o + 1, none⟩ = some (.int .i64 pa) := ⟨cp 0, hc2⟩
        go_region_held3 (fun w' => w'.cell? ⟨pb, 0, none⟩ = some (.func (.func 79) #[] #[.pointer (some ⟨kb, 0, none⟩), .pointer (some ⟨mb, 0, none⟩), .pointer (some ⟨lb, 0, none⟩)]) ∧ w'.cell? ⟨b, o + 1, none⟩ = some (.int .i64 pa)) (first | with_reducible exact hO | (simpa [go_sem] using hO))
          (first
            | (go_at_call 79; refine (HPL.out _ (hF.gr (by exact (Gr.refl _).drew))).mono ?_; rintro e w2 ⟨i, v', ns', D', rfl, hi, hor, hF2, hg2⟩; replace hO := And.intro ((World.cell?_of_block (w := w) (a := ⟨pb, 0, none⟩) (hg2.block pb hpb hpM hpl)).trans hO.1) ((World.cell?_of_block (w := w) (a := ⟨b, o + 1, none⟩) (hg2.block b hbb hbM hbl)).trans hO.2)))
        go_wp2
        go_ret
        exact ⟨i, v', ns', D', rfl, hF2, hg2.drewL, grew_leaf hN hpo.h0 hpo.h1 hor hi⟩
    · obtain ⟨k, hk⟩ : ∃ k : Nat, ps.length / 2 = k := ⟨_, rfl⟩
      have hkI : (ps.length : Int) / 2 = (k : Int) := by omega
      have hk1 : 1 ≤ k := by omega
      have hk2 : k < ps.length := by omega
      have hkm : ps.length - k ≤ n := by omega
      have i1 : (k : Int) ≤ (ps.length : Int) := by omega
      have i2 : (k : Int) ≤ (cap : Int) := by omega
      have i3 : (ps.length : Int) ≤ (cap : Int) := by omega
      have i4 : k ≤ ps.length := by omega
      have i5 : k ≤ cap := by omega
      have i6 : (0 : Int) ≤ (k : Int) := by omega
      have HKK : Hid _ := hk
      clear hk
      have g1 : ((ps.length : Int) == 1) = false := by simp; omega
      obtain ⟨⟨pf, pa⟩, hpk⟩ : ∃ x, ps[k]? = some x := ⟨_, List.getElem?_eq_getElem hk2⟩
      have hpo := hok _ (List.mem_of_getElem? hpk)
      have hcf := (hP.cell k _ hpk).1
      simp only at hcf
      have HPK : Hid _ := hpk
      clear hpk
      have A1 : Hid _ := fun (_ : Unit) => IH.out o cap (ps.take k) v ns D w.drew (by rw [List.length_take]; omega) (by rw [List.length_take]; omega) (by rw [List.length_take]; omega) (by rw [List.length_take]; omega) hcap2 hF.drew hN (fun x hx => hok x (List.mem_of_mem_take hx)) ((hP.take k).fg (Fg.ofGr (M := M) (lb := lb) ((Gr.refl w).drew) hF.size) hbb hbM hbl) HPX.out HRX.out
      rw [List.length_take, show min k ps.length = k from by omega] at A1
      have A2 : Hid _ := fun (v1 : Value) (n1 : List Tre.Nod) (D1 : DataW Unit) (W : World) (hl : n1.length + 2 * (ps.length - k) ≤ 50000) (h1 : FinN W kb mb lb M base v1 n1 D1) (h2 : NG n1 many) (h3 : Fg base M lb w W) => IH.out (o + k * 2) (cap - k) (ps.drop k) v1 n1 D1 W (by rw [List.length_drop]; exact hkm) (by rw [List.length_drop]; omega) (by rw [List.length_drop]; exact hl) (by rw [List.length_drop]; omega) (by omega) h1 h2 (fun x hx => hok x (List.mem_of_mem_drop hx)) ((hP.drop k).fg h3 hbb hbM hbl) ((h3.block pb hpb hpM hpl).trans HPX.out) ((h3.block rb hrb hrM hrl).trans HRX.out)
      rw [List.length_drop] at A2
      go_enter Tryd.func78, Tryd.ntmps78
      go_upto_region 4 with fail
      have hO : w.cell? ⟨rb, 0, none⟩ = some (.func (.func 78) #[] #[.pointer (some ⟨pb, 0, none⟩), .pointer (some ⟨rb, 0, none⟩)]) := cr 0
      have tok1 : True := trivial
      go_region_held3 (fun w' => w'.cell? ⟨rb, 0, none⟩ = some (.func (.func 78) #[] #[.pointer (some ⟨pb, 0, none⟩), .pointer (some ⟨rb, 0, none⟩)])) (first | with_reducible exact hO | (simpa [go_sem] using hO))
        (first
          | (go_at_call 78; have _t := tok1; refine (A1.out ()).mono ?_; rintro e w2 ⟨i, v1, n1, D1, rfl, hF1, hg1, hG1⟩; replace hO := (World.cell?_of_block (w := w) (a := ⟨rb, 0, none⟩) (hg1.block rb hrb hrM hrl)).trans hO; clear tok1 _t)
          | (go_at_call 78; refine (A2.out v1 n1 D1 w2 (by have := hG1.len; rw [List.length_take] at this; omega) hF1 hG1.ng hg1.drewL).mono ?_; rintro e w3 ⟨j, v2, n2, D2, rfl, hF2, hg2, hG2⟩; replace hO := (World.cell?_of_block (w := w2) (a := ⟨rb, 0, none⟩) (hg2.block rb hrb hrM hrl)).trans hO))
      have hgg := hg1.drewL.trans hg2
      have len1 := hG1.len
      have len2 := hG2.len
      rw [List.length_take] at len1
      rw [List.length_drop] at len2
      have lti := hG1.lt
      have ltj := hG2.lt
      have hnd : NodOk ⟨false, 0, pf, i, j⟩ := ⟨by show (Lit.int .i64 0).wf = true; decide, hpo.w1, WalkArith.wf_i64 ⟨by simp only; omega, by simp only; omega⟩, WalkArith.wf_i64 ⟨by simp only; omega, by simp only; omega⟩⟩
      have HPL : Hid _ := fun W (h : FinN W kb mb lb M base v2 n2 D2) => place_any kb mb lb M base v2 n2 D2 ⟨false, 0, pf, i, j⟩ W h hnd (by omega)
      simp only [Nod.cells] at HPL
      have hO2 : w3.cell? ⟨pb, 0, none⟩ = some (.func (.func 79) #[] #[.pointer (some ⟨kb, 0, none⟩), .pointer (some ⟨mb, 0, none⟩), .pointer (some ⟨lb, 0, none⟩)]) ∧ w3.cell? ⟨b, o + k * 2, none⟩ = some (.int .i64 pf) := ⟨(World.cell?_of_block (w := w) (a := ⟨pb, 0, none⟩) (hgg.block pb hpb hpM hpl)).trans (cp 0), (World.cell?_of_block (w := w) (a := ⟨b, o + k * 2, none⟩) (hgg.block b hbb hbM hbl)).trans hcf⟩
      clear hO cr cp hcf hP hF hN hok
      go_upto_region 5 with fail
      go_region_held3 (fun w' => w'.cell? ⟨pb, 0, none⟩ = some (.func (.func 79) #[] #[.pointer (some ⟨kb, 0, none⟩), .pointer (some ⟨mb, 0, none⟩), .pointer (some ⟨lb, 0, none⟩)]) ∧ w'.cell? ⟨b, o + k * 2, none⟩ = some (.int .i64 pf)) (first | with_reducible exact hO2 | (simpa [go_sem] using hO2))
        (first
          | (go_at_call 79; refine (HPL.out _ hF2.drew).mono ?_; rintro e w4 ⟨q, v3, n3, D3, rfl, hq, hor, hF3, hg3⟩; replace hO2 := And.intro ((World.cell?_of_block (w := w3) (a := ⟨pb, 0, none⟩) (hg3.block pb hpb hpM hpl)).trans hO2.1) ((World.cell?_of_block (w := w3) (a := ⟨b, o + k * 2, none⟩) (hg3.block b hbb hbM hbl)).trans hO2.2)))
      go_wp2
      go_ret
      have hget : ps.getD (ps.length / 2) (0, 0) = (pf, pa) := by rw [HKK.out, List.getD_eq_getElem?_getD, HPK.out]; rfl
      refine ⟨q, v3, n3, D3, rfl, hF3, hgg.trans hg3.drewL, grew_node (i := i) (j := j) (by omega) (by rw [HKK.out]; exact hG1) (by rw [HKK.out]; exact hG2) (by rw [hget]; exact hor) (by rw [hget]; exact hq)⟩
end Go.Proofs.YtcpmbjlhblkniaaDoor
