/- Contract: a tree of parts, grown whole. -/
import Derived.Test.YthnbmeihaojfnaaCmp
import Derived.Laws.EntriesVeiled
namespace Go.Proofs.Ythnbmeihaojfnaa
open Go.ChangeShapes Go.WideShapes Go.ChangeAt Go.RowKit Go.Maps
set_option linter.unusedVariables false
set_option maxRecDepth 100000
/-- What growing a tree answers. -/
structure GrowPost (b many : Nat) (ps : List (Int × Int)) (w w' : World) (e : Ending) (ns : List Tre.Nod) (v : Value) (base : Nat) : Prop where
  ret : e = .returned v
  row : w'.ownsRow base 71 5 v ns.length (nodL ns)
  base : w.heap.size ≤ base
  ok : ∀ n ∈ ns, NodOk n
  cg : Cg b w w'
  grew : Grew many [] ns (ns.length - 1) (compact ps).length (compact ps)
  len : 0 < ns.length
  nodup : ns.Nodup
theorem Cg.byFg {b base M lb : Nat} {w w1 w2 : World} (h : Cg b w w1) (g : Fg base M lb w1 w2) (h1 : w.heap.size ≤ base) (h2 : w.heap.size ≤ M) (h3 : w.heap.size ≤ lb) : Cg b w w2 :=
  ⟨g.os.trans h.os, g.out.trans h.out, Nat.le_trans h.size g.size, fun x hx hd => (g.block x (by omega) (by omega) (by omega)).trans (h.block x hx hd)⟩
theorem FinN.rebase {w : World} {kb mb lb M base b2 : Nat} {D : DataW Unit} (h : FinN w kb mb lb M base (.slice none 0 0) [] D) (h1 : base ≤ b2) (h2 : b2 ≤ w.heap.size) : FinN w kb mb lb M b2 (.slice none 0 0) [] D :=
  ⟨h.kbox, h.mbox, h.lbox, ⟨h.row.1, Or.inl ⟨rfl, rfl⟩⟩, h.map, h.isMap, h.ok, h.has, h.at_, h.nodup, Nat.lt_of_lt_of_le h.k1 h1, Nat.lt_of_lt_of_le h.m1 h1, Nat.lt_of_lt_of_le h.l1 h1, Nat.lt_of_lt_of_le h.M1 h1, h.ne1, h.ne2, h2⟩
theorem ng_nil (many : Int) : NG [] many := ⟨fun i nd h => by simp at h⟩
set_option maxHeartbeats 3200000 in
theorem grow_any (b cap many : Nat) (cs : Array Value) (ps : List (Int × Int)) (w : World) (hb : b < w.heap.size) (hrow : w.heap[b]? = some (.cells cs 66)) (hp : CmpR cs ps 0) (h0 : 0 < ps.length) (hn : ps.length ≤ 20000) (hcap : ps.length ≤ cap) (hcap' : cap ≤ 9223372036854775807) (hmany : many ≤ 100000) (hok : ∀ x ∈ ps, PartOk many x) (hR : Rise ps) :
    Calls Try.prog 23 #[.slice (some ⟨b, 0, none⟩) ps.length cap] w fun e w' => ∃ ns v base, GrowPost b many ps w w' e ns v base := by
  have H1 : Hid _ := fun W (hg : Gr w W) => compactFunc_any b cap cs ps W (Nat.lt_of_lt_of_le hb hg.size) ((hg.block b hb).trans hrow) hp h0 (by omega) hcap hcap'
  have H2 : Hid _ := fun W => finder_any W
  have hcl := compact_len ps
  have hcn : 0 < (compact ps).length := List.length_pos_iff.2 (compact_ne (List.length_pos_iff.1 h0))
  have hcok : ∀ x ∈ compact ps, PartOk many x := fun x hx => by
    cases ps with
    | nil => simp [compact] at hx
    | cons p r =>
      rcases List.mem_cons.1 hx with rfl | hx
      · exact hok _ (by simp)
      · exact hok x (List.mem_cons_of_mem _ ((comp_sub p.2 r).subset hx))
  go_enter Try.func23, Try.ntmps23
  go_wp2_with fail
  refine (H1.out _ (Gr.refl _)).mono ?_
  rintro e w1 ⟨rfl, hP1, hg1⟩
  go_wp2_with fail
  refine (H2.out _).mono ?_
  rintro e w2 ⟨kb, mb, lb, M, base, rfl, hF, hk, hl, hM, hbase, hg2⟩
  go_wp2_with fail
  obtain ⟨q, hq⟩ : ∃ q, (compact ps).length = q := ⟨_, rfl⟩
  have HR : Hid _ := fun W (h1 : W.heap[w2.heap.size]? = _) (h2 : W.heap[w2.heap.size + 1]? = _) (hg : Gr w2 W) (hs : W.heap.size = w2.heap.size + 2) => root_any kb mb lb M (w2.heap.size + 2) w2.heap.size (w2.heap.size + 1) b many (by omega) (by have := hF.M1; omega) (by have := hF.l1; omega) (by omega) (by have := hF.M1; omega) (by have := hF.l1; omega) (by have := hg1.size; have := hg2.size; omega) (by have := hg1.size; omega) (by have := hg1.size; omega) hmany (compact ps).length 0 cap (compact ps) _ [] _ W (Nat.le_refl _) hcn (by simp; omega) (by omega) hcap' ((hF.gr hg).rebase (by omega) (by omega)) (ng_nil _) hcok ((hP1.gr hg2 (Nat.lt_of_lt_of_le hb hg1.size)).gr hg (by have := hg1.size; have := hg2.size; omega)) h1 h2
  have HS := hg1.size
  have HS2 := hg2.size
  refine (HR.out _ (by exact heapB ..) (by exact heapC ..) (by repeat (with_reducible first | exact Gr.refl _ | refine Gr.alloc ?_ _ | refine Gr.setCell ?_ (by simp) _)) (by simp)).mono ?_
  rintro e w4 ⟨i, v, ns, D', rfl, hF4, hfg, hG⟩
  have HL : Hid _ := fun (_ : Unit) => listed_any kb mb lb M (w2.heap.size + 2) v ns D' w4 hF4
  have hcgx : Cg b w w4 := ((hg1.trans (Cg.ofGr hg2)).trans (Cg.ofGr (by repeat (with_reducible first | exact Gr.refl _ | refine Gr.alloc ?_ _ | refine Gr.setCell ?_ (by simp) _)))).byFg hfg (by omega) (by omega) (by omega)
  go_wp2_with fail
  refine (HL.out ()).mono ?_
  rintro e w5 ⟨rfl, rfl⟩
  go_wp2
  have hl := hG.last rfl (compact_rise hR).tail
  refine bodyPost_ret (v := v) (by simp [results, Try.results23, go_sem]) rfl ⟨ns, v, w2.heap.size + 2, rfl, hF4.row, by omega, hF4.ok, hcgx, ?_, by omega, hF4.nodup⟩
  rw [show ns.length - 1 = i by omega]; exact hG
end Go.Proofs.Ythnbmeihaojfnaa
