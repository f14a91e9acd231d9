/- Contracts: an instruction of a line (P5.8), by the program. -/
import Derived.Test.YtoolimfdadpmpaaDoorPrsM
import Derived.Lib.CutLaws
namespace Go.Proofs.YtoolimfdadpmpaaDoor
open Go.ChangeShapes Go.WideShapes Go.ChangeAt Go.RowKit
set_option linter.unusedVariables false
theorem lt_of_someE {w : World} {b : Nat} {o : Obj} (h : w.heap[b]? = some o) : b < w.heap.size := (Array.getElem?_eq_some_iff.1 h).1
/-- The library's variable holds some number. -/
def ML (w : World) : Prop := ∃ m, w.cell? ⟨1, 0, none⟩ = some (.int .i64 m)
theorem scut_any (s sep : ByteArray) (a b : List UInt8) (f : Bool) (w : World) (hw : ML w) (hs : s.size < 4294967281) (hc : Lib.cut s.data.toList sep.data.toList = (a, b, f)) :
    Calls Tryd.prog 18 #[.string s, .string sep] w fun e w' => e = .returned (.tuple #[.string ⟨a.toArray⟩, .string ⟨b.toArray⟩, .bool f]) ∧ ∃ n, w' = w.drewN n := by
  obtain ⟨m, hm⟩ := hw
  have := Tryd.strings_Cut s sep m w hs hm
  rw [hc] at this
  exact this
theorem size_mk (a : List UInt8) : (ByteArray.mk a.toArray).size = a.length := by simp [ByteArray.size]
/-- What Atoi and Cut lean on in memory. -/
structure Er (w : World) : Prop where
  syn : ∃ tp p, w.var? Tryd.prog "strconv.ErrSyntax" = some #[.iface tp p]
  rng : ∃ tp p, w.var? Tryd.prog "strconv.ErrRange" = some #[.iface tp p]
  ml : ML w
theorem synG : Tryd.prog.globalNamed "strconv.ErrSyntax" = some 2 := by kernel_rfl
theorem rngG : Tryd.prog.globalNamed "strconv.ErrRange" = some 3 := by kernel_rfl
theorem var_gr {w w' : World} (hg : Gr w w') {s : String} {g : Nat} (hG : Tryd.prog.globalNamed s = some g) {v : Array Value} (h : w.var? Tryd.prog s = some v) : w'.var? Tryd.prog s = some v := by
  unfold World.var? at h ⊢
  rw [hG] at h ⊢
  simp only [Option.bind_some] at h ⊢
  have hlt : g < w.heap.size := by
    rcases Nat.lt_or_ge g w.heap.size with k | k
    · exact k
    · have n : w.heap[g]? = none := Array.getElem?_eq_none k
      simp [n] at h
  rw [hg.block _ hlt]; exact h
theorem Er.gr {w w' : World} (h : Er w) (hg : Gr w w') : Er w' := by
  obtain ⟨t1, p1, h1⟩ := h.syn
  obtain ⟨t2, p2, h2⟩ := h.rng
  obtain ⟨m, hm⟩ := h.ml
  exact ⟨⟨t1, p1, var_gr hg synG h1⟩, ⟨t2, p2, var_gr hg rngG h2⟩, m, (hg.cell _ _ (Lib.lt_of_cell hm)).trans hm⟩
theorem cut_gr (s : List UInt8) (c : UInt8) (a b : List UInt8) (f : Bool) (w : World) (hE : Er w) (hs : s.length ≤ 200000) (hc : Lib.cut s [c] = (a, b, f)) :
    Calls Tryd.prog 18 #[.string ⟨s.toArray⟩, .string ⟨#[c]⟩] w fun e w' => e = .returned (.tuple #[.string ⟨a.toArray⟩, .string ⟨b.toArray⟩, .bool f]) ∧ Gr w w' := by
  refine (scut_any ⟨s.toArray⟩ ⟨#[c]⟩ a b f w hE.ml (by rw [size_mk]; omega) hc).mono ?_
  rintro e w' ⟨rfl, n, rfl⟩
  exact ⟨rfl, (Gr.refl _).drewN n⟩
theorem atoi_ok (d : List UInt8) (v : Int) (w : World) (hl : d.length ≤ 200000) (h : Lib.atoiAll d = .ok v) :
    Calls Tryd.prog 28 #[.string ⟨d.toArray⟩] w fun e w' => e = .returned (.tuple #[.int .i64 v, .nilIface]) ∧ Gr w w' := by
  refine (Tryd.strconv_Atoi_ok ⟨d.toArray⟩ (by rw [size_mk]; omega) v h w).mono ?_
  rintro e w' ⟨rfl, rfl | ⟨t, rfl⟩⟩
  · exact ⟨rfl, Gr.refl _⟩
  · exact ⟨rfl, Gr.ofBelow (Lib.bytesWorld_below _ _ _) (Nat.le_refl _)⟩
theorem atoi_no (d : List UInt8) (w : World) (hE : Er w) (hl : d.length ≤ 200000) (h : Lib.atoiAll d = .«syntax» ∨ Lib.atoiAll d = .range) :
    Calls Tryd.prog 28 #[.string ⟨d.toArray⟩] w fun e w' => (∃ v N, e = .returned (.tuple #[.int .i64 v, .iface 75 (.pointer (some ⟨N, 0, none⟩))])) ∧ Gr w w' := by
  rcases h with h | h
  · obtain ⟨tp, p, hv⟩ := hE.syn
    refine (Tryd.strconv_Atoi_syntax_var ⟨d.toArray⟩ (by rw [size_mk]; omega) h tp p w hv).mono ?_
    rintro e w' ⟨N, rfl, _, _, hb⟩
    exact ⟨⟨_, N, rfl⟩, Gr.ofBelow hb (Nat.le_refl _)⟩
  · obtain ⟨tp, p, hv⟩ := hE.rng
    refine (Tryd.strconv_Atoi_range_var ⟨d.toArray⟩ (by rw [size_mk]; omega) h tp p w hv).mono ?_
    rintro e w' ⟨N, rfl, _, _, hb⟩
    exact ⟨⟨_, N, rfl⟩, Gr.ofBelow hb (Nat.le_refl _)⟩
theorem field_name (s : ByteArray) (a b : Int) (c : Bool) (W : World) : (Instr.field 56 (.agg #[.string s, .int .i64 a, .int .i64 b, .bool c]) 0).run Tryd.prog W = .ok (.string s) W := by
  kernel_rfl
set_option maxHeartbeats 1600000 in
theorem named_any (a : List UInt8) (w : World) (hT : Opr w) :
    Calls Tryd.prog 27 #[.string ⟨a.toArray⟩] w fun e w' => e = .returned (.tuple #[.int .i64 (Prs.opOf a), .bool (decide (Prs.opOf a ≠ 0))]) ∧ Gr w w' := by
  have ho := Prs.opOf_in a
  have HN : Hid _ := fun (op : Int) (h1 : 1 ≤ op) (h2 : op ≤ 6) => Prs.opOf_nm (w := a) h1 h2
  obtain ⟨O, hO⟩ : ∃ O, Prs.opOf a = O := ⟨_, rfl⟩
  rw [hO] at ho ⊢
  simp only [hO] at HN
  clear hO
  go_enter Tryd.func27, Tryd.ntmps27
  go_wp2
  go_loopw [4] (fun t wr => ∃ k : Nat, 1 ≤ k ∧ k ≤ 7 ∧ t = .int .i64 k ∧ (O = 0 ∨ (k : Int) ≤ O) ∧ Gr w wr) (fun t _ => 7 - (intOf t).toNat)
  case atStart => exact ⟨1, by omega, by omega, rfl, by omega, Gr.refl _⟩
  case round =>
    obtain ⟨k, hk1, hk7, rfl, hO, hG⟩ := hrel
    by_cases hlt : k ≤ 6
    · have g3 : decide ((k : Int) ≤ 6) = true := by rw [decide_eq_true_iff]; omega
      have hn := HN.out k (by omega) (by omega)
      have en := Txl.opName_nm k
      have HO : Hid _ := fun W (h : Opr W) => operatorOf_any k W h (by omega) (by omega)
      rw [en] at HO
      clear en
      have hf := fun (A B : Int) (C : Bool) (W : World) => field_name ⟨(Txl.nm k).toArray⟩ A B C W
      by_cases hw : O = k
      · have ha : a = Txl.nm k := hn.2 hw
        have hO0 : O ≠ 0 := by omega
        subst ha
        clear hn HN
        go_wp2_with (go_at_call 23; refine (HO.out _ (hT.gr hG)).mono ?_; rintro e w2 ⟨rfl, hg2⟩)
        go_ret2
        exact ⟨by rw [hw]; simp; omega, hG.trans hg2⟩
      · have ha : ¬ Txl.nm k = a := fun e => hw (hn.1 e.symm)
        have hq : (Txl.nm k == a) = false := by simpa using ha
        clear hn HN
        go_wp2_with (go_at_call 23; refine (HO.out _ (hT.gr hG)).mono ?_; rintro e w2 ⟨rfl, hg2⟩)
        exact ⟨⟨k + 1, by omega, by omega, by go_num, by omega, hG.trans hg2⟩, by simp [intOf]; omega⟩
    · have g3 : decide ((k : Int) ≤ 6) = false := by rw [decide_eq_false_iff_not]; omega
      have h0 : O = 0 := by omega
      subst h0
      go_wp2
      go_ret2
      exact ⟨rfl, hG⟩
end Go.Proofs.YtoolimfdadpmpaaDoor
