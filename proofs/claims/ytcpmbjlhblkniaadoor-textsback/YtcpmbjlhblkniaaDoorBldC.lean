/- Contracts: a strings.Builder that the call owns: what every writing method asks first. -/
import Derived.Test.YtcpmbjlhblkniaaDoorEncM
import Derived.Test.YtcpmbjlhblkniaaDoorShelf
import Derived.Deep.Cut
import Derived.Lib.Builder
import Derived.Lib.AppendStr
import Derived.Lib.UnsafeStr
import Derived.WalkKit
import Derived.Laws.Externs
namespace Go.Proofs.YtcpmbjlhblkniaaDoor
open Go.RowKit
set_option linter.unusedVariables false
set_option maxRecDepth 100000
theorem Tryd.sizeBld : ∃ j, Tryd.prog.info? 74 = some j ∧ j.size = 2 := ⟨_, rfl, by kernel_rfl⟩
set_option maxRecDepth 100000 in
set_option maxHeartbeats 1600000 in
theorem copyCheck_used (b : Nat) (w : World) (h0 : w.cell? ⟨b, 0, none⟩ = some (.pointer (some ⟨b, 0, none⟩))) :
    Calls Tryd.prog 49 #[.pointer (some ⟨b, 0, none⟩)] w fun e w' => e = .returned (.tuple #[]) ∧ w' = w := by
  obtain ⟨j, hj, _⟩ := Tryd.sizeBld
  go_enter Tryd.func49, Tryd.ntmps49
  go_wp2
  rw [Lib.run_neq_ptr_same w _ Tryd.underlying71 hj]
  go_wp2
  go_end0
  exact ⟨rfl, rfl⟩
set_option maxRecDepth 100000 in
set_option maxHeartbeats 1600000 in
theorem copyCheck_new (b : Nat) (w : World) (h0 : w.cell? ⟨b, 0, none⟩ = some (.pointer none)) (hsh : w.shape? b = some (74, 2)) (hfz : w.frozen? ⟨b, 0, none⟩ = false) :
    Calls Tryd.prog 49 #[.pointer (some ⟨b, 0, none⟩)] w fun e w' => e = .returned (.tuple #[]) ∧ w' = w.setCell ⟨b, 0, none⟩ (.pointer (some ⟨b, 0, none⟩)) := by
  obtain ⟨j, hj, hjs⟩ := Tryd.sizeBld
  go_enter Tryd.func49, Tryd.ntmps49
  go_wp2
  rw [Lib.run_to_unsafe w ⟨b, 0, none⟩ Tryd.underlying71 Tryd.underlying140 hj (by rw [hjs]; decide) hsh (Nat.zero_lt_succ 1)]
  simp only [Result.andThen]
  rw [Oper.upon_value]
  go_wp2
  rw [run_callFunc_extern Tryd.func68 (by kernel_rfl) (by kernel_rfl) (by kernel_rfl) (e := Extern.AbiNoEscape.same) (by kernel_rfl)]
  rw [Lib.run_noEscape]
  simp only [Result.andThen]
  rw [Oper.upon_value]
  go_wp2
  rw [Lib.run_from_unsafe w ⟨b, 0, none⟩ Tryd.underlying140 Tryd.underlying71 hj hsh (by kernel_rfl)]
  simp only [Result.andThen]
  rw [Oper.upon_value]
  go_wp2
  go_end0
  exact ⟨rfl, rfl⟩
abbrev BldT : TypeId := 74
/-- A builder that the call owns (its block is b, from B on), the bytes that it holds, and an older memory W that lies on. -/
structure Bld (W w : World) (B b : Nat) (l : List UInt8) : Prop where
  at_ : Lib.IsBuilder BldT 5 B b (Lib.byteCells l) w
  gr : Gr W w
  old : W.heap.size ≤ B
  base : B ≤ w.heap.size
theorem copyCheck_any (W : World) (B b : Nat) (bs : List Value) (w : World) (h : Lib.IsBuilder BldT 5 B b bs w) (hg : Gr W w) (ho : W.heap.size ≤ B) :
    Calls Tryd.prog 49 #[.pointer (some ⟨b, 0, none⟩)] w fun e w' => e = .returned (.tuple #[]) ∧ Lib.BuilderAt BldT 5 B b (.pointer (some ⟨b, 0, none⟩)) bs w' ∧ Gr W w' ∧ w'.heap.size = w.heap.size := by
  rcases h with h | h
  · refine (copyCheck_new b w h.cell0 h.shape h.frozen0).mono ?_
    rintro e w' ⟨rfl, rfl⟩
    exact ⟨rfl, h.used _, hg.setCell (Nat.le_trans ho h.1) _, by simp [World.setCell]⟩
  · refine (copyCheck_used b w h.cell0).mono ?_
    rintro e w' ⟨rfl, rfl⟩
    exact ⟨rfl, h, hg, rfl⟩
theorem own_form {w : World} {base : Nat} {e : TypeId} {size : Nat} {v : Value} {n : Nat} {xs : List Value} (h : w.ownsRow base e size v n xs) : ∃ a k cap, v = .slice a k cap := by
  rcases h.2 with ⟨rfl, rfl⟩ | ⟨g, cap, cur, rfl, _⟩
  · exact ⟨none, 0, 0, rfl⟩
  · exact ⟨_, _, _, rfl⟩
theorem Tryd.infoByteW : ∃ i, Tryd.prog.info? 5 = some i ∧ i.zero = some (.int .u8 0) ∧ i.size = 1 ∧ i.bytes = 1 :=
  ⟨_, rfl, by kernel_rfl, by kernel_rfl, by kernel_rfl⟩
set_option maxRecDepth 100000 in
set_option maxHeartbeats 1600000 in
theorem writeString_any (W : World) (B b : Nat) (l m : List UInt8) (w : World) (h : Bld W w B b l) (hlen : l.length + m.length ≤ 100000000000) :
    Calls Tryd.prog 25 #[.pointer (some ⟨b, 0, none⟩), .string ⟨m.toArray⟩] w fun e w' => e = .returned (.tuple #[.int .i64 m.length, .nilIface]) ∧ Bld W w' B b (l ++ m) := by
  obtain ⟨i0, hi, hz0, hz1, hz2⟩ := Tryd.infoByteW
  have HC : Hid _ := fun (_ : Unit) => copyCheck_any W B b (Lib.byteCells l) w h.at_ h.gr h.old
  have hsz : (⟨m.toArray⟩ : ByteArray).size = m.length := by simp [ByteArray.size]
  have hbl : (Lib.byteCells l).length = l.length := by simp [Lib.byteCells]
  have hold := h.old
  have hbase := h.base
  clear h
  go_enter Tryd.func25, Tryd.ntmps25
  go_upto_region 2 with (go_at_call 49; refine (HC.out ()).mono ?_; rintro e w1 ⟨rfl, h1, hg1, hzw⟩)
  obtain ⟨hB, v, hbk, hown, hne⟩ := h1
  have c0 : w1.cell? ⟨b, 0, none⟩ = some (.pointer (some ⟨b, 0, none⟩)) := by rw [Lib.cell_of_heap hbk]; rfl
  have c1 : w1.cell? ⟨b, 1, none⟩ = some v := by rw [Lib.cell_of_heap hbk]; rfl
  have zb : b < w1.heap.size := (Array.getElem?_eq_some_iff.1 hbk).1
  have zB : B ≤ w1.heap.size := by omega
  clear HC
  go_wp2_with (at_builtin; (refine Lib.wpList_append_own_string _ rfl _ _ 72 9 rfl B 5 i0 Tryd.underlying72 Tryd.underlying9 hi hz0 hz1 hz2 _ _ _ rfl hown ⟨m.toArray⟩ rfl (by unfold maxLen; omega) (by omega) zB ?_; intro v2 w2 hown2 hgrow _; have hbk2 := (hgrow.block b zb (fun e => hne e.symm)).trans hbk; have c2 : w2.cell? ⟨b, 1, none⟩ = some v := (by rw [Lib.cell_of_heap hbk2]; rfl); have f2 := Lib.frozen_of_heap hbk2 1; have gw2 := hg1.by_ hgrow (fun k hk => Nat.le_trans hold (owns_lt hown hk).1); have zw2 := hgrow.size; obtain ⟨a2, n2, k2, hv2⟩ := own_form hown2; subst hv2))
  have HE : Hid _ := fun (_ : Unit) => Lib.BuilderAt.put hB hbk2 (bs' := Lib.byteCells (l ++ m)) (by have e1 : Lib.byteCells (l ++ m) = Lib.byteCells l ++ Lib.strCells ⟨m.toArray⟩ := (by simp [Lib.byteCells, Lib.strCells]); rw [e1, List.length_append]; simpa [Lib.strCells, hsz] using hown2) (by decide : BldT ≠ 5)
  clear hown hown2 hgrow hbk hbk2
  go_wp2
  go_ret2
  refine ⟨by rw [← hsz]; rfl, Or.inr (HE.out ()), gw2.setCell (Nat.le_trans hold hB) _, hold, ?_⟩
  simp [World.setCell]
  omega
end Go.Proofs.YtcpmbjlhblkniaaDoor
