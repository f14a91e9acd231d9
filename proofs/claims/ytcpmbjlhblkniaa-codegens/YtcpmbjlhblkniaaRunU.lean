/- Contract: what a program that may be run tells (P5.4), by the program: the loop. -/
import Derived.Test.YtcpmbjlhblkniaaRunT
import Derived.Test.YtcpmbjlhblkniaaStB
import Derived.Deep.RegionHeld3
import Derived.Deep.Cut
namespace Go.Proofs.Ytcpmbjlhblkniaa
open Go.ChangeShapes Go.WideShapes Go.ChangeAt Go.RowKit
set_option linter.unusedVariables false
set_option maxRecDepth 100000
structure TolR (p : Prg) (on : Ver.On) (R : Int × Int) (t : Int) (w wr : World) (j : Nat) (l : List Int) (k : Int) (v : Value) : Prop where
  mem : TolM p w wr v l
  at_ : Ver.At p on j l k
  eq : Ver.exec p.code p.pool t (p.code.length - j) j l k = R
theorem TolR.next {p : Prg} {on : Ver.On} {R : Int × Int} {t : Int} {w wr wr' : World} {j j' : Nat} {l l' : List Int} {k : Int} {v v' : Value} {s m op n : Int} (hG : Ver.Good p) (hw : Ver.Ways p.code.length p.code on p.code.length s m)
    (h : TolR p on R t w wr j l k v) (hx : p.code[j]? = some ⟨op, n⟩) (hj : j' ∈ Ver.nxts op n j) (hl : (l'.length : Int) = l.length + (Ver.lays op - Ver.takes op)) (he : Ver.exec p.code p.pool t (p.code.length - j - 1 + 1) j l k = Ver.exec p.code p.pool t (p.code.length - j - 1) j' l' (k + 1)) (hm : TolM p w wr' v' l') :
    TolR p on R t w wr' j' l' (k + 1) v' := by
  have hn := h.at_.next hG hw hx hj hl
  have hlt := h.at_.lt
  have hgt := Ver.nxts_gt hj
  refine ⟨hm, hn, ?_⟩
  rw [← h.eq, show p.code.length - j = p.code.length - j - 1 + 1 by omega, he]
  exact Ver.exec_fuel _ _ _ _ _ (by omega) (by omega)
theorem TolR.start {p : Prg} {on : Ver.On} {t : Int} {w wr : World} {v : Value} {s m : Int} (hG : Ver.Good p) (hw : Ver.Ways p.code.length p.code on p.code.length s m) (hm : TolM p w wr v []) : TolR p on (Ver.ran p t) t w wr 0 [] 0 v :=
  ⟨hm, Ver.At.start hG hw, rfl⟩
theorem lt_of_someR {w : World} {b : Nat} {o : Obj} (h : w.heap[b]? = some o) : b < w.heap.size := (Array.getElem?_eq_some_iff.1 h).1
/-- Slots of the region that lays a number of the pool. -/
def Fi12 (va : Option Addr) (ln vcap pb0 : Nat) (pa : Option Addr) (pn pcap xb pb po : Nat) (n z : Int) (n0 : Nat) : Tmp → Value → World → Prop
  | 33, v, _ => v = .slice va ln vcap
  | 34, v, _ => v = .pointer (some ⟨pb0, 1, none⟩)
  | 35, v, _ => v = .slice pa pn pcap
  | 36, v, _ => v = .pointer (some ⟨xb, 1, none⟩)
  | 37, v, _ => v = .int .i64 n
  | 38, v, _ => v = .pointer (some ⟨pb, po + n.toNat, none⟩)
  | 39, v, _ => v = .int .i64 z
  | 40, v, w => ∃ g, v = .slice (some ⟨g, 0, none⟩) 1 1 ∧ n0 ≤ g ∧ w.heap[g]? = some (.cells #[.int .i64 z] 3)
  | _, _, _ => True
theorem Fi12.mono {va : Option Addr} {ln vcap pb0 : Nat} {pa : Option Addr} {pn pcap xb pb po : Nat} {n z : Int} {n0 : Nat} (d : Tmp) (v : Value) (w w' : World) (hg : Gr w w') (h : Fi12 va ln vcap pb0 pa pn pcap xb pb po n z n0 d v w) : Fi12 va ln vcap pb0 pa pn pcap xb pb po n z n0 d v w' := by
  unfold Fi12 at h ⊢
  split at h
  all_goals first | exact h | trivial | (obtain ⟨g, e, hn, hr⟩ := h; exact ⟨g, e, hn, (hg.block g (lt_of_someR hr)).trans hr⟩)
/-- Slots of the region that holds two numbers against each other. -/
def Fi16 (va : Option Addr) (ln vcap : Nat) (y z : Int) (n0 : Nat) : Tmp → Value → World → Prop
  | 48, v, _ => v = .slice va ln vcap
  | 49, v, _ => v = .int .i64 y
  | 50, v, _ => v = .int .i64 z
  | 51, v, _ => v = .bool (decide (y < z))
  | 52, v, _ => v = .int .i64 (if decide (y < z) = true then 1 else 0)
  | 53, v, w => ∃ g, v = .slice (some ⟨g, 0, none⟩) 1 1 ∧ n0 ≤ g ∧ w.heap[g]? = some (.cells #[.int .i64 (if decide (y < z) = true then 1 else 0)] 3)
  | _, _, _ => True
theorem Fi16.mono {va : Option Addr} {ln vcap : Nat} {y z : Int} {n0 : Nat} (d : Tmp) (v : Value) (w w' : World) (hg : Gr w w') (h : Fi16 va ln vcap y z n0 d v w) : Fi16 va ln vcap y z n0 d v w' := by
  unfold Fi16 at h ⊢
  split at h
  all_goals first | exact h | trivial | (obtain ⟨g, e, hn, hr⟩ := h; exact ⟨g, e, hn, (hg.block g (lt_of_someR hr)).trans hr⟩)
end Go.Proofs.Ytcpmbjlhblkniaa
