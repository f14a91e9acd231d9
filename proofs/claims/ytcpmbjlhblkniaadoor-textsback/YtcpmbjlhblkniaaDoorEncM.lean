/- Programs in bytes (P5.5): plain mathematics, and rows of bytes in memory. -/
import Derived.Test.YtcpmbjlhblkniaaDoorVerM
import Derived.Test.YtcpmbjlhblkniaaDoorVerA
import Derived.ArgAppend
namespace Go.Proofs.YtcpmbjlhblkniaaDoor
open Go.ChangeShapes Go.WideShapes Go.ChangeAt Go.RowKit
set_option linter.unusedVariables false
set_option maxRecDepth 100000
namespace Enc
/-- Sevens of a number that is not below 0. -/
def sevN (u : Nat) : List Int := if h : u < 128 then [(u : Int)] else ((u : Int) % 128 + 128) :: sevN (u / 128)
termination_by u
decreasing_by omega
theorem sevN_lo {u : Nat} (h : u < 128) : sevN u = [(u : Int)] := by rw [sevN, dif_pos h]
theorem sevN_hi {u : Nat} (h : ¬ u < 128) : sevN u = ((u : Int) % 128 + 128) :: sevN (u / 128) := by rw [sevN, dif_neg h]
theorem sevN_len : ∀ (k u : Nat), u < 128 ^ (k + 1) → (sevN u).length ≤ k + 1
  | 0, u, h => by rw [sevN_lo (by omega)]; simp
  | k + 1, u, h => by
    by_cases h1 : u < 128
    · rw [sevN_lo h1]; simp
    · rw [sevN_hi h1, List.length_cons]
      have := sevN_len k (u / 128) (by rw [Nat.div_lt_iff_lt_mul (by decide)]; rw [Nat.pow_succ] at h; exact h)
      omega
/-- A number as one that is not below 0. -/
def zig (n : Int) : Nat := if n < 0 then (-2 * n - 1).toNat else (2 * n).toNat
theorem zig_lt {n : Int} (h : (Lit.int .i64 n).wf = true) : zig n < 18446744073709551616 := by
  have := bounds_i64 h
  unfold zig
  split <;> omega
/-- P5.5: a number. -/
def sev (n : Int) : List Int := sevN (zig n)
theorem sev_len {n : Int} (h : (Lit.int .i64 n).wf = true) : (sev n).length ≤ 10 := sevN_len 9 _ (Nat.lt_of_lt_of_le (zig_lt h) (by decide))
theorem sev_pos (n : Int) : 0 < (sev n).length := by
  unfold sev
  by_cases h : zig n < 128
  · rw [sevN_lo h]; simp
  · rw [sevN_hi h]; simp
theorem sevN_byte : ∀ (f u : Nat), u ≤ f → ∀ z ∈ sevN u, 0 ≤ z ∧ z ≤ 255
  | f, u, hf, z, hz => by
    by_cases h : u < 128
    · rw [sevN_lo h] at hz; simp at hz; omega
    · rw [sevN_hi h] at hz
      rcases List.mem_cons.1 hz with rfl | hz
      · omega
      · cases f with
        | zero => omega
        | succ f => exact sevN_byte f (u / 128) (by omega) z hz
theorem sev_byte {n z : Int} (h : z ∈ sev n) : 0 ≤ z ∧ z ≤ 255 := sevN_byte _ _ (Nat.le_refl _) z h
/-- P5.5: an instruction, an answer, a program. -/
def ins (x : Ins) : List Int := x.op :: (if numbered x.op = true then sev x.n else [])
def text (s : ByteArray) : List Int := s.data.toList.map fun b => (b.toNat : Int)
def many (l : List Int) : List Int := sev l.length ++ l.flatMap sev
def answer (a : Ans) : List Int := sev a.off ++ sev (if a.sv = true then 1 else 0) ++ sev a.nm.size ++ text a.nm ++ many a.zs ++ sev a.jump
def code (l : List Ins) : List Int := sev l.length ++ l.flatMap ins
def prog (p : Prg) : List Int := [115, 100, 49] ++ code p.code ++ many p.pool ++ sev p.answers.length ++ p.answers.flatMap answer
theorem flat_len {α : Type} {f : α → List Int} {c : Nat} : ∀ {l : List α}, (∀ x ∈ l, (f x).length ≤ c) → (l.flatMap f).length ≤ l.length * c
  | [], _ => by simp
  | x :: l, h => by
    rw [List.flatMap_cons, List.length_append, List.length_cons]
    have h1 := h x List.mem_cons_self
    have h2 := flat_len (l := l) fun y hy => h y (List.mem_cons_of_mem _ hy)
    rw [Nat.succ_mul]
    omega
theorem flat_take {α : Type} {f : α → List Int} {l : List α} {k : Nat} {x : α} (h : l[k]? = some x) : (l.take (k + 1)).flatMap f = (l.take k).flatMap f ++ f x := by
  rw [List.take_add_one, h]; simp
theorem wf_small {n : Int} (h0 : 0 ≤ n) (h1 : n ≤ 1000000000) : (Lit.int .i64 n).wf = true := WalkArith.wf_i64 ⟨by omega, by omega⟩
theorem many_len {l : List Int} (h : ∀ z ∈ l, (Lit.int .i64 z).wf = true) (hl : l.length ≤ 100000) (k : Nat) (hk : k ≤ l.length) : ((l.take k).flatMap sev).length ≤ k * 10 := by
  have := flat_len (f := sev) (c := 10) (l := l.take k) fun z hz => sev_len (h z (List.mem_of_mem_take hz))
  rw [List.length_take, Nat.min_eq_left hk] at this
  exact this
theorem ins_len {x : Ins} (h : InsOk x) : (ins x).length ≤ 11 := by
  unfold ins
  rw [List.length_cons]
  split
  · have := sev_len h.n; omega
  · simp
theorem code_len {l : List Ins} (h : ∀ x ∈ l, InsOk x) (k : Nat) (hk : k ≤ l.length) : ((l.take k).flatMap ins).length ≤ k * 11 := by
  have := flat_len (f := ins) (c := 11) (l := l.take k) fun z hz => ins_len (h z (List.mem_of_mem_take hz))
  rw [List.length_take, Nat.min_eq_left hk] at this
  exact this
theorem text_len (s : ByteArray) : (text s).length = s.size := by
  unfold text
  rw [List.length_map, Array.length_toList]
  rfl
theorem answer_len {w : World} {a : Ans} (h : AnsOk w a) (hz : a.zs.length ≤ 6) (hn : a.nm.size ≤ 24) : (answer a).length ≤ 140 := by
  have h1 := sev_len h.off
  have h2 : (sev (if a.sv = true then 1 else 0)).length ≤ 10 := sev_len (by split <;> decide)
  have h3 := sev_len (n := (a.nm.size : Int)) (wf_small (by omega) (by omega))
  have h4 := sev_len (n := (a.zs.length : Int)) (wf_small (by omega) (by omega))
  have h5 := sev_len h.jump
  have h6 := many_len h.wz (by omega) a.zs.length (Nat.le_refl _)
  rw [List.take_length] at h6
  have h7 := text_len a.nm
  unfold answer many
  simp only [List.length_append]
  omega
end Enc
/-- A row of bytes. -/
def bys (l : List Int) : List Value := l.map fun z => .int .u8 z
theorem bys_app (a b : List Int) : bys (a ++ b) = bys a ++ bys b := by simp [bys]
theorem own_geB {w : World} {base : Nat} {e : TypeId} {size : Nat} {v : Value} {n : Nat} {xs : List Value} (h : w.ownsRow base e size v n xs) {sb : Nat} (hs : sb < base) : v.ownBlock ≠ some sb := fun hh => by
  have := (owns_lt h hh).1
  omega
/-- A slice of bytes of the call's own. -/
structure OwR (w : World) (B : Nat) (v : Value) (l : List Int) : Prop where
  row : w.ownsRow B 5 1 v l.length (bys l)
theorem OwR.gr {w w' : World} {B : Nat} {v : Value} {l : List Int} (h : OwR w B v l) (hg : Gr w w') : OwR w' B v l := ⟨owns_gr h.row hg⟩
theorem OwR.nil (w : World) (B : Nat) : OwR w B (.slice none 0 0) [] := ⟨⟨by simp [bys], Or.inl ⟨rfl, rfl⟩⟩⟩
theorem OwR.base {w : World} {B B' : Nat} {v : Value} {l : List Int} (h : OwR w B v l) (hb : B' ≤ B) : OwR w B' v l := by
  refine ⟨h.row.1, ?_⟩
  rcases h.row.2 with h2 | ⟨g, cap, cur, hv, hg, r⟩
  · exact Or.inl h2
  · exact Or.inr ⟨g, cap, cur, hv, Nat.le_trans hb hg, r⟩
/-- A slice of bytes of the call's own; or one that is full, whatever mark its row bears. -/
def OwnX (w : World) (B : Nat) (v : Value) (l : List Int) : Prop :=
  OwR w B v l ∨ ∃ g cur fz, v = .slice (some ⟨g, 0, none⟩) l.length l.length ∧ B ≤ g ∧ w.heap[g]? = some (.cells cur 5 fz) ∧ l.length ≤ maxLen ∧ cur.toList = bys l ∧ 0 < l.length
theorem OwnX.gr {w w' : World} {B : Nat} {v : Value} {l : List Int} (h : OwnX w B v l) (hg : Gr w w') : OwnX w' B v l := by
  rcases h with h | ⟨g, cur, fz, h1, h2, h3, h4⟩
  · exact Or.inl (h.gr hg)
  · exact Or.inr ⟨g, cur, fz, h1, h2, (hg.block g (Array.getElem?_eq_some_iff.1 h3).1).trans h3, h4⟩
theorem OwnX.form {w : World} {B : Nat} {v : Value} {l : List Int} (h : OwnX w B v l) : ∃ a cap, v = .slice a l.length cap := by
  rcases h with h | ⟨g, cur, fz, rfl, _⟩
  · rcases h.row.2 with ⟨rfl, hn⟩ | ⟨g, cap, cur, rfl, _⟩
    · exact ⟨none, 0, by rw [hn]⟩
    · exact ⟨_, _, rfl⟩
  · exact ⟨_, _, rfl⟩
theorem OwnX.at_ {w : World} {B : Nat} {v : Value} {l : List Int} (h : OwnX w B v l) {g : Nat} (hg : v.ownBlock = some g) : B ≤ g ∧ ∃ cs fz, w.heap[g]? = some (.cells cs 5 fz) := by
  rcases h with h | ⟨g', cur, fz, rfl, h2, h3, _⟩
  · rcases h.row.2 with ⟨rfl, _⟩ | ⟨g', cap, cur, rfl, hb, hh, _⟩
    · simp [Value.ownBlock] at hg
    · simp [Value.ownBlock] at hg
      subst hg
      exact ⟨hb, _, _, hh⟩
  · simp [Value.ownBlock] at hg
    subst hg
    exact ⟨h2, _, _, h3⟩
/-- What appends to a row of bytes of the call's own leave: all memory that is no such row. -/
structure Ap (B : Nat) (w w' : World) : Prop where
  os : w'.os = w.os
  out : w'.output = w.output
  size : w.heap.size ≤ w'.heap.size
  low : ∀ x, x < w.heap.size → (x < B ∨ ∀ cs fz, w.heap[x]? ≠ some (.cells cs 5 fz)) → w'.heap[x]? = w.heap[x]?
theorem Ap.trans {B : Nat} {w w1 w2 : World} (h : Ap B w w1) (k : Ap B w1 w2) : Ap B w w2 :=
  ⟨k.os.trans h.os, k.out.trans h.out, Nat.le_trans h.size k.size, fun x hx hv => by
    have e := h.low x hx hv
    rw [← e] at hv
    exact (k.low x (Nat.lt_of_lt_of_le hx h.size) hv).trans e⟩
theorem Ap.ofGr {B : Nat} {w w' : World} (hg : Gr w w') : Ap B w w' := ⟨hg.os, hg.out, hg.size, fun x hx _ => hg.block x hx⟩
theorem Ap.more {B : Nat} {w w' w2 : World} (h : Ap B w w') (hg : Gr w' w2) : Ap B w w2 := h.trans (Ap.ofGr hg)
theorem Ap.app {B : Nat} {w w2 w3 : World} {v1 : Value} {l1 : List Int} (h : Ap B w w2) (ho : OwnX w2 B v1 l1) (hgrow : w2.grownBy w3 v1.ownBlock) : Ap B w w3 := by
  refine h.trans ⟨hgrow.os, hgrow.output, hgrow.size, fun x hx hv => hgrow.block x hx (fun e => ?_)⟩
  obtain ⟨h1, cs, fz, h2⟩ := ho.at_ e.symm
  rcases hv with hv | hv
  · omega
  · exact hv _ _ h2
/-- Blocks ahead of the row stay. -/
theorem Ap.gr {B : Nat} {w w' : World} (h : Ap B w w') {W : World} (hW : Gr W w) (hB : W.heap.size ≤ B) : Gr W w' :=
  ⟨h.os.trans hW.os, h.out.trans hW.out, Nat.le_trans hW.size h.size, fun b hb => (h.low b (Nat.lt_of_lt_of_le hb hW.size) (Or.inl (by omega))).trans (hW.block b hb)⟩
/-- A block of another type stays. -/
theorem Ap.row {B : Nat} {w w' : World} (h : Ap B w w') {b : Nat} {cs : Array Value} {t : TypeId} (hb : w.heap[b]? = some (.cells cs t)) (ht : t ≠ 5) : w'.heap[b]? = some (.cells cs t) :=
  (h.low b (Array.getElem?_eq_some_iff.1 hb).1 (Or.inr fun cs' fz e => by rw [hb] at e; cases e; exact ht rfl)).trans hb
theorem Tryd.infoByte : ∃ i, Tryd.prog.info? 5 = some i ∧ i.zero = some (.int .u8 0) ∧ i.size = 1 ∧ i.bytes = 1 :=
  ⟨_, rfl, by kernel_rfl, by kernel_rfl, by kernel_rfl⟩
theorem one_byte (l : List Int) : ∀ u ∈ bys l, u.oneCell' = true := by
  intro u hu
  obtain ⟨z, _, rfl⟩ := List.mem_map.1 hu
  rfl
theorem run_append_x (w : World) (B : Nat) (v : Value) (l : List Int) (hown : OwnX w B v l) (ad : Addr) (c : Nat) (nl : List Int) (hnews : ∀ j u, (bys nl)[j]? = some u → w.cell? (ad.add j) = some u) (hm : 0 < nl.length) (h63 : l.length + nl.length ≤ 100000000000) (hbase : B ≤ w.heap.size) (ty : TypeId) :
    ∃ v' w', (Builtin.append_ #[72, 72] ty #[v, .slice (some ad) nl.length c]).run Tryd.prog w = .ok v' w' ∧ OwR w' B v' (l ++ nl) ∧ w.grownBy w' v.ownBlock := by
  obtain ⟨i0, hi, hi1, hi2, hi3⟩ := Tryd.infoByte
  rcases hown with hown | ⟨g, cur, fz, rfl, h2, h3, h4, h5, h6⟩
  · obtain ⟨g, cap, w', hr, r2, r3, _⟩ := run_append_lies (P := Tryd.prog) w 72 ty B 5 i0 _ 1 1 Tryd.underlying72 hi hi1 hi2 hi3 rfl (by decide) v l.length (bys l) hown.row ad nl.length c (bys nl) (by simp [bys]) hnews (one_byte _) hm (by unfold maxLen; omega) (by omega) hbase _ rfl
    exact ⟨_, w', hr, ⟨by rw [bys_app, List.length_append]; exact r2⟩, r3⟩
  · have hol : ∀ j u, (bys l)[j]? = some u → w.cell? ((⟨g, 0, none⟩ : Addr).add j) = some u := fun j u hu => by
      rw [show (⟨g, 0, none⟩ : Addr).add j = ⟨g, 0 + j, none⟩ from Go.WideShapes.add_plain .., Nat.zero_add, cell_of_row w g j cur _ fz h3, ← Array.getElem?_toList, h5]
      exact hu
    obtain ⟨v', w', hr, r2, r3⟩ := run_append_arg_grows (P := Tryd.prog) w 72 ty 5 i0 _ 1 1 Tryd.underlying72 hi hi1 hi2 hi3 rfl (by decide) ⟨g, 0, none⟩ l.length l.length (bys l) (by simp [bys]) hol ad nl.length c (bys nl) (by simp [bys]) hnews (by omega) (by unfold maxLen; omega) (by omega)
    refine ⟨v', w', hr, ?_, ⟨r3.os, r3.tape, r3.output, r3.size, fun k hk _ => r3.block k hk (by simp)⟩⟩
    refine ⟨?_⟩
    rw [bys_app, List.length_append]
    refine ⟨r2.1, ?_⟩
    rcases r2.2 with q | ⟨g', cap', cur', hv, hg, r⟩
    · exact Or.inl q
    · exact Or.inr ⟨g', cap', cur', hv, Nat.le_trans hbase hg, r⟩
theorem app_x {w : World} {ops : Array Oper} {rest : List Oper} {o : Oper} {a : Act} {Q : Exit → Act → World → Prop} (hgd : o.guard = none) (s x : Operand) (ho : o.op = .call { callee := .builtin .append, args := #[s, x], argTypes := #[72, 72] })
    (B : Nat) (v : Value) (l : List Int) (hs : a.eval s = v) (hown : OwnX w B v l) (ad : Addr) (c : Nat) (nl : List Int) (hx : a.eval x = .slice (some ad) nl.length c) (hnews : ∀ j u, (bys nl)[j]? = some u → w.cell? (ad.add j) = some u) (hm : 0 < nl.length) (h63 : l.length + nl.length ≤ 100000000000) (hbase : B ≤ w.heap.size)
    (h : ∀ v' w', OwR w' B v' (l ++ nl) → Ap B w w' → wpList Tryd.prog ops Q rest (a.put o.dst v') w') : wpList Tryd.prog ops Q (o :: rest) a w := by
  refine wpList_plain hgd fun K hK => ?_
  obtain ⟨v', w', hr, h2, h3⟩ := run_append_x w B v l hown ad c nl hnews hm h63 hbase o.type
  unfold Oper.wp execOp
  simp only [ho, resolve, invoke, builtin, Sem.run_bind, Sem.run_pure, Result.andThen_ok, List.map_toArray, List.map_cons, List.map_nil, hs, hx, hr]
  exact hK _ _ (h v' w' h2 ((Ap.ofGr (Gr.refl w)).app hown h3))
end Go.Proofs.YtcpmbjlhblkniaaDoor
