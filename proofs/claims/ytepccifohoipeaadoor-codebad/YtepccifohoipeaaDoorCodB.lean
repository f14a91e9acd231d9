/- The walk of the law CodeBad: nine programs that may not be run. -/
import Derived.Test.YtepccifohoipeaaDoorVerN
namespace Go.Proofs.YtepccifohoipeaaDoor
open Go.ChangeShapes Go.WideShapes Go.ChangeAt Go.RowKit
set_option linter.unusedVariables false
theorem inss_at {w : World} {b : Nat} {cs : Array Value} {t : TypeId} {l : List Ins} (h : w.heap[b]? = some (.cells cs t)) (hl : l.length ≤ 100) (hc : ∀ (i : Nat) x, l[i]? = some x → cs[i * 2]? = some (.int .i64 x.op) ∧ cs[i * 2 + 1]? = some (.int .i64 x.n)) : InssAt w (some ⟨b, 0, none⟩) l :=
  ⟨by unfold maxLen; omega, fun i x hx => ⟨b, 0, rfl, (Array.getElem?_eq_some_iff.1 h).1, by rw [Nat.zero_add]; exact ((row_all h).1 _).trans (hc i x hx).1, by rw [Nat.zero_add]; exact ((row_all h).1 _).trans (hc i x hx).2⟩⟩
theorem inss_none (w : World) : InssAt w none [] := ⟨Nat.zero_le _, fun i x hx => by simp at hx⟩
theorem fives_none {α : Type} {cells : α → List Value} (w : World) : FivesAt w none ([] : List α) cells := ⟨Nat.zero_le _, fun i x hx => by simp at hx⟩
def ans0 : Ans := ⟨0, false, ⟨#[]⟩, none, 0, [], 0⟩
theorem ans0_ok (w : World) : AnsOk w ans0 := ⟨by decide, by decide, by simp [ans0, maxLen, ByteArray.size], Nat.le_refl _, IntsAt.nil _ _, fun z hz => by simp [ans0] at hz⟩
theorem one_ans {w : World} {b : Nat} (h : w.heap[b]? = some (.cells #[.int .i64 0, .bool false, .string ⟨#[]⟩, .slice none 0 0, .int .i64 0] 34)) : FivesAt w (some ⟨b, 0, none⟩) [ans0] Ans.cells := by
  refine ⟨by simp [maxLen], fun i x hx => ⟨b, 0, rfl, (Array.getElem?_eq_some_iff.1 h).1, ?_⟩⟩
  have hi : i = 0 := by have := (List.getElem?_eq_some_iff.1 hx).1; simp at this; omega
  subst hi
  simp at hx
  subst hx
  have c := (row_all h).1
  exact ⟨c 0, c 1, c 2, c 3, c 4⟩
theorem pk9 (n : Int) : Cal.pk n 9 = 0 ∨ Cal.pk n 9 = 1 ∨ Cal.pk n 9 = 2 ∨ Cal.pk n 9 = 3 ∨ Cal.pk n 9 = 4 ∨ Cal.pk n 9 = 5 ∨ Cal.pk n 9 = 6 ∨ Cal.pk n 9 = 7 ∨ Cal.pk n 9 = 8 := by
  have h1 := Cal.pk_lo n (k := 9) (by omega)
  have h2 := Cal.pk_hi n (k := 9) (by omega)
  omega
/-- A program that may not be run, in memory: the three calls refuse it. -/
structure Bad (W : World) (p : Prg) (e : Int) : Prop where
  ok : PrgOk W p
  ver : Ver.verify p = (0, 0, e)
  ne : e ≠ 0
def badP0 (B : Nat) : Prg := ⟨none, 0, [], none, 0, [], none, 0, []⟩
theorem badC0 (B : Nat) : (badP0 B).cells.toArray = #[.slice none 0 0, .slice none 0 0, .slice none 0 0] := rfl
theorem badV0 (B : Nat) : Ver.verify (badP0 B) = (0, 0, 6) := by kernel_rfl
theorem badO0 {W : World} {B : Nat} : PrgOk W (badP0 B) :=
  ⟨Nat.le_refl _, Nat.le_refl _, Nat.le_refl _, inss_none _, fun x hx => by simp [badP0] at hx, IntsAt.nil _ _, fun z hz => by simp [badP0] at hz, fives_none _, fun x hx => by simp [badP0] at hx⟩
def badP1 (B : Nat) : Prg := ⟨some ⟨B + 1, 0, none⟩, 1, [⟨7, 0⟩], none, 0, [], none, 0, []⟩
theorem badC1 (B : Nat) : (badP1 B).cells.toArray = #[.slice (some ⟨B + 1, 0, none⟩) 1 1, .slice none 0 0, .slice none 0 0] := rfl
theorem badV1 (B : Nat) : Ver.verify (badP1 B) = (0, 0, 3) := by kernel_rfl
theorem badO1 {W : World} {B : Nat} (hc : W.heap[B + 1]? = some (.cells #[.int .i64 7, .int .i64 0] 36)) : PrgOk W (badP1 B) :=
  ⟨Nat.le_refl _, Nat.le_refl _, Nat.le_refl _, inss_at hc (by simp [badP1]) (by intro i x h; rcases i with _ | _ | _ | _ | i <;> simp [badP1] at h <;> subst h <;> simp), fun x hx => by simp [badP1] at hx; subst hx; exact ⟨by decide, by decide⟩, IntsAt.nil _ _, fun z hz => by simp [badP1] at hz, fives_none _, fun x hx => by simp [badP1] at hx⟩
def badP2 (B : Nat) : Prg := ⟨some ⟨B + 1 + 1, 0, none⟩, 1, [⟨6, 0⟩], none, 0, [], none, 0, []⟩
theorem badC2 (B : Nat) : (badP2 B).cells.toArray = #[.slice (some ⟨B + 1 + 1, 0, none⟩) 1 1, .slice none 0 0, .slice none 0 0] := rfl
theorem badV2 (B : Nat) : Ver.verify (badP2 B) = (0, 0, 2) := by kernel_rfl
theorem badO2 {W : World} {B : Nat} (hc : W.heap[B + 1 + 1]? = some (.cells #[.int .i64 6, .int .i64 0] 36)) : PrgOk W (badP2 B) :=
  ⟨Nat.le_refl _, Nat.le_refl _, Nat.le_refl _, inss_at hc (by simp [badP2]) (by intro i x h; rcases i with _ | _ | _ | _ | i <;> simp [badP2] at h <;> subst h <;> simp), fun x hx => by simp [badP2] at hx; subst hx; exact ⟨by decide, by decide⟩, IntsAt.nil _ _, fun z hz => by simp [badP2] at hz, fives_none _, fun x hx => by simp [badP2] at hx⟩
def badP3 (B : Nat) : Prg := ⟨some ⟨B + 1 + 1 + 1, 0, none⟩, 1, [⟨1, 0⟩], none, 0, [], some ⟨B, 0, none⟩, 1, [ans0]⟩
theorem badC3 (B : Nat) : (badP3 B).cells.toArray = #[.slice (some ⟨B + 1 + 1 + 1, 0, none⟩) 1 1, .slice none 0 0, .slice (some ⟨B, 0, none⟩) 1 1] := rfl
theorem badV3 (B : Nat) : Ver.verify (badP3 B) = (0, 0, 5) := by kernel_rfl
theorem badO3 {W : World} {B : Nat} (hc : W.heap[B + 1 + 1 + 1]? = some (.cells #[.int .i64 1, .int .i64 0] 36)) (ha : W.heap[B]? = some (.cells #[.int .i64 0, .bool false, .string ⟨#[]⟩, .slice none 0 0, .int .i64 0] 34)) : PrgOk W (badP3 B) :=
  ⟨Nat.le_refl _, Nat.le_refl _, Nat.le_refl _, inss_at hc (by simp [badP3]) (by intro i x h; rcases i with _ | _ | _ | _ | i <;> simp [badP3] at h <;> subst h <;> simp), fun x hx => by simp [badP3] at hx; subst hx; exact ⟨by decide, by decide⟩, IntsAt.nil _ _, fun z hz => by simp [badP3] at hz, one_ans ha, fun x hx => by simp [badP3] at hx; subst hx; exact ans0_ok _⟩
def badP4 (B : Nat) : Prg := ⟨some ⟨B + 1 + 1 + 1 + 1, 0, none⟩, 2, [⟨3, 0⟩, ⟨6, 0⟩], none, 0, [], some ⟨B, 0, none⟩, 1, [ans0]⟩
theorem badC4 (B : Nat) : (badP4 B).cells.toArray = #[.slice (some ⟨B + 1 + 1 + 1 + 1, 0, none⟩) 2 2, .slice none 0 0, .slice (some ⟨B, 0, none⟩) 1 1] := rfl
theorem badV4 (B : Nat) : Ver.verify (badP4 B) = (0, 0, 10) := by kernel_rfl
theorem badO4 {W : World} {B : Nat} (hc : W.heap[B + 1 + 1 + 1 + 1]? = some (.cells #[.int .i64 3, .int .i64 0, .int .i64 6, .int .i64 0] 36)) (ha : W.heap[B]? = some (.cells #[.int .i64 0, .bool false, .string ⟨#[]⟩, .slice none 0 0, .int .i64 0] 34)) : PrgOk W (badP4 B) :=
  ⟨Nat.le_refl _, Nat.le_refl _, Nat.le_refl _, inss_at hc (by simp [badP4]) (by intro i x h; rcases i with _ | _ | _ | _ | i <;> simp [badP4] at h <;> subst h <;> simp), fun x hx => by simp [badP4] at hx; rcases hx with rfl | rfl <;> exact ⟨by decide, by decide⟩, IntsAt.nil _ _, fun z hz => by simp [badP4] at hz, one_ans ha, fun x hx => by simp [badP4] at hx; subst hx; exact ans0_ok _⟩
def badP5 (B : Nat) : Prg := ⟨some ⟨B + 1 + 1 + 1 + 1 + 1, 0, none⟩, 2, [⟨5, 1⟩, ⟨6, 0⟩], none, 0, [], some ⟨B, 0, none⟩, 1, [ans0]⟩
theorem badC5 (B : Nat) : (badP5 B).cells.toArray = #[.slice (some ⟨B + 1 + 1 + 1 + 1 + 1, 0, none⟩) 2 2, .slice none 0 0, .slice (some ⟨B, 0, none⟩) 1 1] := rfl
theorem badV5 (B : Nat) : Ver.verify (badP5 B) = (0, 0, 2) := by kernel_rfl
theorem badO5 {W : World} {B : Nat} (hc : W.heap[B + 1 + 1 + 1 + 1 + 1]? = some (.cells #[.int .i64 5, .int .i64 1, .int .i64 6, .int .i64 0] 36)) (ha : W.heap[B]? = some (.cells #[.int .i64 0, .bool false, .string ⟨#[]⟩, .slice none 0 0, .int .i64 0] 34)) : PrgOk W (badP5 B) :=
  ⟨Nat.le_refl _, Nat.le_refl _, Nat.le_refl _, inss_at hc (by simp [badP5]) (by intro i x h; rcases i with _ | _ | _ | _ | i <;> simp [badP5] at h <;> subst h <;> simp), fun x hx => by simp [badP5] at hx; rcases hx with rfl | rfl <;> exact ⟨by decide, by decide⟩, IntsAt.nil _ _, fun z hz => by simp [badP5] at hz, one_ans ha, fun x hx => by simp [badP5] at hx; subst hx; exact ans0_ok _⟩
def badP6 (B : Nat) : Prg := ⟨some ⟨B + 1 + 1 + 1 + 1 + 1 + 1, 0, none⟩, 2, [⟨2, 0⟩, ⟨6, 0⟩], none, 0, [], some ⟨B, 0, none⟩, 1, [ans0]⟩
theorem badC6 (B : Nat) : (badP6 B).cells.toArray = #[.slice (some ⟨B + 1 + 1 + 1 + 1 + 1 + 1, 0, none⟩) 2 2, .slice none 0 0, .slice (some ⟨B, 0, none⟩) 1 1] := rfl
theorem badV6 (B : Nat) : Ver.verify (badP6 B) = (0, 0, 2) := by kernel_rfl
theorem badO6 {W : World} {B : Nat} (hc : W.heap[B + 1 + 1 + 1 + 1 + 1 + 1]? = some (.cells #[.int .i64 2, .int .i64 0, .int .i64 6, .int .i64 0] 36)) (ha : W.heap[B]? = some (.cells #[.int .i64 0, .bool false, .string ⟨#[]⟩, .slice none 0 0, .int .i64 0] 34)) : PrgOk W (badP6 B) :=
  ⟨Nat.le_refl _, Nat.le_refl _, Nat.le_refl _, inss_at hc (by simp [badP6]) (by intro i x h; rcases i with _ | _ | _ | _ | i <;> simp [badP6] at h <;> subst h <;> simp), fun x hx => by simp [badP6] at hx; rcases hx with rfl | rfl <;> exact ⟨by decide, by decide⟩, IntsAt.nil _ _, fun z hz => by simp [badP6] at hz, one_ans ha, fun x hx => by simp [badP6] at hx; subst hx; exact ans0_ok _⟩
def badP7 (B : Nat) : Prg := ⟨some ⟨B + 1 + 1 + 1 + 1 + 1 + 1 + 1, 0, none⟩, 4, [⟨1, 0⟩, ⟨4, 1⟩, ⟨1, 0⟩, ⟨6, 0⟩], none, 0, [], some ⟨B, 0, none⟩, 1, [ans0]⟩
theorem badC7 (B : Nat) : (badP7 B).cells.toArray = #[.slice (some ⟨B + 1 + 1 + 1 + 1 + 1 + 1 + 1, 0, none⟩) 4 4, .slice none 0 0, .slice (some ⟨B, 0, none⟩) 1 1] := rfl
theorem badV7 (B : Nat) : Ver.verify (badP7 B) = (0, 0, 4) := by kernel_rfl
theorem badO7 {W : World} {B : Nat} (hc : W.heap[B + 1 + 1 + 1 + 1 + 1 + 1 + 1]? = some (.cells #[.int .i64 1, .int .i64 0, .int .i64 4, .int .i64 1, .int .i64 1, .int .i64 0, .int .i64 6, .int .i64 0] 36)) (ha : W.heap[B]? = some (.cells #[.int .i64 0, .bool false, .string ⟨#[]⟩, .slice none 0 0, .int .i64 0] 34)) : PrgOk W (badP7 B) :=
  ⟨Nat.le_refl _, Nat.le_refl _, Nat.le_refl _, inss_at hc (by simp [badP7]) (by intro i x h; rcases i with _ | _ | _ | _ | i <;> simp [badP7] at h <;> subst h <;> simp), fun x hx => by simp [badP7] at hx; rcases hx with rfl | rfl | rfl | rfl <;> exact ⟨by decide, by decide⟩, IntsAt.nil _ _, fun z hz => by simp [badP7] at hz, one_ans ha, fun x hx => by simp [badP7] at hx; subst hx; exact ans0_ok _⟩
def badP8 (B : Nat) : Prg := ⟨some ⟨B + 1 + 1 + 1 + 1 + 1 + 1 + 1 + 1, 0, none⟩, 2, [⟨1, 1⟩, ⟨6, 0⟩], none, 0, [], some ⟨B, 0, none⟩, 1, [ans0]⟩
theorem badC8 (B : Nat) : (badP8 B).cells.toArray = #[.slice (some ⟨B + 1 + 1 + 1 + 1 + 1 + 1 + 1 + 1, 0, none⟩) 2 2, .slice none 0 0, .slice (some ⟨B, 0, none⟩) 1 1] := rfl
theorem badV8 (B : Nat) : Ver.verify (badP8 B) = (0, 0, 2) := by kernel_rfl
theorem badO8 {W : World} {B : Nat} (hc : W.heap[B + 1 + 1 + 1 + 1 + 1 + 1 + 1 + 1]? = some (.cells #[.int .i64 1, .int .i64 1, .int .i64 6, .int .i64 0] 36)) (ha : W.heap[B]? = some (.cells #[.int .i64 0, .bool false, .string ⟨#[]⟩, .slice none 0 0, .int .i64 0] 34)) : PrgOk W (badP8 B) :=
  ⟨Nat.le_refl _, Nat.le_refl _, Nat.le_refl _, inss_at hc (by simp [badP8]) (by intro i x h; rcases i with _ | _ | _ | _ | i <;> simp [badP8] at h <;> subst h <;> simp), fun x hx => by simp [badP8] at hx; rcases hx with rfl | rfl <;> exact ⟨by decide, by decide⟩, IntsAt.nil _ _, fun z hz => by simp [badP8] at hz, one_ans ha, fun x hx => by simp [badP8] at hx; subst hx; exact ans0_ok _⟩
set_option maxHeartbeats 12800000 in
theorem codeBad_walk (a0 : Int) (w0 : (Lit.int .i64 a0).wf = true) (w : World) (hT : Opr w) :
    Calls Tryd.prog 4 #[.int .i64 a0] w fun e w' => e = .returned (.bool true) ∧ Gr w w' := by
  have HPK : Hid _ := pk9 a0
  go_enter Tryd.func4, Tryd.ntmps4
  go_upto_region 4 with fail
  obtain ⟨W1, e1⟩ : ∃ W, W = w.alloc (.cells #[.int .i64 0, .bool false, .string ⟨#[]⟩, .slice none 0 0, .int .i64 0] 34) := ⟨_, rfl⟩
  have s1 : W1.heap.size = w.heap.size + 1 := by rw [e1]; simp
  have g1 : Gr w W1 := by rw [e1]; exact (Gr.refl _).alloc _
  have r1 : W1.heap[w.heap.size]? = some (.cells #[.int .i64 0, .bool false, .string ⟨#[]⟩, .slice none 0 0, .int .i64 0] 34) := by rw [e1]; have := heapA w (.cells #[.int .i64 0, .bool false, .string ⟨#[]⟩, .slice none 0 0, .int .i64 0] 34); exact this
  obtain ⟨W2, e2⟩ : ∃ W, W = W1.alloc (.cells #[.int .i64 7, .int .i64 0] 36) := ⟨_, rfl⟩
  have s2 : W2.heap.size = w.heap.size + 1 + 1 := by rw [e2]; simp [s1]
  have g2 : Gr W1 W2 := by rw [e2]; exact (Gr.refl _).alloc _
  have r2 : W2.heap[w.heap.size + 1]? = some (.cells #[.int .i64 7, .int .i64 0] 36) := by rw [e2]; have := heapA W1 (.cells #[.int .i64 7, .int .i64 0] 36); rwa [s1] at this
  obtain ⟨W3, e3⟩ : ∃ W, W = W2.alloc (.cells #[.int .i64 6, .int .i64 0] 36) := ⟨_, rfl⟩
  have s3 : W3.heap.size = w.heap.size + 1 + 1 + 1 := by rw [e3]; simp [s2]
  have g3 : Gr W2 W3 := by rw [e3]; exact (Gr.refl _).alloc _
  have r3 : W3.heap[w.heap.size + 1 + 1]? = some (.cells #[.int .i64 6, .int .i64 0] 36) := by rw [e3]; have := heapA W2 (.cells #[.int .i64 6, .int .i64 0] 36); rwa [s2] at this
  obtain ⟨W4, e4⟩ : ∃ W, W = W3.alloc (.cells #[.int .i64 1, .int .i64 0] 36) := ⟨_, rfl⟩
  have s4 : W4.heap.size = w.heap.size + 1 + 1 + 1 + 1 := by rw [e4]; simp [s3]
  have g4 : Gr W3 W4 := by rw [e4]; exact (Gr.refl _).alloc _
  have r4 : W4.heap[w.heap.size + 1 + 1 + 1]? = some (.cells #[.int .i64 1, .int .i64 0] 36) := by rw [e4]; have := heapA W3 (.cells #[.int .i64 1, .int .i64 0] 36); rwa [s3] at this
  obtain ⟨W5, e5⟩ : ∃ W, W = W4.alloc (.cells #[.int .i64 3, .int .i64 0, .int .i64 6, .int .i64 0] 36) := ⟨_, rfl⟩
  have s5 : W5.heap.size = w.heap.size + 1 + 1 + 1 + 1 + 1 := by rw [e5]; simp [s4]
  have g5 : Gr W4 W5 := by rw [e5]; exact (Gr.refl _).alloc _
  have r5 : W5.heap[w.heap.size + 1 + 1 + 1 + 1]? = some (.cells #[.int .i64 3, .int .i64 0, .int .i64 6, .int .i64 0] 36) := by rw [e5]; have := heapA W4 (.cells #[.int .i64 3, .int .i64 0, .int .i64 6, .int .i64 0] 36); rwa [s4] at this
  obtain ⟨W6, e6⟩ : ∃ W, W = W5.alloc (.cells #[.int .i64 5, .int .i64 1, .int .i64 6, .int .i64 0] 36) := ⟨_, rfl⟩
  have s6 : W6.heap.size = w.heap.size + 1 + 1 + 1 + 1 + 1 + 1 := by rw [e6]; simp [s5]
  have g6 : Gr W5 W6 := by rw [e6]; exact (Gr.refl _).alloc _
  have r6 : W6.heap[w.heap.size + 1 + 1 + 1 + 1 + 1]? = some (.cells #[.int .i64 5, .int .i64 1, .int .i64 6, .int .i64 0] 36) := by rw [e6]; have := heapA W5 (.cells #[.int .i64 5, .int .i64 1, .int .i64 6, .int .i64 0] 36); rwa [s5] at this
  obtain ⟨W7, e7⟩ : ∃ W, W = W6.alloc (.cells #[.int .i64 2, .int .i64 0, .int .i64 6, .int .i64 0] 36) := ⟨_, rfl⟩
  have s7 : W7.heap.size = w.heap.size + 1 + 1 + 1 + 1 + 1 + 1 + 1 := by rw [e7]; simp [s6]
  have g7 : Gr W6 W7 := by rw [e7]; exact (Gr.refl _).alloc _
  have r7 : W7.heap[w.heap.size + 1 + 1 + 1 + 1 + 1 + 1]? = some (.cells #[.int .i64 2, .int .i64 0, .int .i64 6, .int .i64 0] 36) := by rw [e7]; have := heapA W6 (.cells #[.int .i64 2, .int .i64 0, .int .i64 6, .int .i64 0] 36); rwa [s6] at this
  obtain ⟨W8, e8⟩ : ∃ W, W = W7.alloc (.cells #[.int .i64 1, .int .i64 0, .int .i64 4, .int .i64 1, .int .i64 1, .int .i64 0, .int .i64 6, .int .i64 0] 36) := ⟨_, rfl⟩
  have s8 : W8.heap.size = w.heap.size + 1 + 1 + 1 + 1 + 1 + 1 + 1 + 1 := by rw [e8]; simp [s7]
  have g8 : Gr W7 W8 := by rw [e8]; exact (Gr.refl _).alloc _
  have r8 : W8.heap[w.heap.size + 1 + 1 + 1 + 1 + 1 + 1 + 1]? = some (.cells #[.int .i64 1, .int .i64 0, .int .i64 4, .int .i64 1, .int .i64 1, .int .i64 0, .int .i64 6, .int .i64 0] 36) := by rw [e8]; have := heapA W7 (.cells #[.int .i64 1, .int .i64 0, .int .i64 4, .int .i64 1, .int .i64 1, .int .i64 0, .int .i64 6, .int .i64 0] 36); rwa [s7] at this
  obtain ⟨W9, e9⟩ : ∃ W, W = W8.alloc (.cells #[.int .i64 1, .int .i64 1, .int .i64 6, .int .i64 0] 36) := ⟨_, rfl⟩
  have s9 : W9.heap.size = w.heap.size + 1 + 1 + 1 + 1 + 1 + 1 + 1 + 1 + 1 := by rw [e9]; simp [s8]
  have g9 : Gr W8 W9 := by rw [e9]; exact (Gr.refl _).alloc _
  have r9 : W9.heap[w.heap.size + 1 + 1 + 1 + 1 + 1 + 1 + 1 + 1]? = some (.cells #[.int .i64 1, .int .i64 1, .int .i64 6, .int .i64 0] 36) := by rw [e9]; have := heapA W8 (.cells #[.int .i64 1, .int .i64 1, .int .i64 6, .int .i64 0] 36); rwa [s8] at this
  obtain ⟨W10, e10⟩ : ∃ W, W = W9.alloc (.cells #[.slice none 0 0, .slice none 0 0, .slice none 0 0, .slice (some ⟨w.heap.size + 1, 0, none⟩) 1 1, .slice none 0 0, .slice none 0 0, .slice (some ⟨w.heap.size + 1 + 1, 0, none⟩) 1 1, .slice none 0 0, .slice none 0 0, .slice (some ⟨w.heap.size + 1 + 1 + 1, 0, none⟩) 1 1, .slice none 0 0, .slice (some ⟨w.heap.size, 0, none⟩) 1 1, .slice (some ⟨w.heap.size + 1 + 1 + 1 + 1, 0, none⟩) 2 2, .slice none 0 0, .slice (some ⟨w.heap.size, 0, none⟩) 1 1, .slice (some ⟨w.heap.size + 1 + 1 + 1 + 1 + 1, 0, none⟩) 2 2, .slice none 0 0, .slice (some ⟨w.heap.size, 0, none⟩) 1 1, .slice (some ⟨w.heap.size + 1 + 1 + 1 + 1 + 1 + 1, 0, none⟩) 2 2, .slice none 0 0, .slice (some ⟨w.heap.size, 0, none⟩) 1 1, .slice (some ⟨w.heap.size + 1 + 1 + 1 + 1 + 1 + 1 + 1, 0, none⟩) 4 4, .slice none 0 0, .slice (some ⟨w.heap.size, 0, none⟩) 1 1, .slice (some ⟨w.heap.size + 1 + 1 + 1 + 1 + 1 + 1 + 1 + 1, 0, none⟩) 2 2, .slice none 0 0, .slice (some ⟨w.heap.size, 0, none⟩) 1 1] 26) := ⟨_, rfl⟩
  have s10 : W10.heap.size = w.heap.size + 1 + 1 + 1 + 1 + 1 + 1 + 1 + 1 + 1 + 1 := by rw [e10]; simp [s9]
  have g10 : Gr W9 W10 := by rw [e10]; exact (Gr.refl _).alloc _
  have r10 : W10.heap[w.heap.size + 1 + 1 + 1 + 1 + 1 + 1 + 1 + 1 + 1]? = some (.cells #[.slice none 0 0, .slice none 0 0, .slice none 0 0, .slice (some ⟨w.heap.size + 1, 0, none⟩) 1 1, .slice none 0 0, .slice none 0 0, .slice (some ⟨w.heap.size + 1 + 1, 0, none⟩) 1 1, .slice none 0 0, .slice none 0 0, .slice (some ⟨w.heap.size + 1 + 1 + 1, 0, none⟩) 1 1, .slice none 0 0, .slice (some ⟨w.heap.size, 0, none⟩) 1 1, .slice (some ⟨w.heap.size + 1 + 1 + 1 + 1, 0, none⟩) 2 2, .slice none 0 0, .slice (some ⟨w.heap.size, 0, none⟩) 1 1, .slice (some ⟨w.heap.size + 1 + 1 + 1 + 1 + 1, 0, none⟩) 2 2, .slice none 0 0, .slice (some ⟨w.heap.size, 0, none⟩) 1 1, .slice (some ⟨w.heap.size + 1 + 1 + 1 + 1 + 1 + 1, 0, none⟩) 2 2, .slice none 0 0, .slice (some ⟨w.heap.size, 0, none⟩) 1 1, .slice (some ⟨w.heap.size + 1 + 1 + 1 + 1 + 1 + 1 + 1, 0, none⟩) 4 4, .slice none 0 0, .slice (some ⟨w.heap.size, 0, none⟩) 1 1, .slice (some ⟨w.heap.size + 1 + 1 + 1 + 1 + 1 + 1 + 1 + 1, 0, none⟩) 2 2, .slice none 0 0, .slice (some ⟨w.heap.size, 0, none⟩) 1 1] 26) := by rw [e10]; have := heapA W9 (.cells #[.slice none 0 0, .slice none 0 0, .slice none 0 0, .slice (some ⟨w.heap.size + 1, 0, none⟩) 1 1, .slice none 0 0, .slice none 0 0, .slice (some ⟨w.heap.size + 1 + 1, 0, none⟩) 1 1, .slice none 0 0, .slice none 0 0, .slice (some ⟨w.heap.size + 1 + 1 + 1, 0, none⟩) 1 1, .slice none 0 0, .slice (some ⟨w.heap.size, 0, none⟩) 1 1, .slice (some ⟨w.heap.size + 1 + 1 + 1 + 1, 0, none⟩) 2 2, .slice none 0 0, .slice (some ⟨w.heap.size, 0, none⟩) 1 1, .slice (some ⟨w.heap.size + 1 + 1 + 1 + 1 + 1, 0, none⟩) 2 2, .slice none 0 0, .slice (some ⟨w.heap.size, 0, none⟩) 1 1, .slice (some ⟨w.heap.size + 1 + 1 + 1 + 1 + 1 + 1, 0, none⟩) 2 2, .slice none 0 0, .slice (some ⟨w.heap.size, 0, none⟩) 1 1, .slice (some ⟨w.heap.size + 1 + 1 + 1 + 1 + 1 + 1 + 1, 0, none⟩) 4 4, .slice none 0 0, .slice (some ⟨w.heap.size, 0, none⟩) 1 1, .slice (some ⟨w.heap.size + 1 + 1 + 1 + 1 + 1 + 1 + 1 + 1, 0, none⟩) 2 2, .slice none 0 0, .slice (some ⟨w.heap.size, 0, none⟩) 1 1] 26); rwa [s9] at this
  obtain ⟨W11, e11⟩ : ∃ W, W = W10.alloc (.cells #[.int .i64 6, .int .i64 3, .int .i64 2, .int .i64 5, .int .i64 10, .int .i64 2, .int .i64 2, .int .i64 4, .int .i64 2] 27) := ⟨_, rfl⟩
  have s11 : W11.heap.size = w.heap.size + 1 + 1 + 1 + 1 + 1 + 1 + 1 + 1 + 1 + 1 + 1 := by rw [e11]; simp [s10]
  have g11 : Gr W10 W11 := by rw [e11]; exact (Gr.refl _).alloc _
  have r11 : W11.heap[w.heap.size + 1 + 1 + 1 + 1 + 1 + 1 + 1 + 1 + 1 + 1]? = some (.cells #[.int .i64 6, .int .i64 3, .int .i64 2, .int .i64 5, .int .i64 10, .int .i64 2, .int .i64 2, .int .i64 4, .int .i64 2] 27) := by rw [e11]; have := heapA W10 (.cells #[.int .i64 6, .int .i64 3, .int .i64 2, .int .i64 5, .int .i64 10, .int .i64 2, .int .i64 2, .int .i64 4, .int .i64 2] 27); rwa [s10] at this
  rw [← e1, ← e2, ← e3, ← e4, ← e5, ← e6, ← e7, ← e8, ← e9, ← e10, ← e11]
  have hG' : Gr w W11 := ((((((((((g1.trans g2).trans g3).trans g4).trans g5).trans g6).trans g7).trans g8).trans g9).trans g10).trans g11)
  have HO : Hid _ := ((g11.block _ (by rw [s10]; omega)).trans r10)
  have HE11 : Hid _ := r11
  have HB0 : Hid (PrgOk W11 (badP0 w.heap.size)) := badO0
  have HB1 : Hid (PrgOk W11 (badP1 w.heap.size)) := badO1 (hc := ((g11.block _ (by rw [s10]; omega)).trans ((g10.block _ (by rw [s9]; omega)).trans ((g9.block _ (by rw [s8]; omega)).trans ((g8.block _ (by rw [s7]; omega)).trans ((g7.block _ (by rw [s6]; omega)).trans ((g6.block _ (by rw [s5]; omega)).trans ((g5.block _ (by rw [s4]; omega)).trans ((g4.block _ (by rw [s3]; omega)).trans ((g3.block _ (by rw [s2]; omega)).trans r2))))))))))
  have HB2 : Hid (PrgOk W11 (badP2 w.heap.size)) := badO2 (hc := ((g11.block _ (by rw [s10]; omega)).trans ((g10.block _ (by rw [s9]; omega)).trans ((g9.block _ (by rw [s8]; omega)).trans ((g8.block _ (by rw [s7]; omega)).trans ((g7.block _ (by rw [s6]; omega)).trans ((g6.block _ (by rw [s5]; omega)).trans ((g5.block _ (by rw [s4]; omega)).trans ((g4.block _ (by rw [s3]; omega)).trans r3)))))))))
  have HB3 : Hid (PrgOk W11 (badP3 w.heap.size)) := badO3 (hc := ((g11.block _ (by rw [s10]; omega)).trans ((g10.block _ (by rw [s9]; omega)).trans ((g9.block _ (by rw [s8]; omega)).trans ((g8.block _ (by rw [s7]; omega)).trans ((g7.block _ (by rw [s6]; omega)).trans ((g6.block _ (by rw [s5]; omega)).trans ((g5.block _ (by rw [s4]; omega)).trans r4)))))))) (ha := ((g11.block _ (by rw [s10]; omega)).trans ((g10.block _ (by rw [s9]; omega)).trans ((g9.block _ (by rw [s8]; omega)).trans ((g8.block _ (by rw [s7]; omega)).trans ((g7.block _ (by rw [s6]; omega)).trans ((g6.block _ (by rw [s5]; omega)).trans ((g5.block _ (by rw [s4]; omega)).trans ((g4.block _ (by rw [s3]; omega)).trans ((g3.block _ (by rw [s2]; omega)).trans ((g2.block _ (by rw [s1]; omega)).trans r1)))))))))))
  have HB4 : Hid (PrgOk W11 (badP4 w.heap.size)) := badO4 (hc := ((g11.block _ (by rw [s10]; omega)).trans ((g10.block _ (by rw [s9]; omega)).trans ((g9.block _ (by rw [s8]; omega)).trans ((g8.block _ (by rw [s7]; omega)).trans ((g7.block _ (by rw [s6]; omega)).trans ((g6.block _ (by rw [s5]; omega)).trans r5))))))) (ha := ((g11.block _ (by rw [s10]; omega)).trans ((g10.block _ (by rw [s9]; omega)).trans ((g9.block _ (by rw [s8]; omega)).trans ((g8.block _ (by rw [s7]; omega)).trans ((g7.block _ (by rw [s6]; omega)).trans ((g6.block _ (by rw [s5]; omega)).trans ((g5.block _ (by rw [s4]; omega)).trans ((g4.block _ (by rw [s3]; omega)).trans ((g3.block _ (by rw [s2]; omega)).trans ((g2.block _ (by rw [s1]; omega)).trans r1)))))))))))
  have HB5 : Hid (PrgOk W11 (badP5 w.heap.size)) := badO5 (hc := ((g11.block _ (by rw [s10]; omega)).trans ((g10.block _ (by rw [s9]; omega)).trans ((g9.block _ (by rw [s8]; omega)).trans ((g8.block _ (by rw [s7]; omega)).trans ((g7.block _ (by rw [s6]; omega)).trans r6)))))) (ha := ((g11.block _ (by rw [s10]; omega)).trans ((g10.block _ (by rw [s9]; omega)).trans ((g9.block _ (by rw [s8]; omega)).trans ((g8.block _ (by rw [s7]; omega)).trans ((g7.block _ (by rw [s6]; omega)).trans ((g6.block _ (by rw [s5]; omega)).trans ((g5.block _ (by rw [s4]; omega)).trans ((g4.block _ (by rw [s3]; omega)).trans ((g3.block _ (by rw [s2]; omega)).trans ((g2.block _ (by rw [s1]; omega)).trans r1)))))))))))
  have HB6 : Hid (PrgOk W11 (badP6 w.heap.size)) := badO6 (hc := ((g11.block _ (by rw [s10]; omega)).trans ((g10.block _ (by rw [s9]; omega)).trans ((g9.block _ (by rw [s8]; omega)).trans ((g8.block _ (by rw [s7]; omega)).trans r7))))) (ha := ((g11.block _ (by rw [s10]; omega)).trans ((g10.block _ (by rw [s9]; omega)).trans ((g9.block _ (by rw [s8]; omega)).trans ((g8.block _ (by rw [s7]; omega)).trans ((g7.block _ (by rw [s6]; omega)).trans ((g6.block _ (by rw [s5]; omega)).trans ((g5.block _ (by rw [s4]; omega)).trans ((g4.block _ (by rw [s3]; omega)).trans ((g3.block _ (by rw [s2]; omega)).trans ((g2.block _ (by rw [s1]; omega)).trans r1)))))))))))
  have HB7 : Hid (PrgOk W11 (badP7 w.heap.size)) := badO7 (hc := ((g11.block _ (by rw [s10]; omega)).trans ((g10.block _ (by rw [s9]; omega)).trans ((g9.block _ (by rw [s8]; omega)).trans r8)))) (ha := ((g11.block _ (by rw [s10]; omega)).trans ((g10.block _ (by rw [s9]; omega)).trans ((g9.block _ (by rw [s8]; omega)).trans ((g8.block _ (by rw [s7]; omega)).trans ((g7.block _ (by rw [s6]; omega)).trans ((g6.block _ (by rw [s5]; omega)).trans ((g5.block _ (by rw [s4]; omega)).trans ((g4.block _ (by rw [s3]; omega)).trans ((g3.block _ (by rw [s2]; omega)).trans ((g2.block _ (by rw [s1]; omega)).trans r1)))))))))))
  have HB8 : Hid (PrgOk W11 (badP8 w.heap.size)) := badO8 (hc := ((g11.block _ (by rw [s10]; omega)).trans ((g10.block _ (by rw [s9]; omega)).trans r9))) (ha := ((g11.block _ (by rw [s10]; omega)).trans ((g10.block _ (by rw [s9]; omega)).trans ((g9.block _ (by rw [s8]; omega)).trans ((g8.block _ (by rw [s7]; omega)).trans ((g7.block _ (by rw [s6]; omega)).trans ((g6.block _ (by rw [s5]; omega)).trans ((g5.block _ (by rw [s4]; omega)).trans ((g4.block _ (by rw [s3]; omega)).trans ((g3.block _ (by rw [s2]; omega)).trans ((g2.block _ (by rw [s1]; omega)).trans r1)))))))))))
  have zO : w.heap.size + 1 + 1 + 1 + 1 + 1 + 1 + 1 + 1 + 1 < W11.heap.size := by rw [s11]; omega
  have zE : w.heap.size + 1 + 1 + 1 + 1 + 1 + 1 + 1 + 1 + 1 + 1 < W11.heap.size := by rw [s11]; omega
  have hT' : Opr W11 := hT.gr hG'
  have cO := (row_all HO.out).1
  clear e11 s11 g11 r11 e10 s10 g10 r10 e9 s9 g9 r9 e8 s8 g8 r8 e7 s7 g7 r7 e6 s6 g6 r6 e5 s5 g5 r5 e4 s4 g4 r4 e3 s3 g3 r3 e2 s2 g2 r2 e1 s1 g1 r1
  go_upto_region 5 with (go_at_call 7; refine (picked_any _ _ _ w0 (by omega) (by omega)).mono ?_; rintro e w12 ⟨rfl, hw12⟩; subst w12)
  rcases HPK.out with h | h | h | h | h | h | h | h | h
  · have HV : Hid _ := fun W (h1 : PrgOk W (badP0 w.heap.size)) (h2 : Opr W) => verify_any (badP0 w.heap.size) W h1 h2
    have HR : Hid _ := fun W (h1 : PrgOk W (badP0 w.heap.size)) (h2 : Opr W) => run_no (badP0 w.heap.size) 0 W h1 h2 (badV0 _) (by decide)
    have HE : Hid _ := fun W (h1 : PrgOk W (badP0 w.heap.size)) (h2 : Opr W) => encode_no (badP0 w.heap.size) W h1 h2 (badV0 _) (by decide)
    rw [badV0] at HV
    rw [badC0] at HV HR HE
    have hok := HB0.out
    simp only [h]
    go_wp2_with fail
    refine (HV.out _ hok hT').mono ?_
    rintro e w12 ⟨rfl, hg12⟩
    simp only [ret3]
    obtain ⟨cO, -⟩ := row_all ((hg12.block _ zO).trans HO.out)
    go_wp2_with fail
    refine (HR.out _ (hok.gr hg12) (hT'.gr hg12)).mono ?_
    rintro e w13 ⟨rfl, hg13⟩
    clear cO
    have gA := hg12.trans hg13
    have zO' : w.heap.size + 1 + 1 + 1 + 1 + 1 + 1 + 1 + 1 + 1 < w13.heap.size := Nat.lt_of_lt_of_le zO gA.size
    obtain ⟨cO, -⟩ := row_all ((gA.block _ zO).trans HO.out)
    go_wp2_with fail
    have gB : Gr W11 (w13.alloc (Obj.cells #[Value.int .i64 0, .bool false, .string ⟨#[]⟩, .slice none 0 0, .int .i64 0] 34)) := gA.alloc _
    refine (HE.out _ (hok.gr gB) (hT'.gr gB)).mono ?_
    rintro e w14 ⟨rfl, hg14⟩
    clear cO
    have gC := gB.trans hg14
    obtain ⟨cE, -⟩ := row_all ((gC.block _ zE).trans HE11.out)
    go_wp2
    go_ret
    exact ⟨rfl, hG'.trans gC⟩
  · have HV : Hid _ := fun W (h1 : PrgOk W (badP1 w.heap.size)) (h2 : Opr W) => verify_any (badP1 w.heap.size) W h1 h2
    have HR : Hid _ := fun W (h1 : PrgOk W (badP1 w.heap.size)) (h2 : Opr W) => run_no (badP1 w.heap.size) 0 W h1 h2 (badV1 _) (by decide)
    have HE : Hid _ := fun W (h1 : PrgOk W (badP1 w.heap.size)) (h2 : Opr W) => encode_no (badP1 w.heap.size) W h1 h2 (badV1 _) (by decide)
    rw [badV1] at HV
    rw [badC1] at HV HR HE
    have hok := HB1.out
    simp only [h]
    go_wp2_with fail
    refine (HV.out _ hok hT').mono ?_
    rintro e w12 ⟨rfl, hg12⟩
    simp only [ret3]
    obtain ⟨cO, -⟩ := row_all ((hg12.block _ zO).trans HO.out)
    go_wp2_with fail
    refine (HR.out _ (hok.gr hg12) (hT'.gr hg12)).mono ?_
    rintro e w13 ⟨rfl, hg13⟩
    clear cO
    have gA := hg12.trans hg13
    have zO' : w.heap.size + 1 + 1 + 1 + 1 + 1 + 1 + 1 + 1 + 1 < w13.heap.size := Nat.lt_of_lt_of_le zO gA.size
    obtain ⟨cO, -⟩ := row_all ((gA.block _ zO).trans HO.out)
    go_wp2_with fail
    have gB : Gr W11 (w13.alloc (Obj.cells #[Value.int .i64 0, .bool false, .string ⟨#[]⟩, .slice none 0 0, .int .i64 0] 34)) := gA.alloc _
    refine (HE.out _ (hok.gr gB) (hT'.gr gB)).mono ?_
    rintro e w14 ⟨rfl, hg14⟩
    clear cO
    have gC := gB.trans hg14
    obtain ⟨cE, -⟩ := row_all ((gC.block _ zE).trans HE11.out)
    go_wp2
    go_ret
    exact ⟨rfl, hG'.trans gC⟩
  · have HV : Hid _ := fun W (h1 : PrgOk W (badP2 w.heap.size)) (h2 : Opr W) => verify_any (badP2 w.heap.size) W h1 h2
    have HR : Hid _ := fun W (h1 : PrgOk W (badP2 w.heap.size)) (h2 : Opr W) => run_no (badP2 w.heap.size) 0 W h1 h2 (badV2 _) (by decide)
    have HE : Hid _ := fun W (h1 : PrgOk W (badP2 w.heap.size)) (h2 : Opr W) => encode_no (badP2 w.heap.size) W h1 h2 (badV2 _) (by decide)
    rw [badV2] at HV
    rw [badC2] at HV HR HE
    have hok := HB2.out
    simp only [h]
    go_wp2_with fail
    refine (HV.out _ hok hT').mono ?_
    rintro e w12 ⟨rfl, hg12⟩
    simp only [ret3]
    obtain ⟨cO, -⟩ := row_all ((hg12.block _ zO).trans HO.out)
    go_wp2_with fail
    refine (HR.out _ (hok.gr hg12) (hT'.gr hg12)).mono ?_
    rintro e w13 ⟨rfl, hg13⟩
    clear cO
    have gA := hg12.trans hg13
    have zO' : w.heap.size + 1 + 1 + 1 + 1 + 1 + 1 + 1 + 1 + 1 < w13.heap.size := Nat.lt_of_lt_of_le zO gA.size
    obtain ⟨cO, -⟩ := row_all ((gA.block _ zO).trans HO.out)
    go_wp2_with fail
    have gB : Gr W11 (w13.alloc (Obj.cells #[Value.int .i64 0, .bool false, .string ⟨#[]⟩, .slice none 0 0, .int .i64 0] 34)) := gA.alloc _
    refine (HE.out _ (hok.gr gB) (hT'.gr gB)).mono ?_
    rintro e w14 ⟨rfl, hg14⟩
    clear cO
    have gC := gB.trans hg14
    obtain ⟨cE, -⟩ := row_all ((gC.block _ zE).trans HE11.out)
    go_wp2
    go_ret
    exact ⟨rfl, hG'.trans gC⟩
  · have HV : Hid _ := fun W (h1 : PrgOk W (badP3 w.heap.size)) (h2 : Opr W) => verify_any (badP3 w.heap.size) W h1 h2
    have HR : Hid _ := fun W (h1 : PrgOk W (badP3 w.heap.size)) (h2 : Opr W) => run_no (badP3 w.heap.size) 0 W h1 h2 (badV3 _) (by decide)
    have HE : Hid _ := fun W (h1 : PrgOk W (badP3 w.heap.size)) (h2 : Opr W) => encode_no (badP3 w.heap.size) W h1 h2 (badV3 _) (by decide)
    rw [badV3] at HV
    rw [badC3] at HV HR HE
    have hok := HB3.out
    simp only [h]
    go_wp2_with fail
    refine (HV.out _ hok hT').mono ?_
    rintro e w12 ⟨rfl, hg12⟩
    simp only [ret3]
    obtain ⟨cO, -⟩ := row_all ((hg12.block _ zO).trans HO.out)
    go_wp2_with fail
    refine (HR.out _ (hok.gr hg12) (hT'.gr hg12)).mono ?_
    rintro e w13 ⟨rfl, hg13⟩
    clear cO
    have gA := hg12.trans hg13
    have zO' : w.heap.size + 1 + 1 + 1 + 1 + 1 + 1 + 1 + 1 + 1 < w13.heap.size := Nat.lt_of_lt_of_le zO gA.size
    obtain ⟨cO, -⟩ := row_all ((gA.block _ zO).trans HO.out)
    go_wp2_with fail
    have gB : Gr W11 (w13.alloc (Obj.cells #[Value.int .i64 0, .bool false, .string ⟨#[]⟩, .slice none 0 0, .int .i64 0] 34)) := gA.alloc _
    refine (HE.out _ (hok.gr gB) (hT'.gr gB)).mono ?_
    rintro e w14 ⟨rfl, hg14⟩
    clear cO
    have gC := gB.trans hg14
    obtain ⟨cE, -⟩ := row_all ((gC.block _ zE).trans HE11.out)
    go_wp2
    go_ret
    exact ⟨rfl, hG'.trans gC⟩
  · have HV : Hid _ := fun W (h1 : PrgOk W (badP4 w.heap.size)) (h2 : Opr W) => verify_any (badP4 w.heap.size) W h1 h2
    have HR : Hid _ := fun W (h1 : PrgOk W (badP4 w.heap.size)) (h2 : Opr W) => run_no (badP4 w.heap.size) 0 W h1 h2 (badV4 _) (by decide)
    have HE : Hid _ := fun W (h1 : PrgOk W (badP4 w.heap.size)) (h2 : Opr W) => encode_no (badP4 w.heap.size) W h1 h2 (badV4 _) (by decide)
    rw [badV4] at HV
    rw [badC4] at HV HR HE
    have hok := HB4.out
    simp only [h]
    go_wp2_with fail
    refine (HV.out _ hok hT').mono ?_
    rintro e w12 ⟨rfl, hg12⟩
    simp only [ret3]
    obtain ⟨cO, -⟩ := row_all ((hg12.block _ zO).trans HO.out)
    go_wp2_with fail
    refine (HR.out _ (hok.gr hg12) (hT'.gr hg12)).mono ?_
    rintro e w13 ⟨rfl, hg13⟩
    clear cO
    have gA := hg12.trans hg13
    have zO' : w.heap.size + 1 + 1 + 1 + 1 + 1 + 1 + 1 + 1 + 1 < w13.heap.size := Nat.lt_of_lt_of_le zO gA.size
    obtain ⟨cO, -⟩ := row_all ((gA.block _ zO).trans HO.out)
    go_wp2_with fail
    have gB : Gr W11 (w13.alloc (Obj.cells #[Value.int .i64 0, .bool false, .string ⟨#[]⟩, .slice none 0 0, .int .i64 0] 34)) := gA.alloc _
    refine (HE.out _ (hok.gr gB) (hT'.gr gB)).mono ?_
    rintro e w14 ⟨rfl, hg14⟩
    clear cO
    have gC := gB.trans hg14
    obtain ⟨cE, -⟩ := row_all ((gC.block _ zE).trans HE11.out)
    go_wp2
    go_ret
    exact ⟨rfl, hG'.trans gC⟩
  · have HV : Hid _ := fun W (h1 : PrgOk W (badP5 w.heap.size)) (h2 : Opr W) => verify_any (badP5 w.heap.size) W h1 h2
    have HR : Hid _ := fun W (h1 : PrgOk W (badP5 w.heap.size)) (h2 : Opr W) => run_no (badP5 w.heap.size) 0 W h1 h2 (badV5 _) (by decide)
    have HE : Hid _ := fun W (h1 : PrgOk W (badP5 w.heap.size)) (h2 : Opr W) => encode_no (badP5 w.heap.size) W h1 h2 (badV5 _) (by decide)
    rw [badV5] at HV
    rw [badC5] at HV HR HE
    have hok := HB5.out
    simp only [h]
    go_wp2_with fail
    refine (HV.out _ hok hT').mono ?_
    rintro e w12 ⟨rfl, hg12⟩
    simp only [ret3]
    obtain ⟨cO, -⟩ := row_all ((hg12.block _ zO).trans HO.out)
    go_wp2_with fail
    refine (HR.out _ (hok.gr hg12) (hT'.gr hg12)).mono ?_
    rintro e w13 ⟨rfl, hg13⟩
    clear cO
    have gA := hg12.trans hg13
    have zO' : w.heap.size + 1 + 1 + 1 + 1 + 1 + 1 + 1 + 1 + 1 < w13.heap.size := Nat.lt_of_lt_of_le zO gA.size
    obtain ⟨cO, -⟩ := row_all ((gA.block _ zO).trans HO.out)
    go_wp2_with fail
    have gB : Gr W11 (w13.alloc (Obj.cells #[Value.int .i64 0, .bool false, .string ⟨#[]⟩, .slice none 0 0, .int .i64 0] 34)) := gA.alloc _
    refine (HE.out _ (hok.gr gB) (hT'.gr gB)).mono ?_
    rintro e w14 ⟨rfl, hg14⟩
    clear cO
    have gC := gB.trans hg14
    obtain ⟨cE, -⟩ := row_all ((gC.block _ zE).trans HE11.out)
    go_wp2
    go_ret
    exact ⟨rfl, hG'.trans gC⟩
  · have HV : Hid _ := fun W (h1 : PrgOk W (badP6 w.heap.size)) (h2 : Opr W) => verify_any (badP6 w.heap.size) W h1 h2
    have HR : Hid _ := fun W (h1 : PrgOk W (badP6 w.heap.size)) (h2 : Opr W) => run_no (badP6 w.heap.size) 0 W h1 h2 (badV6 _) (by decide)
    have HE : Hid _ := fun W (h1 : PrgOk W (badP6 w.heap.size)) (h2 : Opr W) => encode_no (badP6 w.heap.size) W h1 h2 (badV6 _) (by decide)
    rw [badV6] at HV
    rw [badC6] at HV HR HE
    have hok := HB6.out
    simp only [h]
    go_wp2_with fail
    refine (HV.out _ hok hT').mono ?_
    rintro e w12 ⟨rfl, hg12⟩
    simp only [ret3]
    obtain ⟨cO, -⟩ := row_all ((hg12.block _ zO).trans HO.out)
    go_wp2_with fail
    refine (HR.out _ (hok.gr hg12) (hT'.gr hg12)).mono ?_
    rintro e w13 ⟨rfl, hg13⟩
    clear cO
    have gA := hg12.trans hg13
    have zO' : w.heap.size + 1 + 1 + 1 + 1 + 1 + 1 + 1 + 1 + 1 < w13.heap.size := Nat.lt_of_lt_of_le zO gA.size
    obtain ⟨cO, -⟩ := row_all ((gA.block _ zO).trans HO.out)
    go_wp2_with fail
    have gB : Gr W11 (w13.alloc (Obj.cells #[Value.int .i64 0, .bool false, .string ⟨#[]⟩, .slice none 0 0, .int .i64 0] 34)) := gA.alloc _
    refine (HE.out _ (hok.gr gB) (hT'.gr gB)).mono ?_
    rintro e w14 ⟨rfl, hg14⟩
    clear cO
    have gC := gB.trans hg14
    obtain ⟨cE, -⟩ := row_all ((gC.block _ zE).trans HE11.out)
    go_wp2
    go_ret
    exact ⟨rfl, hG'.trans gC⟩
  · have HV : Hid _ := fun W (h1 : PrgOk W (badP7 w.heap.size)) (h2 : Opr W) => verify_any (badP7 w.heap.size) W h1 h2
    have HR : Hid _ := fun W (h1 : PrgOk W (badP7 w.heap.size)) (h2 : Opr W) => run_no (badP7 w.heap.size) 0 W h1 h2 (badV7 _) (by decide)
    have HE : Hid _ := fun W (h1 : PrgOk W (badP7 w.heap.size)) (h2 : Opr W) => encode_no (badP7 w.heap.size) W h1 h2 (badV7 _) (by decide)
    rw [badV7] at HV
    rw [badC7] at HV HR HE
    have hok := HB7.out
    simp only [h]
    go_wp2_with fail
    refine (HV.out _ hok hT').mono ?_
    rintro e w12 ⟨rfl, hg12⟩
    simp only [ret3]
    obtain ⟨cO, -⟩ := row_all ((hg12.block _ zO).trans HO.out)
    go_wp2_with fail
    refine (HR.out _ (hok.gr hg12) (hT'.gr hg12)).mono ?_
    rintro e w13 ⟨rfl, hg13⟩
    clear cO
    have gA := hg12.trans hg13
    have zO' : w.heap.size + 1 + 1 + 1 + 1 + 1 + 1 + 1 + 1 + 1 < w13.heap.size := Nat.lt_of_lt_of_le zO gA.size
    obtain ⟨cO, -⟩ := row_all ((gA.block _ zO).trans HO.out)
    go_wp2_with fail
    have gB : Gr W11 (w13.alloc (Obj.cells #[Value.int .i64 0, .bool false, .string ⟨#[]⟩, .slice none 0 0, .int .i64 0] 34)) := gA.alloc _
    refine (HE.out _ (hok.gr gB) (hT'.gr gB)).mono ?_
    rintro e w14 ⟨rfl, hg14⟩
    clear cO
    have gC := gB.trans hg14
    obtain ⟨cE, -⟩ := row_all ((gC.block _ zE).trans HE11.out)
    go_wp2
    go_ret
    exact ⟨rfl, hG'.trans gC⟩
  · have HV : Hid _ := fun W (h1 : PrgOk W (badP8 w.heap.size)) (h2 : Opr W) => verify_any (badP8 w.heap.size) W h1 h2
    have HR : Hid _ := fun W (h1 : PrgOk W (badP8 w.heap.size)) (h2 : Opr W) => run_no (badP8 w.heap.size) 0 W h1 h2 (badV8 _) (by decide)
    have HE : Hid _ := fun W (h1 : PrgOk W (badP8 w.heap.size)) (h2 : Opr W) => encode_no (badP8 w.heap.size) W h1 h2 (badV8 _) (by decide)
    rw [badV8] at HV
    rw [badC8] at HV HR HE
    have hok := HB8.out
    simp only [h]
    go_wp2_with fail
    refine (HV.out _ hok hT').mono ?_
    rintro e w12 ⟨rfl, hg12⟩
    simp only [ret3]
    obtain ⟨cO, -⟩ := row_all ((hg12.block _ zO).trans HO.out)
    go_wp2_with fail
    refine (HR.out _ (hok.gr hg12) (hT'.gr hg12)).mono ?_
    rintro e w13 ⟨rfl, hg13⟩
    clear cO
    have gA := hg12.trans hg13
    have zO' : w.heap.size + 1 + 1 + 1 + 1 + 1 + 1 + 1 + 1 + 1 < w13.heap.size := Nat.lt_of_lt_of_le zO gA.size
    obtain ⟨cO, -⟩ := row_all ((gA.block _ zO).trans HO.out)
    go_wp2_with fail
    have gB : Gr W11 (w13.alloc (Obj.cells #[Value.int .i64 0, .bool false, .string ⟨#[]⟩, .slice none 0 0, .int .i64 0] 34)) := gA.alloc _
    refine (HE.out _ (hok.gr gB) (hT'.gr gB)).mono ?_
    rintro e w14 ⟨rfl, hg14⟩
    clear cO
    have gC := gB.trans hg14
    obtain ⟨cE, -⟩ := row_all ((gC.block _ zE).trans HE11.out)
    go_wp2
    go_ret
    exact ⟨rfl, hG'.trans gC⟩
end Go.Proofs.YtepccifohoipeaaDoor
