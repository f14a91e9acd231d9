/- Contract: all numbers parted by the nodes of a forest. Made by genPaW.py out of PaP0.tpl. -/
import Derived.Test.YtcpmbjlhblkniaaDoorPaWm
namespace Go.Proofs.YtcpmbjlhblkniaaDoor
open Go.ChangeShapes Go.WideShapes Go.ChangeAt Go.RowKit
set_option linter.unusedVariables false
set_option maxRecDepth 100000
theorem name_worldP {p : World → Prop} (w : World) (h : ∀ W, W = w → p W) : p w := h w rfl
theorem heap4P (w : World) (o1 o2 o3 o4 : Obj) : ((((w.alloc o1).alloc o2).alloc o3).alloc o4).heap[w.heap.size]? = some o1 ∧ ((((w.alloc o1).alloc o2).alloc o3).alloc o4).heap[w.heap.size + 1]? = some o2 ∧ ((((w.alloc o1).alloc o2).alloc o3).alloc o4).heap[w.heap.size + 1 + 1]? = some o3 ∧ ((((w.alloc o1).alloc o2).alloc o3).alloc o4).heap[w.heap.size + 1 + 1 + 1]? = some o4 := by
  refine ⟨?_, ?_, ?_, ?_⟩
  · rw [Below.heap_alloc _ _ _ (by simp <;> omega), Below.heap_alloc _ _ _ (by simp <;> omega), Below.heap_alloc _ _ _ (by simp)]; exact heapA w o1
  · rw [Below.heap_alloc _ _ _ (by simp <;> omega), Below.heap_alloc _ _ _ (by simp)]; simpa using heapA (w.alloc o1) o2
  · rw [Below.heap_alloc _ _ _ (by simp)]; simpa using heapA ((w.alloc o1).alloc o2) o3
  · simpa using heapA (((w.alloc o1).alloc o2).alloc o3) o4
/-- What parting all numbers leaves. -/
structure PartsPost {σ : Type} (low base : Nat) (I : σ → World → Prop) (St : σ → σ → Prop) (Say : σ → Int → Nat → Prop) (w w' : World) (s s' : σ) (v' : Value) (qs ps : List (Int × Int)) : Prop where
  i : I s' w'
  st : St s s'
  row : w'.ownsRow base 147 2 v' qs.length (partL qs)
  low2 : low ≤ base
  says : Says (Say s') ps qs
  wl : Wl low w w'
set_option maxHeartbeats 3200000 in
theorem partsOfM_any {σ : Type} (cb fb : Nat) (many low : Nat) (I : σ → World → Prop) (St : σ → σ → Prop) (Say : σ → Int → Nat → Prop) (hT : TellsM cb fb many low I St Say) (na : Option Addr) (ncap : Nat) (nodes : List Tre.Nod) (hnl : nodes.length ≤ 30000) (hncap : nodes.length ≤ ncap) (hD : Down nodes) (hok : ∀ n ∈ nodes, NodOk n) (hans : ∀ nd ∈ nodes, nd.leaf = true → 0 ≤ nd.ans ∧ nd.ans < many) (root : Tre.Nod) (hroot : nodes[nodes.length - 1]? = some root) (s : σ) (w : World) (hI : I s w) (hN : NodesLow low w na nodes) :
    Calls Tryd.prog 56 #[.slice na nodes.length ncap, .func (.func 57) #[] #[.pointer (some ⟨cb, 0, none⟩), .pointer (some ⟨fb, 0, none⟩)]] w fun e w' =>
      ∃ (s' : σ) (v' : Value) (qs : List (Int × Int)) (base : Nat), e = .returned v' ∧ PartsPost low base I St Say w w' s s' v' qs (wkD nodes nodes.length root minI maxI) := by
  have hlt := (List.getElem?_eq_some_iff.1 hroot).1
  have hlw := hT.low s w hI
  have hwk := wk_all hD nodes.length (nodes.length - 1) root minI maxI (by omega) hroot (by unfold minI maxI; omega)
  have hlen := hwk.len2
  obtain ⟨P, hP⟩ : ∃ P, wkD nodes nodes.length root minI maxI = P := ⟨_, rfl⟩
  rw [hP] at hlen ⊢
  have HP : Hid _ := hP
  clear hP hwk
  obtain ⟨b, o, rfl, hb, hc⟩ := hN.cell _ root hroot
  obtain ⟨q0, q1, q2, q3, q4⟩ := hc
  simp [Nod.cells] at q0 q1 q2 q3 q4
  have hbw : b < w.heap.size := by omega
  have i1 : (nodes.length : Int) - 1 < (nodes.length : Int) := by omega
  have i2 : (0 : Int) ≤ (nodes.length : Int) - 1 := by omega
  have i4 : (1 : Int) ≤ (nodes.length : Int) := by omega
  have i5 : (0 : Int) < (nodes.length : Int) := by omega
  have i6 : 1 ≤ nodes.length := by omega
  have i7 : (nodes.length : Int) ≤ (ncap : Int) := by omega
  have i3 : ((nodes.length : Int) - 1).toNat = nodes.length - 1 := by omega
  have hwr : IntKind.i64.wrap ((nodes.length : Int) - 1) = (nodes.length : Int) - 1 := IntWalk.i64_in _ ⟨by omega, by omega⟩
  have HR : Hid _ := hroot
  clear hroot
  go_enter Tryd.func56, Tryd.ntmps56
  go_wp2_with fail
  refine name_worldP (p := fun W => Code.wp _ _ _ _ W) _ (fun W hW => ?_)
  obtain ⟨h1, h2, h3, h4⟩ := heap4P w (.cells #[.slice (some ⟨b, o, none⟩) nodes.length ncap] 40) (.cells #[.func (.func 57) #[] #[.pointer (some ⟨cb, 0, none⟩), .pointer (some ⟨fb, 0, none⟩)]] 125) (.cells #[.slice none 0 0] 123) (.cells #[.func (.func 75) #[] #[.pointer (some ⟨w.heap.size, 0, none⟩), .pointer (some ⟨w.heap.size + 1 + 1, 0, none⟩), .pointer (some ⟨w.heap.size + 1, 0, none⟩), .pointer (some ⟨w.heap.size + 1 + 1 + 1, 0, none⟩)]] 145)
  rw [← hW] at h1 h2 h3 h4
  have gW : Gr w W := by rw [hW]; exact ((((Gr.refl _).alloc _).alloc _).alloc _).alloc _
  have zW : W.heap.size = w.heap.size + 4 := by rw [hW]; simp
  clear hW
  have hK : WkRM cb fb low (w.heap.size + 4) w.heap.size (w.heap.size + 1 + 1) (w.heap.size + 1) (w.heap.size + 1 + 1 + 1) (.slice (some ⟨b, o, none⟩) nodes.length ncap) W (.slice none 0 0) [] := ⟨h1, h3, h2, h4, ⟨by simp [partL], Or.inl ⟨rfl, rfl⟩⟩, by omega, by omega, by omega, by omega⟩
  have HC : Hid _ := fun W' (hg : Gr W W') => walkM_any cb fb many low I St Say hT (w.heap.size + 4) w.heap.size (w.heap.size + 1 + 1) (w.heap.size + 1) (w.heap.size + 1 + 1 + 1) (some ⟨b, o, none⟩) ncap nodes (by omega) hncap hD hok hans nodes.length (nodes.length - 1) root minI maxI s (.slice none 0 0) [] W' (by omega) HR.out (by unfold minI maxI; omega) (by decide) (by decide) (hT.keep _ _ _ hI (Pw.ofGr (gW.trans hg))) (hN.gr (gW.trans hg) hlw) (hK.gr hg) (by rw [show nodes.length - 1 + 1 = nodes.length by omega, HP.out]; simp; omega)
  rw [show nodes.length - 1 + 1 = nodes.length by omega, HP.out] at HC
  simp only [Nod.cells, minI, maxI] at HC
  have g := fun o => World.cell?_of_block (w := w) (a := ⟨b, o, none⟩) (gW.block b hbw)
  have hO : W.cell? ⟨w.heap.size + 1 + 1 + 1, 0, none⟩ = some (.func (.func 75) #[] #[.pointer (some ⟨w.heap.size, 0, none⟩), .pointer (some ⟨w.heap.size + 1 + 1, 0, none⟩), .pointer (some ⟨w.heap.size + 1, 0, none⟩), .pointer (some ⟨w.heap.size + 1 + 1 + 1, 0, none⟩)]) ∧ W.cell? ⟨w.heap.size, 0, none⟩ = some (.slice (some ⟨b, o, none⟩) nodes.length ncap) ∧ W.cell? ⟨b, o + (nodes.length - 1) * 5, none⟩ = some (.bool root.leaf) ∧ W.cell? ⟨b, o + (nodes.length - 1) * 5 + 1, none⟩ = some (.int .i64 root.ans) ∧ W.cell? ⟨b, o + (nodes.length - 1) * 5 + 2, none⟩ = some (.int .i64 root.bound) ∧ W.cell? ⟨b, o + (nodes.length - 1) * 5 + 3, none⟩ = some (.int .i64 root.less) ∧ W.cell? ⟨b, o + (nodes.length - 1) * 5 + 4, none⟩ = some (.int .i64 root.more) := ⟨(row_all h4).1 0, (row_all h1).1 0, (g _).trans q0, (g _).trans q1, (g _).trans q2, (g _).trans q3, (g _).trans q4⟩
  clear g q0 q1 q2 q3 q4 h1 h2 h3 h4
  go_region_held3 (fun w' => w'.cell? ⟨w.heap.size + 1 + 1 + 1, 0, none⟩ = some (.func (.func 75) #[] #[.pointer (some ⟨w.heap.size, 0, none⟩), .pointer (some ⟨w.heap.size + 1 + 1, 0, none⟩), .pointer (some ⟨w.heap.size + 1, 0, none⟩), .pointer (some ⟨w.heap.size + 1 + 1 + 1, 0, none⟩)]) ∧ w'.cell? ⟨w.heap.size, 0, none⟩ = some (.slice (some ⟨b, o, none⟩) nodes.length ncap) ∧ w'.cell? ⟨b, o + (nodes.length - 1) * 5, none⟩ = some (.bool root.leaf) ∧ w'.cell? ⟨b, o + (nodes.length - 1) * 5 + 1, none⟩ = some (.int .i64 root.ans) ∧ w'.cell? ⟨b, o + (nodes.length - 1) * 5 + 2, none⟩ = some (.int .i64 root.bound) ∧ w'.cell? ⟨b, o + (nodes.length - 1) * 5 + 3, none⟩ = some (.int .i64 root.less) ∧ w'.cell? ⟨b, o + (nodes.length - 1) * 5 + 4, none⟩ = some (.int .i64 root.more)) (first | with_reducible exact hO | (simpa [go_sem] using hO))
    (first
      | (go_at_call 75; refine (HC.out _ (by repeat (with_reducible first | exact Gr.refl _ | refine Gr.drew ?_))).mono ?_; rintro e w5 ⟨rfl, s1, v1, qs1, hp1⟩
         have hwl5 : Wl low W w5 := ⟨hp1.wl.os, hp1.wl.out, hp1.wl.size, hp1.wl.block, hp1.wl.typed⟩
         have g := fun o => World.cell?_of_block (w := W) (a := ⟨b, o, none⟩) (hwl5.block b hb)
         have e0 := (row_all hp1.wk.wbox).1 0
         have e1 := (row_all hp1.wk.nbox).1 0
         simp at e0 e1
         replace hO := And.intro e0 (And.intro e1 (And.intro ((g _).trans hO.2.2.1) (And.intro ((g _).trans hO.2.2.2.1) (And.intro ((g _).trans hO.2.2.2.2.1) (And.intro ((g _).trans hO.2.2.2.2.2.1) ((g _).trans hO.2.2.2.2.2.2))))))
         clear e0 e1 g))
  have c5 := (row_all hp1.wk.pbox).1
  obtain ⟨va, vcap, rfl⟩ : ∃ a cap, v1 = .slice a qs1.length cap := by
    have hr := hp1.wk.row
    rw [List.nil_append] at hr
    rcases hr.2 with ⟨e, e'⟩ | ⟨g, cap, cur, e, _⟩
    · exact ⟨none, 0, by rw [e, e']⟩
    · exact ⟨_, _, e⟩
  have HP1 : Hid _ := hp1
  go_wp2
  go_ret
  exact ⟨s1, .slice va qs1.length vcap, qs1, w.heap.size + 4, rfl, HP1.out.i, HP1.out.st, by have := HP1.out.wk.row; simpa using this, by omega, HP1.out.says, (Wl.ofGr gW hlw).trans hwl5⟩
end Go.Proofs.YtcpmbjlhblkniaaDoor
