/- What Gen makes may be run, and tells what the forest does: plain mathematics. -/
import Derived.Test.YtcpmbjlhblkniaaDoorGenM
namespace Go.Proofs.YtcpmbjlhblkniaaDoor
set_option linter.unusedVariables false
namespace Gn
open Ver
/-- All that is arrived at is arrived at with as many as are expected. -/
def Fits (ds : List Int) (on : On) : Prop := ∀ j d k, on j = some (d, k) → ds[j]? = some d
theorem fits_joins {ds : List Int} {d k : Int} : ∀ {l : List Nat} {on : On}, Fits ds on → (∀ j ∈ l, ds[j]? = some d) → ∃ on', joins ds.length d k l on = (0, on') ∧ Fits ds on'
  | [], on, h, _ => ⟨on, rfl, h⟩
  | j :: r, on, h, hl => by
    have hj := hl j List.mem_cons_self
    have hlt : j < ds.length := (List.getElem?_eq_some_iff.1 hj).1
    have hm : may (on j) d = true := by
      unfold may
      cases hon : on j with
      | none => rfl
      | some v =>
        obtain ⟨d', k'⟩ := v
        have := h j d' k' hon
        rw [hj] at this
        cases this
        simp [stk]
    unfold joins
    rw [if_neg (by omega), if_pos hm]
    refine fits_joins (fun i d' k' e => ?_) (fun i hi => hl i (List.mem_cons_of_mem _ hi))
    unfold joinU upd at e
    split at e
    · rename_i hij
      cases e
      rw [hij]; exact hj
    · exact h i d' k' e
theorem run_fits {pl al : Nat} {code : List Ins} {ds : List Int} (ho : Okk pl al code ds) : ∀ (m i : Nat) (on : On) (s t : Int), code.length = i + m → Fits ds on → (run code.length (code.drop i) i on s t).2.2 = 0
  | 0, i, on, s, t, hm, _ => by rw [run_end (by omega)]
  | m + 1, i, on, s, t, hm, hf => by
    obtain ⟨x, hx⟩ : ∃ x, code[i]? = some x := ⟨_, List.getElem?_eq_getElem (by omega)⟩
    cases hon : on i with
    | none =>
      rw [run_none hx hon]
      exact run_fits ho m (i + 1) on s t (by omega) hf
    | some v =>
      obtain ⟨d, k⟩ := v
      obtain ⟨_, _, g3, g4, g5⟩ := ho.at_ i x d hx (hf i d k hon)
      obtain ⟨on', hj, hf'⟩ := fits_joins (k := k + 1) hf g5
      rw [ho.len] at hj
      rw [run_go hx hon (by omega) hj]
      exact run_fits ho m (i + 1) on' _ _ (by omega) hf'
theorem verify_fits {p : Prg} {ds : List Int} (ho : Okk p.pool.length p.answers.length p.code ds) (h0 : ds[0]? = some 0) (hc : p.code.length ≤ 8000) (hq : p.pool.length ≤ 2000) (ha : p.answers.length ≤ 2000) (hz : ∀ x ∈ p.answers, x.fault = 0) : prgF p = 0 ∧ (verify p).2.2 = 0 := by
  have hl : 0 < p.code.length := by
    have := (List.getElem?_eq_some_iff.1 h0).1
    rw [ho.len] at this
    exact this
  have e : prgF p = 0 := by
    refine prgF_0 (by omega) (by omega) (fun i hi => ?_) (fun i hi => ?_)
    · rw [ansE_at (List.getElem?_eq_getElem hi)]
      exact hz _ (List.getElem_mem hi)
    · rw [insE_at (List.getElem?_eq_getElem hi)]
      obtain ⟨d, hd⟩ : ∃ d, ds[i]? = some d := ⟨_, List.getElem?_eq_getElem (by rw [ho.len]; exact hi)⟩
      obtain ⟨g1, g2, _⟩ := ho.at_ i _ d (List.getElem?_eq_getElem hi) hd
      unfold insF
      rw [if_pos (show isOp _ = true from decide_eq_true g1), if_pos g2]
  refine ⟨e, ?_⟩
  rw [verify_yes e]
  exact run_fits ho p.code.length 0 on0 0 0 (by omega) (fun j d k h => by
    unfold on0 at h
    split at h
    · rename_i hj
      cases h
      rw [hj]; exact h0
    · cases h)
/-- Of a forest that may be: what is written from its last node on. -/
def all (nodes : List Tre.Nod) : GS := write nodes nodes.length (nodes.length - 1) ⟨[], fun _ => 0, []⟩
theorem all_size {f : Fst} (hG : Good f) : (all f.nodes).code.length ≤ 5 * f.nodes.length ∧ (all f.nodes).pool.length ≤ f.nodes.length := by
  have hn := hG.ne
  obtain ⟨ds, h1, _⟩ := write_inv hG f.nodes.length (f.nodes.length - 1) ⟨[], fun _ => 0, []⟩ [] (by omega) (by omega) (GInv.start _ _)
  have h2 := h1.code
  have h3 := h1.pool
  have := cnt_le (write f.nodes f.nodes.length (f.nodes.length - 1) ⟨[], fun _ => 0, []⟩).len f.nodes.length
  unfold all
  omega
theorem root_front (nodes : List Tre.Nod) {n i : Nat} (hn : i < n) (hi : i < nodes.length) : (write nodes n i ⟨[], fun _ => 0, []⟩).len i = (write nodes n i ⟨[], fun _ => 0, []⟩).code.length := by
  obtain ⟨n, rfl⟩ : ∃ q, n = q + 1 := ⟨n - 1, by omega⟩
  unfold write
  rw [if_neg (by simp), List.getElem?_eq_getElem hi]
  simp [done, updL]
theorem gen_law {f : Fst} (h0 : forF f = 0) {p : Prg} (hc : p.code = (all f.nodes).code) (hp : p.pool = (all f.nodes).pool) (ha : p.answers.length = f.answers.length) (hz : ∀ x ∈ p.answers, x.fault = 0) (h8 : p.code.length ≤ 8000) (h2 : p.pool.length ≤ 2000) :
    (verify p).2.2 = 0 ∧ ∀ t, (ran p t).1 = evalI f t := by
  have hG := good_of h0
  have hn := hG.ne
  obtain ⟨ds, h1, w1, _⟩ := write_inv hG f.nodes.length (f.nodes.length - 1) ⟨[], fun _ => 0, []⟩ [] (by omega) (by omega) (GInv.start _ _)
  have hc' : p.code = (write f.nodes f.nodes.length (f.nodes.length - 1) ⟨[], fun _ => 0, []⟩).code := hc
  have hp' : p.pool = (write f.nodes f.nodes.length (f.nodes.length - 1) ⟨[], fun _ => 0, []⟩).pool := hp
  have ho := h1.ok
  rw [← hc', ← hp', ← ha] at ho
  have hr := root_front f.nodes (n := f.nodes.length) (i := f.nodes.length - 1) (by omega) (by omega)
  have hz0 := w1.zero
  have ht := w1.tells
  rw [hr, Nat.sub_self] at hz0 ht
  rw [← hp'] at ht
  rw [List.drop_zero, ← hc'] at ht
  obtain ⟨v1, v2⟩ := verify_fits ho hz0 h8 h2 (by rw [ha]; exact hG.a2) hz
  refine ⟨v2, fun t => ?_⟩
  have := ht t p.pool (List.prefix_refl _) p.code 0 0 List.drop_zero
  rw [(hG.evalI_lt t).2]
  unfold ran
  rw [exec_fuel p.code.length (p.code.length - 0 + 1) _ _ _ (by omega) (by omega), this]
  exact hG.fuel t _ _ _ (by omega) (by omega) (by omega)
end Gn
end Go.Proofs.YtcpmbjlhblkniaaDoor
