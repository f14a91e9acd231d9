/- Proved: at every text the law CodeParses returns true: code.Parse answers as the document's answer does. The tables code.operators, internal/strconv.uint64pow10, math/bits' two, and strconv's two errors hold what their initialisers lay (tied to the program's text by the card). -/
import Derived.Test.YtoolimfdadpmpaaDoorCards
import Derived.Test.YtoolimfdadpmpaaDoorTie
import Derived.Test.YtoolimfdadpmpaaDoorPrsO
import Derived.Test.YtoolimfdadpmpaaDoorOprL
import Derived.Test.YtoolimfdadpmpaaDoorOpn
import Derived.Test.YtoolimfdadpmpaaDoorOpnY
import Derived.WalkKit
import Derived.ProofKit
import Derived.OpenShut
import Derived.Deep.DeepHandedRow
import Derived.Lib.LaidTab
import Derived.LaidSub
import Derived.Stop.LaidErr
import Derived.ChangeMaps5
namespace Go.Proofs.YtoolimfdadpmpaaDoor
open Go.ChangeMaps Go.ChangeShapes Go.WideShapes Go.ChangeAt Go.RowKit
set_option linter.unusedVariables false
set_option maxHeartbeats 1600000 in
theorem sameCode_yes (a b : Option Addr) (ca cb : Nat) (l : List Ins) (w : World) (ha : InssAt w a l) (hb : InssAt w b l) :
    Calls Tryd.prog 9 #[.slice a l.length ca, .slice b l.length cb] w fun e w' => e = .returned (.bool true) ∧ ∃ n, w' = w.drewN n := by
  have l1 := ha.len
  unfold maxLen at l1
  have g : ((l.length : Int) != (l.length : Int)) = false := by simp
  go_enter Tryd.func9, Tryd.ntmps9
  go_wp2
  go_loopw [5] (fun t wr => ∃ k : Nat, k ≤ l.length ∧ t = .int .i64 k ∧ ∃ n, wr = w.drewN n) (fun t _ => l.length - (intOf t).toNat)
  case atStart => exact ⟨0, Nat.zero_le _, rfl, 0, rfl⟩
  case round =>
    obtain ⟨k, hk, rfl, n0, rfl⟩ := hrel
    by_cases hlt : k < l.length
    · obtain ⟨x, hx⟩ : ∃ x, l[k]? = some x := ⟨_, List.getElem?_eq_getElem hlt⟩
      obtain ⟨b1, o1, rfl, hb1, c1, d1⟩ := ha.cell k x hx
      obtain ⟨b2, o2, rfl, hb2, c2, d2⟩ := hb.cell k x hx
      clear hx
      go_wp2
      go_quiet (fail)
      go_wp2
      go_roundw
      case rel => exact ⟨k + 1, by omega, by go_num, _, rfl⟩
      case measure => simp [intOf]; omega
    · go_wp2
      go_ret
      exact ⟨rfl, _, rfl⟩
theorem prsPost_error {w : World} {i x : Int} {e : Ending} {w' : World} (h : PrsPost w (.error (i, x)) e w') : e = .returned (.tuple #[.slice none 0 0, .int .i64 i, .int .i64 x]) ∧ Gr w w' := by
  obtain ⟨h1, h2⟩ := h
  refine ⟨?_, h2⟩
  rcases h1 with ⟨i1, x1, hq, he⟩ | ⟨_, _, _, hq, _⟩
  · cases hq; exact he
  · cases hq
theorem prsPost_ok {w : World} {c : List Ins} {e : Ending} {w' : World} (h : PrsPost w (.ok c) e w') : ∃ a cap, e = .returned (.tuple #[.slice a c.length cap, .int .i64 0, .int .i64 0]) ∧ InssAt w' a c ∧ Gr w w' := by
  obtain ⟨h1, h2⟩ := h
  rcases h1 with ⟨_, _, hq, _⟩ | ⟨c1, a, cap, hq, he, hA⟩
  · cases hq
  · cases hq; exact ⟨a, cap, he, hA, h2⟩
set_option maxHeartbeats 1600000 in
theorem codeParses_walk (l : List UInt8) (w : World) (hl : l.length ≤ 9223372036854775807) (hT : Opr w) (hP : Po w) (hE : Er w) :
    Calls Tryd.prog 4 #[.string ⟨l.toArray⟩] w fun e w' => e = .returned (.bool true) ∧ Gr w w' := by
  have H1 : Hid _ := fun (_ : Unit) => parse_any l w hl hT hP hE
  have H2 : Hid _ := fun W => codeOf_any ⟨l.toArray⟩ W (by rw [size_mk]; exact hl)
  obtain ⟨R, hR⟩ : ∃ R, Prs.parse l = R := ⟨_, rfl⟩
  simp only [hR] at H1 H2
  clear hR
  go_enter Tryd.func4, Tryd.ntmps4
  cases R with
  | error q =>
    obtain ⟨i, x⟩ := q
    have HS : Hid _ := fun W => sameCode_yes none none 0 0 [] W ⟨Nat.zero_le _, fun i x hx => by simp at hx⟩ ⟨Nat.zero_le _, fun i x hx => by simp at hx⟩
    go_upto_region 2 with (go_at_call 7; refine (H1.out ()).mono ?_; intro e w1 hx1; obtain ⟨rfl, hg1⟩ := prsPost_error hx1)
    go_upto_region 3 with (go_at_call 8; refine (H2.out _).mono ?_; intro e w2 hx2; obtain ⟨rfl, hg2⟩ := prsPost_error hx2)
    go_wp2_with (go_at_call 9; refine (HS.out _).mono ?_; rintro e w3 ⟨rfl, n, rfl⟩)
    go_ret
    exact ⟨rfl, (hg1.trans hg2).drewN n⟩
  | ok c =>
    have HS : Hid _ := fun a b ca cb W (h1 : InssAt W a c) (h2 : InssAt W b c) => sameCode_yes a b ca cb c W h1 h2
    go_upto_region 2 with (go_at_call 7; refine (H1.out ()).mono ?_; intro e w1 hx1; obtain ⟨a1, cap1, rfl, hA1, hg1⟩ := prsPost_ok hx1)
    go_upto_region 3 with (go_at_call 8; refine (H2.out _).mono ?_; intro e w2 hx2; obtain ⟨a2, cap2, rfl, hA2, hg2⟩ := prsPost_ok hx2)
    have HA : Hid _ := And.intro (hA1.gr hg2) hA2
    clear hA1 hA2
    go_wp2_with (go_at_call 9; refine (HS.out _ _ _ _ _ HA.out.1 HA.out.2).mono ?_; rintro e w3 ⟨rfl, n, rfl⟩)
    go_ret
    exact ⟨rfl, (hg1.trans hg2).drewN n⟩
theorem codeParses_at (x : ByteArray) (w : World) (hx : x.size ≤ maxLen) (hT : Opr w) (hP : Po w) (hE : Er w) :
    Calls Tryd.prog 4 #[.string x] w fun e w' => e = .returned (.bool true) ∧ Gr w w' := by
  have e := Lib.mk_data x
  rw [← e]
  exact codeParses_walk x.data.toList w (by rw [Prs.size_l]; unfold maxLen at hx; omega) hT hP hE
theorem codeParses_own : ownKnob Tryd.prog.godebug = none := by kernel_rfl
theorem codeParses_laidOut : laidOutB Tryd.prog = true := by kernel_rfl
theorem codeParses_rec : ∀ t ∈ Tryd.f4.params.toList, Tryd.prog.readableRec t = true ∧ t < Tryd.prog.types.size := by
  rw [Tryd.params4]
  intro t ht
  simp only [List.mem_cons, List.not_mem_nil, or_false] at ht
  rcases ht with rfl
  all_goals exact ⟨by kernel_rfl, of_decide_eq_true (by kernel_rfl)⟩
theorem codeParses_opr {W : World} (h : laidMetH Tryd.prog Rows.codeParsesRow.laid W) : Opr W := by
  have h1 : laidMet Tryd.prog Rows.codeParsesRow.laid W := h
  exact opr_of_laid (rest := []) (h1.filter fun x => x.1 == "sundial/code.operators")
theorem codeParses_pow {W : World} (h : laidMetH Tryd.prog Rows.codeParsesRow.laid W) : Po W := by
  have h1 : laidMet Tryd.prog Rows.codeParsesRow.laid W := h
  have h2 : laidMet Tryd.prog [("internal/strconv.uint64pow10", Lib.tabData .u64 Lib.pow10Tab)] W := h1.filter fun x => x.1 == "internal/strconv.uint64pow10"
  exact ⟨Lib.tabIs_of_head powG (by kernel_rfl) Tryd.underlying94 Tryd.underlying79 (by kernel_rfl) (by kernel_rfl) h2⟩
def tabCells (d : DataW Unit) : Array Value := match d with
  | .agg l => (l.map fun | .lit (.int k z) => Value.int k z | _ => .bool false).toArray
  | _ => #[]
def putTab (d : DataW Unit) (o : Obj) : Obj := match o with
  | .cells _ t frozen => .cells (tabCells d) t frozen
  | o => o
def putErr (h : Nat) (o : Obj) : Obj := match o with
  | .cells _ t frozen => .cells #[.iface 98 (.pointer (some ⟨h, 0, none⟩))] t frozen
  | o => o
theorem errStar : "*" ++ "errors.errorString" = "*errors.errorString" := by decide
theorem errRow (u : TypeId) (h : Tryd.prog.typeName? 3 u = some "*errors.errorString") : u = 98 :=
  typeName_ptr_named (nm := "errors.errorString") (by rw [errStar]; kernel_rfl) (by kernel_rfl) (by decide) u (by rw [errStar]; exact h)
theorem codeParses_er {W : World} (h : laidMetH Tryd.prog Rows.codeParsesRow.laid W) (hsh : W.ShapedOpen Tryd.prog) : Er W := by
  have h1 : laidMet Tryd.prog Rows.codeParsesRow.laid W := h
  have hS : laidMet Tryd.prog [("strconv.ErrSyntax", Rows.laid_strconv_ErrSyntax)] W := h1.filter fun x => x.1 == "strconv.ErrSyntax"
  have hR : laidMet Tryd.prog [("strconv.ErrRange", Rows.laid_strconv_ErrRange)] W := h1.filter fun x => x.1 == "strconv.ErrRange"
  obtain ⟨a1, s1, hv1, _⟩ := laid_sentinel hS synG (by kernel_rfl) Tryd.underlying39 errRow Tryd.underlying98 Tryd.underlying100 rfl rfl Tryd.underlying9 (by kernel_rfl) (by kernel_rfl)
  obtain ⟨a2, s2, hv2, _⟩ := laid_sentinel hR rngG (by kernel_rfl) Tryd.underlying39 errRow Tryd.underlying98 Tryd.underlying100 rfl rfl Tryd.underlying9 (by kernel_rfl) (by kernel_rfl)
  exact ⟨⟨_, _, hv1⟩, ⟨_, _, hv2⟩, Tryd.laysM145.s1_3 W hsh⟩
/-- A world for the witness: the settled one, the table holding what its initialiser lays. -/
def laidHeap (w : World) : World := { w with heap := (((((w.heap.modify 3 (putErr (w.heap.size - 2))).modify 2 (putErr (w.heap.size - 1))).modify 5 (putTab Rows.laid_math_bits_deBruijn32tab)).modify 6 (putTab Rows.laid_math_bits_deBruijn64tab)).modify 4 (putTab Rows.laid_internal_strconv_uint64pow10)).modify 0 fun
    | .cells _ t frozen => .cells #[.string ⟨#[97, 114, 103]⟩, .int .i64 0, .int .i64 1, .bool false, .string ⟨#[112, 117, 115, 104]⟩, .int .i64 0, .int .i64 1, .bool true, .string ⟨#[108, 101, 115, 115]⟩, .int .i64 2, .int .i64 1, .bool false, .string ⟨#[115, 107, 105, 112]⟩, .int .i64 1, .int .i64 0, .bool true, .string ⟨#[103, 111]⟩, .int .i64 0, .int .i64 0, .bool true, .string ⟨#[116, 101, 108, 108]⟩, .int .i64 0, .int .i64 0, .bool true] t frozen
    | o => o }
theorem codeParses_met (os : Os) : laidMet Tryd.prog Rows.codeParsesRow.laid ((laidHeap (World.holding Tryd.prog os ⟨#[.cells #[.string ⟨#[118, 97, 108, 117, 101, 32, 111, 117, 116, 32, 111, 102, 32, 114, 97, 110, 103, 101]⟩] 100, .cells #[.string ⟨#[105, 110, 118, 97, 108, 105, 100, 32, 115, 121, 110, 116, 97, 120]⟩] 100], #[], []⟩)).forCall (fun _ _ => 0) ⟨#[], #[.string ⟨#[]⟩], []⟩).memory :=
  laidMet_of_run' 8 (by kernel_rfl) (by kernel_rfl)
theorem codeParses_reads (os : Os) {H : Type} (enc : TypeId × Value → H) : ∃ places, DataW.whole enc Tryd.prog ((laidHeap (World.holding Tryd.prog os ⟨#[.cells #[.string ⟨#[118, 97, 108, 117, 101, 32, 111, 117, 116, 32, 111, 102, 32, 114, 97, 110, 103, 101]⟩] 100, .cells #[.string ⟨#[105, 110, 118, 97, 108, 105, 100, 32, 115, 121, 110, 116, 97, 120]⟩] 100], #[], []⟩)).forCall (fun _ _ => 0) ⟨#[], #[.string ⟨#[]⟩], []⟩).memory Tryd.f4.params.toList Rows.codeParsesSpec.vars false (#[.string ⟨#[]⟩] : Array Value).toList 8 = some ([.lit (.string [])], [], places) :=
  ⟨[], by kernel_rfl⟩
theorem codeParses_contract (H : Type) (enc : TypeId × Value → H) (W : World) (base : Nat) (args : Array Value) (ds gs : List (DataW H)) (before : List MemPlace)
    (hval : ∀ (j : Nat) t v, Tryd.f4.params[j]? = some t → args[j]? = some v → Value.okWide Tryd.prog W .any base t v)
    (hW : DataW.Whole enc Tryd.prog Tryd.f4.params.toList Rows.codeParsesSpec.vars false W args.toList ds gs before) (hL : laidMetH Tryd.prog Rows.codeParsesRow.laid W) (hsh : W.ShapedOpen Tryd.prog) :
    Calls Tryd.prog 4 args W fun e W' => ∃ v, e = .returned v ∧ Rows.codeParsesSpec.post enc Tryd.prog Tryd.f4 false true false false W args v W' := by
  have hW' := hW
  obtain ⟨p, q, hA0, hV, rfl, hfz, hnd⟩ := hW
  have hA : DataW.TrodAll enc Tryd.prog W 0 (fun _ => true) true Tryd.f4.params.toList args.toList ds p := hA0
  have hAk := hA
  rw [Tryd.params4] at hA hval
  obtain ⟨v0, vs0, d0, ds0, p0, q0, hargs, rfl, rfl, h0, r0⟩ := trodAll_cons hA
  obtain ⟨rfl, rfl, rfl⟩ := trodAll_nil r0
  obtain rfl : args = #[v0] := by cases args; simp_all
  obtain ⟨rfl, rfl⟩ := trodVars_none hV
  obtain ⟨x0, rfl, _, _, f0⟩ := open_string Tryd.underlying9 (hval 0 9 v0 rfl rfl) h0
  clear hA0
  refine (codeParses_at x0 W f0 (codeParses_opr hL) (codeParses_pow hL) (codeParses_er hL hsh)).mono fun e W' ⟨he, hg⟩ => ?_
  subst he
  refine ⟨_, rfl, _, _, _, [], _, [], hW', ?_, gr_trodAll codeParses_laidOut hg codeParses_rec hAk (fun x hx => hW'.lt x (List.mem_append_left _ hx)) (fun x hx => by simpa using hW'.lt x (List.mem_append_left _ hx)), ?_, hg.frame _, fun h => by cases h⟩
  · exact trodAll_cons_mk (shut_bool Tryd.underlying4 _) trodAll_mk0
  · rfl
set_option maxRecDepth 100000 in
theorem codeParses_lifted (os : Os) (started : os.Started) (H : Type) (enc : TypeId × Value → H) (F : Stop.Interp) :
    ReturnsInHanded {} Tryd.checked os 4 .any ((OpenSpec.ofChange Rows.codeParsesSpec).preRow enc Tryd.prog Tryd.f4 Rows.codeParsesRow.domain false Rows.codeParsesRow.laid) (((OpenSpec.ofChange Rows.codeParsesSpec).at F).post enc Tryd.prog Tryd.f4 false true false false) := by
  obtain ⟨places, hx⟩ := codeParses_reads os enc
  refine returnsInHanded_of_row (C := Tryd.checked) (s := OpenSpec.ofChange Rows.codeParsesSpec) codeParses_own started (by kernel_rfl) Tryd.func4
    (witness_row_at (enc := enc) (C := Tryd.checked) false (laidHeap (World.holding Tryd.prog os ⟨#[.cells #[.string ⟨#[118, 97, 108, 117, 101, 32, 111, 117, 116, 32, 111, 102, 32, 114, 97, 110, 103, 101]⟩] 100, .cells #[.string ⟨#[105, 110, 118, 97, 108, 105, 100, 32, 115, 121, 110, 116, 97, 120]⟩] 100], #[], []⟩)) #[.string ⟨#[]⟩] rfl (by kernel_rfl) (by kernel_rfl) (by kernel_rfl)
      (OpenSpec.preRow_of_cond 8 hx (by kernel_rfl) (fun k hk => by cases hk) (by kernel_rfl) (codeParses_met os))) ?_
  intro W base args ds gs before hval hW _ _ _ hL hsh _
  exact codeParses_contract H enc W base args ds gs before hval hW hL hsh
theorem codeParses_said : Rows.CodeParsesSaid :=
  OpenClaim.holds_of_cond 4 Tryd.f4 rfl rfl rfl rfl rfl rfl rfl ⟨rfl, rfl, rfl, rfl, rfl⟩ rfl rfl rfl rfl rfl (by kernel_rfl) Tryd.func4 (by kernel_rfl)
    (of_decide_eq_true (by kernel_rfl)) (by unfold Func.isWrapper; first | (rw [if_pos (by decide +kernel)]; kernel_rfl) | (rw [if_neg (by decide +kernel)]; exact ⟨rfl, rfl⟩))
    (fun os started H enc _ F => by rw [OpenClaim.pre_eq_preRow]; exact codeParses_lifted os started H enc F)
theorem codeParses_plain (f : FuncId) (fn : Func) (hf : Tryd.pinned.checked.prog.funcNamed "sundial/sundiallaw.CodeParses" = some f) (hfn : Tryd.pinned.checked.prog.funcs[f]? = some fn) :
    true = Tryd.pinned.checked.prog.looks [] ∧ ∀ (j : Nat) t, fn.params[j]? = some t → Tryd.pinned.checked.prog.wantsStandIn t = false := by
  obtain rfl : f = 4 := Option.some.inj ((show Tryd.prog.funcNamed "sundial/sundiallaw.CodeParses" = some 4 by kernel_rfl).symm.trans hf) |>.symm
  obtain rfl : fn = Tryd.f4 := (Option.some.inj (Tryd.func4.symm.trans hfn)).symm
  refine ⟨by kernel_rfl, fun j t ht => ?_⟩
  rw [Tryd.params4] at ht
  have hm : t = 9 := by have h := Array.mem_of_getElem? ht; simp at h; first | simpa using h | (rcases h with h | h | h | h <;> simp [h]) | (rcases h with h | h | h <;> simp [h])
  rcases hm with rfl
  exact (show Tryd.prog.wantsStandIn 9 = false by kernel_rfl)
/-- The card. -/
theorem codeParses_card : Rows.CodeParsesCardSaid :=
  Claim7.holds_tied_plain_at .later [] _ _ _ _ codeParses_said (fun _ h => by cases h) (by kernel_rfl) (fun _ h => by cases h) codeParses_row_tie rfl ⟨rfl, rfl⟩ (by kernel_rfl) rfl codeParses_plain (by kernel_rfl)
#print axioms codeParses_card
end Go.Proofs.YtoolimfdadpmpaaDoor
