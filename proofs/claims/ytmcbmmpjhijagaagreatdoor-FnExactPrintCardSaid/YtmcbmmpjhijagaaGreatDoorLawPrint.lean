import Derived.Test.YtmcbmmpjhijagaaGreatDoorCards
import Derived.Test.YtmcbmmpjhijagaaGreatDoorTie
import Derived.Test.YtmcbmmpjhijagaaGreatDoorQ0
import Derived.Test.YtmcbmmpjhijagaaGreatDoorQ48
import Derived.Stop.Joined
import Derived.Lib.SmallJoins
namespace Go.Proofs.YtmcbmmpjhijagaaGreatDoor.fnExactPrint
open Go.ChangeShapes Go.WideShapes Go.ChangeAt Go.RowKit Go.Joins
theorem own : ownKnob Tryz.prog.godebug = none := by kernel_rfl
theorem laidOut : laidOutB Tryz.prog = true := by kernel_rfl
theorem door_met (os : Os) (args : Array Value) : laidMetH Tryz.prog Rows.fnExactPrintRow.laid ((World.doorLaid Tryz.prog 400 os).forCall (fun _ _ => 0) ⟨#[], args, []⟩).memory :=
  laidMetH_of_parts3 (fuel := 8) (laidMet_of_run' 8 (by kernel_rfl) (by kernel_rfl)) (by kernel_rfl) (by kernel_rfl)
theorem hTKw {W : World} (h : laidMetH Tryz.prog Rows.fnExactPrintRow.laid W) : TKw W := by
  obtain ⟨h1, h2⟩ := Tables.cells_of_laid (n := "loop.example/s0035/impl.keywords") (d := Rows.laid_loop_example_s0035_impl_keywords) h (by kernel_rfl) (by simp [Rows.fnExactPrintRow]) (g := 5) (t := 153) (by kernel_rfl) (by kernel_rfl) 4 (by kernel_rfl)
  exact ⟨h1, h2⟩
theorem hTRules {W : World} (h : laidMetH Tryz.prog Rows.fnExactPrintRow.laid W) : TRules W := by
  obtain ⟨h1, h2⟩ := Tables.cells_of_laid (n := "loop.example/s0035/impl.fieldRules") (d := Rows.laid_loop_example_s0035_impl_fieldRules) h (by kernel_rfl) (by simp [Rows.fnExactPrintRow]) (g := 1) (t := 126) (by kernel_rfl) (by kernel_rfl) 4 (by kernel_rfl)
  exact ⟨h1, h2⟩
theorem hPow {W : World} (h : laidMetH Tryz.prog Rows.fnExactPrintRow.laid W) : Lib.TabIs Tryz.prog W "internal/strconv.uint64pow10" .u64 Lib.pow10Tab := by
  rw [MakeChecks.laidMetH_plain _ _ _ (by kernel_rfl)] at h
  obtain ⟨ps, hv, _, _⟩ := h
  obtain ⟨g', t', cs, m, p, h1, h2, h3, h4⟩ := Tables.laid_mem hv (n := "internal/strconv.uint64pow10") (d := Rows.laid_internal_strconv_uint64pow10) (by simp [Rows.fnExactPrintRow])
  have hg : Tryz.prog.globalNamed "internal/strconv.uint64pow10" = some 3 := by kernel_rfl
  have ht : (Tryz.prog.globals[(3 : Nat)]?).map (·.type) = some 148 := by kernel_rfl
  obtain rfl := Option.some.inj (hg.symm.trans h1)
  obtain rfl := Option.some.inj (ht.symm.trans h2)
  have hd : (Rows.laid_internal_strconv_uint64pow10 : DataW Unit) = Lib.tabData .u64 Lib.pow10Tab := by rfl
  rw [hd] at h4
  unfold Lib.TabIs
  rw [h3, ← Lib.cells_of_tab (n := 20) Tryz.underlying148 Tryz.underlying135 (by kernel_rfl) (by kernel_rfl) h4]
theorem hTP {W : World} (h : laidMetH Tryz.prog Rows.fnExactPrintRow.laid W) : TP W := by
  obtain ⟨a1, a2⟩ := Tables.cells_of_laid (n := "loop.example/s0035/impl.compSigns") (d := Rows.laid_loop_example_s0035_impl_compSigns) h (by kernel_rfl) (by simp [Rows.fnExactPrintRow]) (g := 0) (t := 90) (by kernel_rfl) (by kernel_rfl) 4 (by kernel_rfl)
  obtain ⟨b1, b2⟩ := Tables.cells_of_laid (n := "loop.example/s0035/impl.aggWords") (d := Rows.laid_loop_example_s0035_impl_aggWords) h (by kernel_rfl) (by simp [Rows.fnExactPrintRow]) (g := 2) (t := 130) (by kernel_rfl) (by kernel_rfl) 4 (by kernel_rfl)
  exact ⟨⟨a1, a2⟩, ⟨b1, b2⟩, hPow h⟩
theorem h8 {W : World} (h : laidMetH Tryz.prog Rows.fnExactPrintRow.laid W) : 8 ≤ W.heap.size := by
  obtain ⟨a1, _⟩ := Tables.cells_of_laid (n := "math/bits.deBruijn64tab") (d := Rows.laid_math_bits_deBruijn64tab) h (by kernel_rfl) (by simp [Rows.fnExactPrintRow]) (g := 7) (t := 156) (by kernel_rfl) (by kernel_rfl) 4 (by kernel_rfl)
  exact a1
set_option maxRecDepth 100000 in
theorem lifted (os : Os) (started : os.Started) (H : Type) (enc : TypeId × Value → H) :
    ReturnsInHanded {} Tryz.checked os 3 .any (fun w args => (Rows.fnExactPrintSpec.pre enc Tryz.prog Tryz.f3 [] false w args ∧ laidMetH Tryz.prog Rows.fnExactPrintRow.laid w) ∧ sizedMet enc Tryz.prog Tryz.f3 (OpenSpec.ofChange Rows.fnExactPrintSpec) false w args)
      (Rows.fnExactPrintSpec.post enc Tryz.prog Tryz.f3 false true false false) := by
  refine returnsInHanded_of_change_and (C := Tryz.checked) (X := fun w _ => laidMetH Tryz.prog Rows.fnExactPrintRow.laid w) (fun _ _ _ hh h => h.of_heap hh) own started (by kernel_rfl) Tryz.func3
    (ChangeSpec.witness_shaped (enc := enc) (C := Tryz.checked) (os := os) (X := fun w _ => laidMetH Tryz.prog Rows.fnExactPrintRow.laid w) false (World.doorLaid Tryz.prog 400 os) #[.agg #[.slice none 0 0]] 8 rfl (World.shaped_of_RefB (by kernel_rfl) (by kernel_rfl)) (by kernel_rfl) (by kernel_rfl) (by kernel_rfl) (door_met os _)) ?_
  intro W base args ds gs before hval0 hW _ _ hL _
  have hval : ∀ (j : Nat) t v, Tryz.f3.params[j]? = some t → args[j]? = some v → Value.okWide Tryz.prog W .any base t v := hval0
  have hW' := hW
  obtain ⟨p, q, hA0, hV, rfl, hfz, hnd⟩ := hW
  have hA : DataW.TrodAll enc Tryz.prog W 0 (fun _ => true) true Tryz.f3.params.toList args.toList ds p := hA0
  rw [Tryz.params3] at hA hval
  obtain ⟨v0, vs0, d0, ds0, p0, q0, hargs, rfl, rfl, h0, r0⟩ := trodAll_cons hA
  obtain ⟨rfl, rfl, rfl⟩ := trodAll_nil r0
  obtain rfl : args = #[v0] := by cases args; simp_all
  obtain ⟨u0, ns0, rfl, hr0, hl0, hf0⟩ := open_ast (hval 0 24 v0 rfl rfl) h0
  refine (lawPrint_calls u0 ns0 W hr0 hl0 hf0 (hTKw hL) (hTRules hL) (hTP hL) (h8 hL)).mono fun e W' ⟨he, hb⟩ => ?_
  subst he
  obtain ⟨g0, g1, g2, g3, rfl⟩ := Frame.len4 (Frame.trodVars_length hV)
  exact ⟨_, rfl, Frame.law_post laidOut (by kernel_rfl) (by kernel_rfl) (by kernel_rfl) Tryz.underlying4 hW' rfl hb⟩
theorem said : Rows.FnExactPrintSaid :=
  OpenClaim.holds_of_wide 3 Tryz.f3 rfl rfl rfl rfl rfl rfl rfl ⟨rfl, rfl, rfl, rfl, rfl⟩ rfl rfl rfl rfl rfl (by kernel_rfl) Tryz.func3 (by kernel_rfl)
    (of_decide_eq_true (by kernel_rfl)) (by unfold Func.isWrapper; first | (rw [if_pos (by decide +kernel)]; kernel_rfl) | (rw [if_neg (by decide +kernel)]; exact ⟨rfl, rfl⟩))
    (fun os started H enc _ => lifted os started H enc)
theorem plain (f : FuncId) (fn : Func) (hf : Tryz.pinned.checked.prog.funcNamed "loop.example/s0035/laws.FnExactPrint" = some f) (hfn : Tryz.pinned.checked.prog.funcs[f]? = some fn) :
    true = Tryz.pinned.checked.prog.looks [] ∧ ∀ (j : Nat) t, fn.params[j]? = some t → Tryz.pinned.checked.prog.wantsStandIn t = false := by
  obtain rfl : f = 3 := Option.some.inj ((show Tryz.prog.funcNamed "loop.example/s0035/laws.FnExactPrint" = some 3 by kernel_rfl).symm.trans hf) |>.symm
  obtain rfl : fn = Tryz.f3 := (Option.some.inj (Tryz.func3.symm.trans hfn)).symm
  have hall : (Tryz.f3.params.toList.all fun u => !Tryz.prog.wantsStandIn u) = true := by kernel_rfl
  refine ⟨by kernel_rfl, fun j t ht => ?_⟩
  have := List.all_eq_true.1 hall t (Array.mem_toList_iff.2 (Array.mem_of_getElem? ht))
  exact (show Tryz.prog.wantsStandIn t = false by simpa using this)
theorem card : Rows.FnExactPrintCardSaid :=
  Claim7.holds_tied_plain_at .later [] _ _ _ _ said (fun _ h => by cases h) (by kernel_rfl) (fun _ h => by cases h) fnExactPrint_row_tie rfl ⟨rfl, rfl⟩ (by kernel_rfl) rfl plain (by kernel_rfl)
end Go.Proofs.YtmcbmmpjhijagaaGreatDoor.fnExactPrint
namespace Go.Proofs.YtmcbmmpjhijagaaGreatDoor
theorem fnExactPrint_card : Rows.FnExactPrintCardSaid := fnExactPrint.card
end Go.Proofs.YtmcbmmpjhijagaaGreatDoor
