import Derived.Test.YtafmlbojmmdcdaaDoorCards
import Derived.Test.YtafmlbojmmdcdaaDoorTie
import Derived.Test.YtafmlbojmmdcdaaDoorFrame
import Derived.Test.YtafmlbojmmdcdaaDoorTables
import Derived.Test.YtafmlbojmmdcdaaDoorLawLogicW
import Derived.Stop.Joined
import Derived.Lib.SmallJoins
import Derived.Test.YtafmlbojmmdcdaaDoorOpenBytes
namespace Go.Proofs.YtafmlbojmmdcdaaDoor.fnLogic
open Go.ChangeShapes Go.WideShapes Go.ChangeAt Go.RowKit Go.Joins

theorem own : ownKnob Tryd.prog.godebug = none := by kernel_rfl
theorem laidOut : laidOutB Tryd.prog = true := by kernel_rfl
theorem door_met (os : Os) (args : Array Value) : laidMetH Tryd.prog Rows.fnLogicRow.laid ((World.doorLaid Tryd.prog 400 os).forCall (fun _ _ => 0) ⟨#[], args, []⟩).memory :=
  laidMetH_of_parts3 (fuel := 8) (laidMet_of_run' 8 (by kernel_rfl) (by kernel_rfl)) (by kernel_rfl) (by kernel_rfl)
theorem hTAnd {W : World} (h : laidMetH Tryd.prog Rows.fnLogicRow.laid W) : TAnd W := by
  obtain ⟨h1, h2⟩ := Tables.cells_of_laid (n := "loop.example/s0035/impl.andTable") (d := Rows.laid_loop_example_s0035_impl_andTable) h (by kernel_rfl) (by simp [Rows.fnLogicRow]) (g := 2) (t := 52) (by kernel_rfl) (by kernel_rfl) 4 (by kernel_rfl)
  exact ⟨h1, h2⟩
theorem hTVal {W : World} (h : laidMetH Tryd.prog Rows.fnLogicRow.laid W) : TVal W := by
  obtain ⟨h1, h2⟩ := Tables.cells_of_laid (n := "loop.example/s0035/impl.valTable") (d := Rows.laid_loop_example_s0035_impl_valTable) h (by kernel_rfl) (by simp [Rows.fnLogicRow]) (g := 0) (t := 48) (by kernel_rfl) (by kernel_rfl) 4 (by kernel_rfl)
  exact ⟨h1, h2⟩
theorem hTNot {W : World} (h : laidMetH Tryd.prog Rows.fnLogicRow.laid W) : TNot W := by
  obtain ⟨h1, h2⟩ := Tables.cells_of_laid (n := "loop.example/s0035/impl.notTable") (d := Rows.laid_loop_example_s0035_impl_notTable) h (by kernel_rfl) (by simp [Rows.fnLogicRow]) (g := 1) (t := 50) (by kernel_rfl) (by kernel_rfl) 4 (by kernel_rfl)
  exact ⟨h1, h2⟩
theorem hTOr {W : World} (h : laidMetH Tryd.prog Rows.fnLogicRow.laid W) : TOr W := by
  obtain ⟨h1, h2⟩ := Tables.cells_of_laid (n := "loop.example/s0035/impl.orTable") (d := Rows.laid_loop_example_s0035_impl_orTable) h (by kernel_rfl) (by simp [Rows.fnLogicRow]) (g := 3) (t := 52) (by kernel_rfl) (by kernel_rfl) 4 (by kernel_rfl)
  exact ⟨h1, h2⟩
theorem hTCmp {W : World} (h : laidMetH Tryd.prog Rows.fnLogicRow.laid W) : TCmp W := by
  obtain ⟨h1, h2⟩ := Tables.cells_of_laid (n := "loop.example/s0035/impl.cmpTable") (d := Rows.laid_loop_example_s0035_impl_cmpTable) h (by kernel_rfl) (by simp [Rows.fnLogicRow]) (g := 4) (t := 55) (by kernel_rfl) (by kernel_rfl) 4 (by kernel_rfl)
  exact ⟨h1, h2⟩
theorem hTTakes {W : World} (h : laidMetH Tryd.prog Rows.fnLogicRow.laid W) : TTakes W := by
  obtain ⟨h1, h2⟩ := Tables.cells_of_laid (n := "loop.example/s0035/impl.takesTable") (d := Rows.laid_loop_example_s0035_impl_takesTable) h (by kernel_rfl) (by simp [Rows.fnLogicRow]) (g := 5) (t := 64) (by kernel_rfl) (by kernel_rfl) 4 (by kernel_rfl)
  exact ⟨h1, h2⟩
set_option maxRecDepth 100000 in
theorem lifted (os : Os) (started : os.Started) (H : Type) (enc : TypeId × Value → H) :
    ReturnsInHanded {} Tryd.checked os 3 .any (fun w args => (Rows.fnLogicSpec.pre enc Tryd.prog Tryd.f3 [] false w args ∧ laidMetH Tryd.prog Rows.fnLogicRow.laid w) ∧ sizedMet enc Tryd.prog Tryd.f3 (OpenSpec.ofChange Rows.fnLogicSpec) false w args)
      (Rows.fnLogicSpec.post enc Tryd.prog Tryd.f3 false true false false) := by
  refine returnsInHanded_of_change_and (C := Tryd.checked) (X := fun w _ => laidMetH Tryd.prog Rows.fnLogicRow.laid w) (fun _ _ _ hh h => h.of_heap hh) own started (by kernel_rfl) Tryd.func3
    (ChangeSpec.witness_shaped (enc := enc) (C := Tryd.checked) (os := os) (X := fun w _ => laidMetH Tryd.prog Rows.fnLogicRow.laid w) false (World.doorLaid Tryd.prog 400 os) #[.slice none 0 0, .slice none 0 0] 8 rfl (World.shaped_of_RefB (by kernel_rfl) (by kernel_rfl)) (by kernel_rfl) (by kernel_rfl) (by kernel_rfl) (door_met os _)) ?_
  intro W base args ds gs before hval0 hW _ _ hL _
  have hval : ∀ (j : Nat) t v, Tryd.f3.params[j]? = some t → args[j]? = some v → Value.okWide Tryd.prog W .any base t v := hval0
  have hW' := hW
  obtain ⟨p, q, hA0, hV, rfl, hfz, hnd⟩ := hW
  have hA : DataW.TrodAll enc Tryd.prog W 0 (fun _ => true) true Tryd.f3.params.toList args.toList ds p := hA0
  rw [Tryd.params3] at hA hval
  obtain ⟨v0, vs0, d0, ds0, p0, q0, hargs, rfl, rfl, h0, r0⟩ := trodAll_cons hA
  obtain ⟨v1, vs1, d1, ds1, p1, q1, rfl, rfl, rfl, h1, r1⟩ := trodAll_cons r0
  obtain ⟨rfl, rfl, rfl⟩ := trodAll_nil r1
  obtain rfl : args = #[v0, v1] := by cases args; simp_all
  obtain ⟨xs0, hr0, hl0⟩ := open_bytes (hval 0 22 v0 rfl rfl) h0
  obtain ⟨xs1, hr1, hl1⟩ := open_bytes (hval 1 22 v1 rfl rfl) h1
  refine (lawLogic_calls v0 v1 xs0 xs1 W hr0 hr1 hl0 hl1 (hTAnd hL) (hTVal hL) (hTNot hL) (hTOr hL) (hTCmp hL) (hTTakes hL)).mono fun e W' ⟨he, hb⟩ => ?_
  subst he
  obtain ⟨g0, g1, g2, g3, g4, g5, rfl⟩ := Frame.len6 (Frame.trodVars_length hV)
  exact ⟨_, rfl, Frame.law_post laidOut (by kernel_rfl) (by kernel_rfl) (by kernel_rfl) Tryd.underlying4 hW' rfl hb⟩

theorem said : Rows.FnLogicSaid :=
  OpenClaim.holds_of_wide 3 Tryd.f3 rfl rfl rfl rfl rfl rfl rfl ⟨rfl, rfl, rfl, rfl, rfl⟩ rfl rfl rfl rfl rfl (by kernel_rfl) Tryd.func3 (by kernel_rfl)
    (of_decide_eq_true (by kernel_rfl)) (by unfold Func.isWrapper; first | (rw [if_pos (by decide +kernel)]; kernel_rfl) | (rw [if_neg (by decide +kernel)]; exact ⟨rfl, rfl⟩))
    (fun os started H enc _ => lifted os started H enc)

theorem plain (f : FuncId) (fn : Func) (hf : Tryd.pinned.checked.prog.funcNamed "loop.example/s0035/laws.FnLogic" = some f) (hfn : Tryd.pinned.checked.prog.funcs[f]? = some fn) :
    false = Tryd.pinned.checked.prog.looks [] ∧ ∀ (j : Nat) t, fn.params[j]? = some t → Tryd.pinned.checked.prog.wantsStandIn t = false := by
  obtain rfl : f = 3 := Option.some.inj ((show Tryd.prog.funcNamed "loop.example/s0035/laws.FnLogic" = some 3 by kernel_rfl).symm.trans hf) |>.symm
  obtain rfl : fn = Tryd.f3 := (Option.some.inj (Tryd.func3.symm.trans hfn)).symm
  have hall : (Tryd.f3.params.toList.all fun u => !Tryd.prog.wantsStandIn u) = true := by kernel_rfl
  refine ⟨by kernel_rfl, fun j t ht => ?_⟩
  have := List.all_eq_true.1 hall t (Array.mem_toList_iff.2 (Array.mem_of_getElem? ht))
  exact (show Tryd.prog.wantsStandIn t = false by simpa using this)

theorem card : Rows.FnLogicCardSaid :=
  Claim7.holds_tied_plain_at .later [] _ _ _ _ said (fun _ h => by cases h) (by kernel_rfl) (fun _ h => by cases h) fnLogic_row_tie rfl ⟨rfl, rfl⟩ (by kernel_rfl) rfl plain (by kernel_rfl)
end Go.Proofs.YtafmlbojmmdcdaaDoor.fnLogic
namespace Go.Proofs.YtafmlbojmmdcdaaDoor
theorem fnLogic_card : Rows.FnLogicCardSaid := fnLogic.card
end Go.Proofs.YtafmlbojmmdcdaaDoor
