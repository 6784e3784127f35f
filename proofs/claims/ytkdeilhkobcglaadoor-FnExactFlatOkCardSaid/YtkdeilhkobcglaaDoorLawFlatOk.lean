import Derived.Test.YtkdeilhkobcglaaDoorCards
import Derived.Test.YtkdeilhkobcglaaDoorTie
import Derived.Test.YtkdeilhkobcglaaDoorFrame
import Derived.Test.YtkdeilhkobcglaaDoorTables
import Derived.Test.YtkdeilhkobcglaaDoorLawFlatOkW
import Derived.Stop.Joined
import Derived.Lib.SmallJoins
import Derived.Test.YtkdeilhkobcglaaDoorOpenDb
import Derived.Test.YtkdeilhkobcglaaDoorOpenFlat
namespace Go.Proofs.YtkdeilhkobcglaaDoor.fnExactFlatOk
open Go.ChangeShapes Go.WideShapes Go.ChangeAt Go.RowKit Go.Joins

theorem own : ownKnob Tryd.prog.godebug = none := by kernel_rfl
theorem laidOut : laidOutB Tryd.prog = true := by kernel_rfl
theorem door_met (os : Os) (args : Array Value) : laidMetH Tryd.prog Rows.fnExactFlatOkRow.laid ((World.doorLaid Tryd.prog 400 os).forCall (fun _ _ => 0) ⟨#[], args, []⟩).memory :=
  laidMetH_of_parts3 (fuel := 8) (laidMet_of_run' 8 (by kernel_rfl) (by kernel_rfl)) (by kernel_rfl) (by kernel_rfl)
theorem hTTakes {W : World} (h : laidMetH Tryd.prog Rows.fnExactFlatOkRow.laid W) : TTakes W := by
  obtain ⟨h1, h2⟩ := Tables.cells_of_laid (n := "loop.example/s0035/impl.takesTable") (d := Rows.laid_loop_example_s0035_impl_takesTable) h (by kernel_rfl) (by simp [Rows.fnExactFlatOkRow]) (g := 2) (t := 159) (by kernel_rfl) (by kernel_rfl) 4 (by kernel_rfl)
  exact ⟨h1, h2⟩
theorem hTKw {W : World} (h : laidMetH Tryd.prog Rows.fnExactFlatOkRow.laid W) : TKw W := by
  obtain ⟨h1, h2⟩ := Tables.cells_of_laid (n := "loop.example/s0035/impl.keywords") (d := Rows.laid_loop_example_s0035_impl_keywords) h (by kernel_rfl) (by simp [Rows.fnExactFlatOkRow]) (g := 3) (t := 161) (by kernel_rfl) (by kernel_rfl) 4 (by kernel_rfl)
  exact ⟨h1, h2⟩
theorem hTFlat {W : World} (h : laidMetH Tryd.prog Rows.fnExactFlatOkRow.laid W) : TFlat W := by
  obtain ⟨h1, h2⟩ := Tables.cells_of_laid (n := "loop.example/s0035/impl.flatFields") (d := Rows.laid_loop_example_s0035_impl_flatFields) h (by kernel_rfl) (by simp [Rows.fnExactFlatOkRow]) (g := 1) (t := 138) (by kernel_rfl) (by kernel_rfl) 4 (by kernel_rfl)
  exact ⟨h1, h2⟩
set_option maxRecDepth 100000 in
theorem lifted (os : Os) (started : os.Started) (H : Type) (enc : TypeId × Value → H) :
    ReturnsInHanded {} Tryd.checked os 5 .any (fun w args => (Rows.fnExactFlatOkSpec.pre enc Tryd.prog Tryd.f5 [] false w args ∧ laidMetH Tryd.prog Rows.fnExactFlatOkRow.laid w) ∧ sizedMet enc Tryd.prog Tryd.f5 (OpenSpec.ofChange Rows.fnExactFlatOkSpec) false w args)
      (Rows.fnExactFlatOkSpec.post enc Tryd.prog Tryd.f5 false true false false) := by
  refine returnsInHanded_of_change_and (C := Tryd.checked) (X := fun w _ => laidMetH Tryd.prog Rows.fnExactFlatOkRow.laid w) (fun _ _ _ hh h => h.of_heap hh) own started (by kernel_rfl) Tryd.func5
    (ChangeSpec.witness_shaped (enc := enc) (C := Tryd.checked) (os := os) (X := fun w _ => laidMetH Tryd.prog Rows.fnExactFlatOkRow.laid w) false (World.doorLaid Tryd.prog 400 os) #[.agg #[.slice none 0 0, .int .i64 0], .agg #[.slice none 0 0]] 8 rfl (World.shaped_of_RefB (by kernel_rfl) (by kernel_rfl)) (by kernel_rfl) (by kernel_rfl) (by kernel_rfl) (door_met os _)) ?_
  intro W base args ds gs before hval0 hW _ _ hL _
  have hval : ∀ (j : Nat) t v, Tryd.f5.params[j]? = some t → args[j]? = some v → Value.okWide Tryd.prog W .any base t v := hval0
  have hW' := hW
  obtain ⟨p, q, hA0, hV, rfl, hfz, hnd⟩ := hW
  have hA : DataW.TrodAll enc Tryd.prog W 0 (fun _ => true) true Tryd.f5.params.toList args.toList ds p := hA0
  rw [Tryd.params5] at hA hval
  obtain ⟨v0, vs0, d0, ds0, p0, q0, hargs, rfl, rfl, h0, r0⟩ := trodAll_cons hA
  obtain ⟨v1, vs1, d1, ds1, p1, q1, rfl, rfl, rfl, h1, r1⟩ := trodAll_cons r0
  obtain ⟨rfl, rfl, rfl⟩ := trodAll_nil r1
  obtain rfl : args = #[v0, v1] := by cases args; simp_all
  obtain ⟨u0, rt0, ns0, rfl, hr0, hl0, hf0⟩ := open_flat (hval 0 46 v0 rfl rfl) h0
  obtain ⟨u1, ns1, rfl, hr1, hl1, hf1⟩ := open_db (hval 1 27 v1 rfl rfl) h1
  refine (lawFlatOk_calls u0 u1 rt0 ns0 ns1 W hr0 hr1 hl0 hf0 hl1 hf1 (hTTakes hL) (hTKw hL) (hTFlat hL)).mono fun e W' ⟨he, hb⟩ => ?_
  subst he
  obtain ⟨g0, g1, g2, rfl⟩ := Frame.len3 (Frame.trodVars_length hV)
  exact ⟨_, rfl, Frame.law_post laidOut (by kernel_rfl) (by kernel_rfl) (by kernel_rfl) Tryd.underlying4 hW' rfl hb⟩

theorem said : Rows.FnExactFlatOkSaid :=
  OpenClaim.holds_of_wide 5 Tryd.f5 rfl rfl rfl rfl rfl rfl rfl ⟨rfl, rfl, rfl, rfl, rfl⟩ rfl rfl rfl rfl rfl (by kernel_rfl) Tryd.func5 (by kernel_rfl)
    (of_decide_eq_true (by kernel_rfl)) (by unfold Func.isWrapper; first | (rw [if_pos (by decide +kernel)]; kernel_rfl) | (rw [if_neg (by decide +kernel)]; exact ⟨rfl, rfl⟩))
    (fun os started H enc _ => lifted os started H enc)

theorem plain (f : FuncId) (fn : Func) (hf : Tryd.pinned.checked.prog.funcNamed "loop.example/s0035/laws.FnExactFlatOk" = some f) (hfn : Tryd.pinned.checked.prog.funcs[f]? = some fn) :
    false = Tryd.pinned.checked.prog.looks [] ∧ ∀ (j : Nat) t, fn.params[j]? = some t → Tryd.pinned.checked.prog.wantsStandIn t = false := by
  obtain rfl : f = 5 := Option.some.inj ((show Tryd.prog.funcNamed "loop.example/s0035/laws.FnExactFlatOk" = some 5 by kernel_rfl).symm.trans hf) |>.symm
  obtain rfl : fn = Tryd.f5 := (Option.some.inj (Tryd.func5.symm.trans hfn)).symm
  have hall : (Tryd.f5.params.toList.all fun u => !Tryd.prog.wantsStandIn u) = true := by kernel_rfl
  refine ⟨by kernel_rfl, fun j t ht => ?_⟩
  have := List.all_eq_true.1 hall t (Array.mem_toList_iff.2 (Array.mem_of_getElem? ht))
  exact (show Tryd.prog.wantsStandIn t = false by simpa using this)

theorem card : Rows.FnExactFlatOkCardSaid :=
  Claim7.holds_tied_plain_at .later [] _ _ _ _ said (fun _ h => by cases h) (by kernel_rfl) (fun _ h => by cases h) fnExactFlatOk_row_tie rfl ⟨rfl, rfl⟩ (by kernel_rfl) rfl plain (by kernel_rfl)
end Go.Proofs.YtkdeilhkobcglaaDoor.fnExactFlatOk
namespace Go.Proofs.YtkdeilhkobcglaaDoor
theorem fnExactFlatOk_card : Rows.FnExactFlatOkCardSaid := fnExactFlatOk.card
end Go.Proofs.YtkdeilhkobcglaaDoor
