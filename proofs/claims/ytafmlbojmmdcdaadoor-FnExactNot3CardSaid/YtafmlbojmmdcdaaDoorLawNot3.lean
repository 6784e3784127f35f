import Derived.Test.YtafmlbojmmdcdaaDoorCards
import Derived.Test.YtafmlbojmmdcdaaDoorTie
import Derived.Test.YtafmlbojmmdcdaaDoorFrame
import Derived.Test.YtafmlbojmmdcdaaDoorTables
import Derived.Test.YtafmlbojmmdcdaaDoorLawNot3W
import Derived.Stop.Joined
import Derived.Lib.SmallJoins
namespace Go.Proofs.YtafmlbojmmdcdaaDoor.lawNot3
open Go.ChangeShapes Go.WideShapes Go.ChangeAt Go.RowKit Go.Joins

theorem own : ownKnob Tryd.prog.godebug = none := by kernel_rfl
theorem laidOut : laidOutB Tryd.prog = true := by kernel_rfl
theorem cellsV : Tryd.prog.cellsOf 41 = 2 := by kernel_rfl

/-- the door's own heap meets the condition -/
theorem door_met (os : Os) (args : Array Value) : laidMetH Tryd.prog Rows.fnExactNot3Row.laid ((World.doorLaid Tryd.prog 400 os).forCall (fun _ _ => 0) ⟨#[], args, []⟩).memory :=
  laidMetH_of_parts3 (fuel := 8) (laidMet_of_run' 8 (by kernel_rfl) (by kernel_rfl)) (by kernel_rfl) (by kernel_rfl)

theorem tVal {W : World} (h : laidMetH Tryd.prog Rows.fnExactNot3Row.laid W) : TVal W := by
  obtain ⟨h1, h2⟩ := Tables.cells_of_laid (n := "loop.example/s0035/impl.valTable") (d := Rows.laid_loop_example_s0035_impl_valTable) h (by kernel_rfl) (by simp [Rows.fnExactNot3Row]) (g := 0) (t := 48) (by kernel_rfl) (by kernel_rfl) 4 (by kernel_rfl)
  exact ⟨h1, h2⟩
theorem tNot {W : World} (h : laidMetH Tryd.prog Rows.fnExactNot3Row.laid W) : TNot W := by
  obtain ⟨h1, h2⟩ := Tables.cells_of_laid (n := "loop.example/s0035/impl.notTable") (d := Rows.laid_loop_example_s0035_impl_notTable) h (by kernel_rfl) (by simp [Rows.fnExactNot3Row]) (g := 1) (t := 50) (by kernel_rfl) (by kernel_rfl) 4 (by kernel_rfl)
  exact ⟨h1, h2⟩

set_option maxRecDepth 100000 in
theorem lifted (os : Os) (started : os.Started) (H : Type) (enc : TypeId × Value → H) :
    ReturnsInHanded {} Tryd.checked os 4 .any (fun w args => (Rows.fnExactNot3Spec.pre enc Tryd.prog Tryd.f4 [] false w args ∧ laidMetH Tryd.prog Rows.fnExactNot3Row.laid w) ∧ sizedMet enc Tryd.prog Tryd.f4 (OpenSpec.ofChange Rows.fnExactNot3Spec) false w args)
      (Rows.fnExactNot3Spec.post enc Tryd.prog Tryd.f4 false true false false) := by
  refine returnsInHanded_of_change_and (C := Tryd.checked) (X := fun w _ => laidMetH Tryd.prog Rows.fnExactNot3Row.laid w) (fun _ _ _ hh h => h.of_heap hh) own started (by kernel_rfl) Tryd.func4
    (ChangeSpec.witness_shaped (enc := enc) (C := Tryd.checked) (os := os) (X := fun w _ => laidMetH Tryd.prog Rows.fnExactNot3Row.laid w) false (World.doorLaid Tryd.prog 400 os) #[.agg #[.bool false, .int .i64 0]] 8 rfl (World.shaped_of_RefB (by kernel_rfl) (by kernel_rfl)) (by kernel_rfl) (by kernel_rfl) (by kernel_rfl) (door_met os _)) ?_
  intro W base args ds gs before hval0 hW _ _ hL _
  have hval : ∀ (j : Nat) t v, Tryd.f4.params[j]? = some t → args[j]? = some v → Value.okWide Tryd.prog W .any base t v := hval0
  have hW' := hW
  obtain ⟨p, q, hA0, hV, rfl, hfz, hnd⟩ := hW
  have hA : DataW.TrodAll enc Tryd.prog W 0 (fun _ => true) true Tryd.f4.params.toList args.toList ds p := hA0
  rw [Tryd.params4] at hA hval
  obtain ⟨v0, d0, rfl, rfl, h0⟩ := trodAll_one hA
  obtain ⟨c0, c1, y0, y1, m, rfl, rfl, rfl, hy0, hy1⟩ := open_agg2 Tryd.underlying41 (by kernel_rfl) cellsV (hval 0 41 v0 rfl rfl) h0
  obtain ⟨b, e0, rfl⟩ := DataW.trod_bool Tryd.underlying4 hy0
  obtain ⟨n, e1, rfl, _⟩ := DataW.trod_int Tryd.underlying2 hy1
  simp only [List.cons.injEq, and_true] at e0 e1
  subst e0 e1
  refine (lawNot3_calls b n W (tVal hL) (tNot hL)).mono fun e W' ⟨he, hb⟩ => ?_
  subst he
  obtain ⟨g1, g2, rfl⟩ : ∃ g1 g2, gs = [g1, g2] := by
    obtain ⟨_, _, _, _, _, _, _, _, _, _, _, _, rfl, _⟩ := trodVars_two hV
    exact ⟨_, _, rfl⟩
  exact ⟨_, rfl, Frame.law_post laidOut (by kernel_rfl) (by kernel_rfl) (by kernel_rfl) Tryd.underlying4 hW' rfl hb⟩

theorem said : Rows.FnExactNot3Said :=
  OpenClaim.holds_of_wide 4 Tryd.f4 rfl rfl rfl rfl rfl rfl rfl ⟨rfl, rfl, rfl, rfl, rfl⟩ rfl rfl rfl rfl rfl (by kernel_rfl) Tryd.func4 (by kernel_rfl)
    (of_decide_eq_true (by kernel_rfl)) (by unfold Func.isWrapper; first | (rw [if_pos (by decide +kernel)]; kernel_rfl) | (rw [if_neg (by decide +kernel)]; exact ⟨rfl, rfl⟩))
    (fun os started H enc _ => lifted os started H enc)

theorem plain (f : FuncId) (fn : Func) (hf : Tryd.pinned.checked.prog.funcNamed "loop.example/s0035/laws.FnExactNot3" = some f) (hfn : Tryd.pinned.checked.prog.funcs[f]? = some fn) :
    false = Tryd.pinned.checked.prog.looks [] ∧ ∀ (j : Nat) t, fn.params[j]? = some t → Tryd.pinned.checked.prog.wantsStandIn t = false := by
  obtain rfl : f = 4 := Option.some.inj ((show Tryd.prog.funcNamed "loop.example/s0035/laws.FnExactNot3" = some 4 by kernel_rfl).symm.trans hf) |>.symm
  obtain rfl : fn = Tryd.f4 := (Option.some.inj (Tryd.func4.symm.trans hfn)).symm
  have hall : (Tryd.f4.params.toList.all fun u => !Tryd.prog.wantsStandIn u) = true := by kernel_rfl
  refine ⟨by kernel_rfl, fun j t ht => ?_⟩
  have := List.all_eq_true.1 hall t (Array.mem_toList_iff.2 (Array.mem_of_getElem? ht))
  exact (show Tryd.prog.wantsStandIn t = false by simpa using this)

theorem card : Rows.FnExactNot3CardSaid :=
  Claim7.holds_tied_plain_at .later [] _ _ _ _ said (fun _ h => by cases h) (by kernel_rfl) (fun _ h => by cases h) fnExactNot3_row_tie rfl ⟨rfl, rfl⟩ (by kernel_rfl) rfl plain (by kernel_rfl)
end Go.Proofs.YtafmlbojmmdcdaaDoor.lawNot3
namespace Go.Proofs.YtafmlbojmmdcdaaDoor
theorem fnExactNot3_card : Rows.FnExactNot3CardSaid := lawNot3.card
end Go.Proofs.YtafmlbojmmdcdaaDoor
