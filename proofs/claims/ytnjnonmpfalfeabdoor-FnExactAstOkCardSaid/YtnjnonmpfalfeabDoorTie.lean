/-
  DERIVED. GIVEN WITH THE SEED: THE PROGRAM's TIES (one call each: nine closed facts by the kernel) AND EACH ROW's TIE, after the 31st guide's Derived/Test/Toyas{Tie, Card}.lean. No idea stands in it: it is a product of the set-up. Laid BY PROGRAM, IN A SANDBOX (cutbox-door.mjs). By AI agents, Wed Nov 11 2026. No macro, syntax, notation, axiom, sorry.
-/
import Derived.Test.YtnjnonmpfalfeabDoorRows
import Derived.LaidByTextLater
import Derived.SevenTiedAt
import Derived.LaidSub
import Derived.LaidOnce
namespace Go.Proofs.YtnjnonmpfalfeabDoor
open Go
set_option maxRecDepth 100000
theorem seatTie1 : Tryd.prog.laidByTextLater [("loop.example/s0035/impl.notTable", Rows.laid_loop_example_s0035_impl_notTable), ("loop.example/s0035/impl.andTable", Rows.laid_loop_example_s0035_impl_andTable), ("loop.example/s0035/impl.orTable", Rows.laid_loop_example_s0035_impl_orTable), ("loop.example/s0035/impl.cmpTable", Rows.laid_loop_example_s0035_impl_cmpTable), ("loop.example/s0035/impl.valTable", Rows.laid_loop_example_s0035_impl_valTable), ("loop.example/s0035/impl.takesTable", Rows.laid_loop_example_s0035_impl_takesTable), ("loop.example/s0035/impl.keywords", Rows.laid_loop_example_s0035_impl_keywords), ("loop.example/s0035/impl.fieldRules", Rows.laid_loop_example_s0035_impl_fieldRules)] [.data, .data, .data, .data, .data, .data, .data, .data] true :=
  Program.laidByTextLater_by_one 73 8 97 (by kernel_rfl) (by kernel_rfl) (by kernel_rfl) (by kernel_rfl) (by kernel_rfl) (by kernel_rfl) (fun _ _ => by kernel_rfl)
theorem noOwnUnsafe : Tryd.pinned.checked.prog.headLifts.contains "ownunsafe" = false := by kernel_rfl
theorem tie : Tryd.prog.laidByTextLater [("loop.example/s0035/impl.orTable", Rows.laid_loop_example_s0035_impl_orTable), ("loop.example/s0035/impl.valTable", Rows.laid_loop_example_s0035_impl_valTable)] [.data, .data] true :=
  Program.laidByTextLater.sub seatTie1 ["loop.example/s0035/impl.orTable", "loop.example/s0035/impl.valTable"] (by kernel_rfl) (by kernel_rfl)
theorem fnExactOr3_row_tie : Rows.fnExactOr3Row.laidByTextAt .later Tryd.pinned [.data, .data] true :=
  OpenClaim.laidByTextAt_later rfl rfl tie noOwnUnsafe
theorem tie2 : Tryd.prog.laidByTextLater [("loop.example/s0035/impl.cmpTable", Rows.laid_loop_example_s0035_impl_cmpTable), ("loop.example/s0035/impl.valTable", Rows.laid_loop_example_s0035_impl_valTable)] [.data, .data] true :=
  Program.laidByTextLater.sub seatTie1 ["loop.example/s0035/impl.cmpTable", "loop.example/s0035/impl.valTable"] (by kernel_rfl) (by kernel_rfl)
theorem fnExactCmp3_row_tie : Rows.fnExactCmp3Row.laidByTextAt .later Tryd.pinned [.data, .data] true :=
  OpenClaim.laidByTextAt_later rfl rfl tie2 noOwnUnsafe
theorem tie3 : Tryd.prog.laidByTextLater [("loop.example/s0035/impl.takesTable", Rows.laid_loop_example_s0035_impl_takesTable)] [.data] true :=
  Program.laidByTextLater.sub seatTie1 ["loop.example/s0035/impl.takesTable"] (by kernel_rfl) (by kernel_rfl)
theorem fnExactExOk_row_tie : Rows.fnExactExOkRow.laidByTextAt .later Tryd.pinned [.data] true :=
  OpenClaim.laidByTextAt_later rfl rfl tie3 noOwnUnsafe
theorem tie4 : Tryd.prog.laidByTextLater [("loop.example/s0035/impl.notTable", Rows.laid_loop_example_s0035_impl_notTable), ("loop.example/s0035/impl.andTable", Rows.laid_loop_example_s0035_impl_andTable), ("loop.example/s0035/impl.orTable", Rows.laid_loop_example_s0035_impl_orTable), ("loop.example/s0035/impl.cmpTable", Rows.laid_loop_example_s0035_impl_cmpTable), ("loop.example/s0035/impl.valTable", Rows.laid_loop_example_s0035_impl_valTable), ("loop.example/s0035/impl.takesTable", Rows.laid_loop_example_s0035_impl_takesTable)] [.data, .data, .data, .data, .data, .data] true :=
  Program.laidByTextLater.sub seatTie1 ["loop.example/s0035/impl.notTable", "loop.example/s0035/impl.andTable", "loop.example/s0035/impl.orTable", "loop.example/s0035/impl.cmpTable", "loop.example/s0035/impl.valTable", "loop.example/s0035/impl.takesTable"] (by kernel_rfl) (by kernel_rfl)
theorem fnExactEvalEx_row_tie : Rows.fnExactEvalExRow.laidByTextAt .later Tryd.pinned [.data, .data, .data, .data, .data, .data] true :=
  OpenClaim.laidByTextAt_later rfl rfl tie4 noOwnUnsafe
theorem tie5 : Tryd.prog.laidByTextLater [("loop.example/s0035/impl.keywords", Rows.laid_loop_example_s0035_impl_keywords), ("loop.example/s0035/impl.fieldRules", Rows.laid_loop_example_s0035_impl_fieldRules)] [.data, .data] true :=
  Program.laidByTextLater.sub seatTie1 ["loop.example/s0035/impl.keywords", "loop.example/s0035/impl.fieldRules"] (by kernel_rfl) (by kernel_rfl)
theorem fnExactAstOk_row_tie : Rows.fnExactAstOkRow.laidByTextAt .later Tryd.pinned [.data, .data] true :=
  OpenClaim.laidByTextAt_later rfl rfl tie5 noOwnUnsafe
theorem fnExactOr3Upto_row_tie : Rows.fnExactOr3UptoRow.laidByTextAt .later Tryd.pinned [.data, .data] true :=
  OpenClaim.laidByTextAt_later rfl rfl tie noOwnUnsafe
theorem fnExactCmp3Upto_row_tie : Rows.fnExactCmp3UptoRow.laidByTextAt .later Tryd.pinned [.data, .data] true :=
  OpenClaim.laidByTextAt_later rfl rfl tie2 noOwnUnsafe
theorem fnExactExOkUpto_row_tie : Rows.fnExactExOkUptoRow.laidByTextAt .later Tryd.pinned [.data] true :=
  OpenClaim.laidByTextAt_later rfl rfl tie3 noOwnUnsafe
theorem fnExactEvalExUpto_row_tie : Rows.fnExactEvalExUptoRow.laidByTextAt .later Tryd.pinned [.data, .data, .data, .data, .data, .data] true :=
  OpenClaim.laidByTextAt_later rfl rfl tie4 noOwnUnsafe
theorem fnExactAstOkUpto_row_tie : Rows.fnExactAstOkUptoRow.laidByTextAt .later Tryd.pinned [.data, .data] true :=
  OpenClaim.laidByTextAt_later rfl rfl tie5 noOwnUnsafe
end Go.Proofs.YtnjnonmpfalfeabDoor
