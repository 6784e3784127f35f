/-
  DERIVED. GIVEN WITH THE SEED: THE PROGRAM's TIES (one call each: nine closed facts by the kernel) AND EACH ROW's TIE, after the 31st guide's Derived/Test/Toyas{Tie, Card}.lean. No idea stands in it: it is a product of the set-up. Laid BY PROGRAM, IN A SANDBOX (cutbox-door.mjs). By AI agents, Wed Nov 11 2026. No macro, syntax, notation, axiom, sorry.
-/
import Derived.Test.YtafmlbojmmdcdaaDoorRows
import Derived.LaidByTextLater
import Derived.SevenTiedAt
import Derived.LaidSub
import Derived.LaidOnce
namespace Go.Proofs.YtafmlbojmmdcdaaDoor
open Go
set_option maxRecDepth 100000
theorem seatTie1 : Tryd.prog.laidByTextLater [("loop.example/s0035/impl.notTable", Rows.laid_loop_example_s0035_impl_notTable), ("loop.example/s0035/impl.andTable", Rows.laid_loop_example_s0035_impl_andTable), ("loop.example/s0035/impl.orTable", Rows.laid_loop_example_s0035_impl_orTable), ("loop.example/s0035/impl.cmpTable", Rows.laid_loop_example_s0035_impl_cmpTable), ("loop.example/s0035/impl.valTable", Rows.laid_loop_example_s0035_impl_valTable), ("loop.example/s0035/impl.takesTable", Rows.laid_loop_example_s0035_impl_takesTable)] [.data, .data, .data, .data, .data, .data] true :=
  Program.laidByTextLater_by_one 54 8 22 (by kernel_rfl) (by kernel_rfl) (by kernel_rfl) (by kernel_rfl) (by kernel_rfl) (by kernel_rfl) (fun _ _ => by kernel_rfl)
theorem noOwnUnsafe : Tryd.pinned.checked.prog.headLifts.contains "ownunsafe" = false := by kernel_rfl
theorem tie : Tryd.prog.laidByTextLater [("loop.example/s0035/impl.notTable", Rows.laid_loop_example_s0035_impl_notTable), ("loop.example/s0035/impl.andTable", Rows.laid_loop_example_s0035_impl_andTable), ("loop.example/s0035/impl.orTable", Rows.laid_loop_example_s0035_impl_orTable), ("loop.example/s0035/impl.cmpTable", Rows.laid_loop_example_s0035_impl_cmpTable), ("loop.example/s0035/impl.valTable", Rows.laid_loop_example_s0035_impl_valTable), ("loop.example/s0035/impl.takesTable", Rows.laid_loop_example_s0035_impl_takesTable)] [.data, .data, .data, .data, .data, .data] true :=
  Program.laidByTextLater.sub seatTie1 ["loop.example/s0035/impl.notTable", "loop.example/s0035/impl.andTable", "loop.example/s0035/impl.orTable", "loop.example/s0035/impl.cmpTable", "loop.example/s0035/impl.valTable", "loop.example/s0035/impl.takesTable"] (by kernel_rfl) (by kernel_rfl)
theorem fnLogic_row_tie : Rows.fnLogicRow.laidByTextAt .later Tryd.pinned [.data, .data, .data, .data, .data, .data] true :=
  OpenClaim.laidByTextAt_later rfl rfl tie noOwnUnsafe
theorem tie2 : Tryd.prog.laidByTextLater [("loop.example/s0035/impl.notTable", Rows.laid_loop_example_s0035_impl_notTable), ("loop.example/s0035/impl.valTable", Rows.laid_loop_example_s0035_impl_valTable)] [.data, .data] true :=
  Program.laidByTextLater.sub seatTie1 ["loop.example/s0035/impl.notTable", "loop.example/s0035/impl.valTable"] (by kernel_rfl) (by kernel_rfl)
theorem fnExactNot3_row_tie : Rows.fnExactNot3Row.laidByTextAt .later Tryd.pinned [.data, .data] true :=
  OpenClaim.laidByTextAt_later rfl rfl tie2 noOwnUnsafe
theorem tie3 : Tryd.prog.laidByTextLater [("loop.example/s0035/impl.andTable", Rows.laid_loop_example_s0035_impl_andTable), ("loop.example/s0035/impl.valTable", Rows.laid_loop_example_s0035_impl_valTable)] [.data, .data] true :=
  Program.laidByTextLater.sub seatTie1 ["loop.example/s0035/impl.andTable", "loop.example/s0035/impl.valTable"] (by kernel_rfl) (by kernel_rfl)
theorem fnExactAnd3_row_tie : Rows.fnExactAnd3Row.laidByTextAt .later Tryd.pinned [.data, .data] true :=
  OpenClaim.laidByTextAt_later rfl rfl tie3 noOwnUnsafe
theorem fnLogicUpto_row_tie : Rows.fnLogicUptoRow.laidByTextAt .later Tryd.pinned [.data, .data, .data, .data, .data, .data] true :=
  OpenClaim.laidByTextAt_later rfl rfl tie noOwnUnsafe
theorem fnExactNot3Upto_row_tie : Rows.fnExactNot3UptoRow.laidByTextAt .later Tryd.pinned [.data, .data] true :=
  OpenClaim.laidByTextAt_later rfl rfl tie2 noOwnUnsafe
theorem fnExactAnd3Upto_row_tie : Rows.fnExactAnd3UptoRow.laidByTextAt .later Tryd.pinned [.data, .data] true :=
  OpenClaim.laidByTextAt_later rfl rfl tie3 noOwnUnsafe
end Go.Proofs.YtafmlbojmmdcdaaDoor
