/-
  DERIVED. GIVEN WITH THE SEED: THE PROGRAM's TIES (one call each: nine closed facts by the kernel) AND EACH ROW's TIE, after the 31st guide's Derived/Test/Toyas{Tie, Card}.lean. No idea stands in it: it is a product of the set-up. Laid BY PROGRAM, IN A SANDBOX (cutbox-door.mjs). By AI agents, Wed Nov 11 2026. No macro, syntax, notation, axiom, sorry.
-/
import Derived.Test.YtahanplikbdccaaDoorRows
import Derived.LaidByTextLater
import Derived.SevenTiedAt
import Derived.LaidSub
import Derived.LaidOnce
namespace Go.Proofs.YtahanplikbdccaaDoor
open Go
set_option maxRecDepth 100000
theorem seatTie1 : Tryd.prog.laidByTextLater [("loop.example/s0035/impl.takesTable", Rows.laid_loop_example_s0035_impl_takesTable), ("loop.example/s0035/impl.keywords", Rows.laid_loop_example_s0035_impl_keywords), ("loop.example/s0035/impl.planFields", Rows.laid_loop_example_s0035_impl_planFields)] [.data, .data, .data] true :=
  Program.laidByTextLater_by_one 33 8 78 (by kernel_rfl) (by kernel_rfl) (by kernel_rfl) (by kernel_rfl) (by kernel_rfl) (by kernel_rfl) (fun _ _ => by kernel_rfl)
theorem noOwnUnsafe : Tryd.pinned.checked.prog.headLifts.contains "ownunsafe" = false := by kernel_rfl
theorem tie : Tryd.prog.laidByTextLater [("loop.example/s0035/impl.keywords", Rows.laid_loop_example_s0035_impl_keywords)] [.data] true :=
  Program.laidByTextLater.sub seatTie1 ["loop.example/s0035/impl.keywords"] (by kernel_rfl) (by kernel_rfl)
theorem fnExactDbOk_row_tie : Rows.fnExactDbOkRow.laidByTextAt .later Tryd.pinned [.data] true :=
  OpenClaim.laidByTextAt_later rfl rfl tie noOwnUnsafe
theorem tie2 : Tryd.prog.laidByTextLater [("loop.example/s0035/impl.takesTable", Rows.laid_loop_example_s0035_impl_takesTable), ("loop.example/s0035/impl.keywords", Rows.laid_loop_example_s0035_impl_keywords), ("loop.example/s0035/impl.planFields", Rows.laid_loop_example_s0035_impl_planFields)] [.data, .data, .data] true :=
  Program.laidByTextLater.sub seatTie1 ["loop.example/s0035/impl.takesTable", "loop.example/s0035/impl.keywords", "loop.example/s0035/impl.planFields"] (by kernel_rfl) (by kernel_rfl)
theorem fnExactPlanOk_row_tie : Rows.fnExactPlanOkRow.laidByTextAt .later Tryd.pinned [.data, .data, .data] true :=
  OpenClaim.laidByTextAt_later rfl rfl tie2 noOwnUnsafe
theorem fnExactPlanWork_row_tie : Rows.fnExactPlanWorkRow.laidByTextAt .later Tryd.pinned [.data, .data, .data] true :=
  OpenClaim.laidByTextAt_later rfl rfl tie2 noOwnUnsafe
theorem fnExactDbOkUpto_row_tie : Rows.fnExactDbOkUptoRow.laidByTextAt .later Tryd.pinned [.data] true :=
  OpenClaim.laidByTextAt_later rfl rfl tie noOwnUnsafe
theorem fnExactPlanOkUpto_row_tie : Rows.fnExactPlanOkUptoRow.laidByTextAt .later Tryd.pinned [.data, .data, .data] true :=
  OpenClaim.laidByTextAt_later rfl rfl tie2 noOwnUnsafe
theorem fnExactPlanWorkUpto_row_tie : Rows.fnExactPlanWorkUptoRow.laidByTextAt .later Tryd.pinned [.data, .data, .data] true :=
  OpenClaim.laidByTextAt_later rfl rfl tie2 noOwnUnsafe
end Go.Proofs.YtahanplikbdccaaDoor
