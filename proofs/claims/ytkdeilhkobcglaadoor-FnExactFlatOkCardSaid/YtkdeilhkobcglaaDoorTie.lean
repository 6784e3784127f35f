/-
  DERIVED. GIVEN WITH THE SEED: THE PROGRAM's TIES (one call each: nine closed facts by the kernel) AND EACH ROW's TIE, after the 31st guide's Derived/Test/Toyas{Tie, Card}.lean. No idea stands in it: it is a product of the set-up. Laid BY PROGRAM, IN A SANDBOX (cutbox-door.mjs). By AI agents, Wed Nov 11 2026. No macro, syntax, notation, axiom, sorry.
-/
import Derived.Test.YtkdeilhkobcglaaDoorRows
import Derived.LaidByTextLater
import Derived.SevenTiedAt
import Derived.LaidSub
import Derived.LaidOnce
namespace Go.Proofs.YtkdeilhkobcglaaDoor
open Go
set_option maxRecDepth 100000
theorem seatTie1 : Tryd.prog.laidByTextLater [("loop.example/s0035/impl.takesTable", Rows.laid_loop_example_s0035_impl_takesTable), ("loop.example/s0035/impl.keywords", Rows.laid_loop_example_s0035_impl_keywords), ("loop.example/s0035/impl.planFields", Rows.laid_loop_example_s0035_impl_planFields), ("loop.example/s0035/impl.flatFields", Rows.laid_loop_example_s0035_impl_flatFields)] [.data, .data, .wider, .wider] true :=
  Program.laidByTextLater_by_one 48 8 97 (by kernel_rfl) (by kernel_rfl) (by kernel_rfl) (by kernel_rfl) (by kernel_rfl) (by kernel_rfl) (fun _ _ => by kernel_rfl)
theorem noOwnUnsafe : Tryd.pinned.checked.prog.headLifts.contains "ownunsafe" = false := by kernel_rfl
theorem tie : Tryd.prog.laidByTextLater [("loop.example/s0035/impl.takesTable", Rows.laid_loop_example_s0035_impl_takesTable), ("loop.example/s0035/impl.keywords", Rows.laid_loop_example_s0035_impl_keywords), ("loop.example/s0035/impl.planFields", Rows.laid_loop_example_s0035_impl_planFields)] [.data, .data, .wider] true :=
  Program.laidByTextLater.sub seatTie1 ["loop.example/s0035/impl.takesTable", "loop.example/s0035/impl.keywords", "loop.example/s0035/impl.planFields"] (by kernel_rfl) (by kernel_rfl)
theorem fnExactPlanOk_row_tie : Rows.fnExactPlanOkRow.laidByTextAt .later Tryd.pinned [.data, .data, .wider] true :=
  OpenClaim.laidByTextAt_later rfl rfl tie noOwnUnsafe
theorem fnExactPlanWork_row_tie : Rows.fnExactPlanWorkRow.laidByTextAt .later Tryd.pinned [.data, .data, .wider] true :=
  OpenClaim.laidByTextAt_later rfl rfl tie noOwnUnsafe
theorem tie2 : Tryd.prog.laidByTextLater [("loop.example/s0035/impl.takesTable", Rows.laid_loop_example_s0035_impl_takesTable), ("loop.example/s0035/impl.keywords", Rows.laid_loop_example_s0035_impl_keywords), ("loop.example/s0035/impl.flatFields", Rows.laid_loop_example_s0035_impl_flatFields)] [.data, .data, .wider] true :=
  Program.laidByTextLater.sub seatTie1 ["loop.example/s0035/impl.takesTable", "loop.example/s0035/impl.keywords", "loop.example/s0035/impl.flatFields"] (by kernel_rfl) (by kernel_rfl)
theorem fnExactFlatOk_row_tie : Rows.fnExactFlatOkRow.laidByTextAt .later Tryd.pinned [.data, .data, .wider] true :=
  OpenClaim.laidByTextAt_later rfl rfl tie2 noOwnUnsafe
theorem fnExactPlanOkUpto_row_tie : Rows.fnExactPlanOkUptoRow.laidByTextAt .later Tryd.pinned [.data, .data, .wider] true :=
  OpenClaim.laidByTextAt_later rfl rfl tie noOwnUnsafe
theorem fnExactPlanWorkUpto_row_tie : Rows.fnExactPlanWorkUptoRow.laidByTextAt .later Tryd.pinned [.data, .data, .wider] true :=
  OpenClaim.laidByTextAt_later rfl rfl tie noOwnUnsafe
theorem fnExactFlatOkUpto_row_tie : Rows.fnExactFlatOkUptoRow.laidByTextAt .later Tryd.pinned [.data, .data, .wider] true :=
  OpenClaim.laidByTextAt_later rfl rfl tie2 noOwnUnsafe
end Go.Proofs.YtkdeilhkobcglaaDoor
