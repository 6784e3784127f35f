/-
  DERIVED. GIVEN WITH THE SEED: THE PROGRAM's TIES (one call each: nine closed facts by the kernel) AND EACH ROW's TIE, after the 31st guide's Derived/Test/Toyas{Tie, Card}.lean. No idea stands in it: it is a product of the set-up. Laid BY PROGRAM, IN A SANDBOX (cutbox-door.mjs). By AI agents, Wed Nov 11 2026. No macro, syntax, notation, axiom, sorry.
-/
import Derived.Test.YtnchcndcinpalaaGreatDoorRows
import Derived.LaidByTextLater
import Derived.SevenTiedAt
import Derived.LaidSub
import Derived.LaidOnce
namespace Go.Proofs.YtnchcndcinpalaaGreatDoor
open Go
set_option maxRecDepth 100000
theorem seatTie1 : Tryz.prog.laidByTextLater [("loop.example/s0035/impl.takesTable", Rows.laid_loop_example_s0035_impl_takesTable), ("loop.example/s0035/impl.keywords", Rows.laid_loop_example_s0035_impl_keywords), ("loop.example/s0035/impl.planFields", Rows.laid_loop_example_s0035_impl_planFields), ("loop.example/s0035/impl.flatFields", Rows.laid_loop_example_s0035_impl_flatFields), ("loop.example/s0035/impl.flatKinds", Rows.laid_loop_example_s0035_impl_flatKinds)] [.data, .data, .wider, .wider, .data] true :=
  Program.laidByTextLater_by_one 53 8 97 (by kernel_rfl) (by kernel_rfl) (by kernel_rfl) (by kernel_rfl) (by kernel_rfl) (by kernel_rfl) (fun _ _ => by kernel_rfl)
theorem noOwnUnsafe : Tryz.pinned.checked.prog.headLifts.contains "ownunsafe" = false := by kernel_rfl
theorem tie : Tryz.prog.laidByTextLater [("loop.example/s0035/impl.takesTable", Rows.laid_loop_example_s0035_impl_takesTable), ("loop.example/s0035/impl.keywords", Rows.laid_loop_example_s0035_impl_keywords), ("loop.example/s0035/impl.flatFields", Rows.laid_loop_example_s0035_impl_flatFields)] [.data, .data, .wider] true :=
  Program.laidByTextLater.sub seatTie1 ["loop.example/s0035/impl.takesTable", "loop.example/s0035/impl.keywords", "loop.example/s0035/impl.flatFields"] (by kernel_rfl) (by kernel_rfl)
theorem fnExactSimplify_row_tie : Rows.fnExactSimplifyRow.laidByTextAt .later Tryz.pinned [.data, .data, .wider] true :=
  OpenClaim.laidByTextAt_later rfl rfl tie noOwnUnsafe
theorem tie2 : Tryz.prog.laidByTextLater [("loop.example/s0035/impl.takesTable", Rows.laid_loop_example_s0035_impl_takesTable), ("loop.example/s0035/impl.keywords", Rows.laid_loop_example_s0035_impl_keywords), ("loop.example/s0035/impl.planFields", Rows.laid_loop_example_s0035_impl_planFields), ("loop.example/s0035/impl.flatFields", Rows.laid_loop_example_s0035_impl_flatFields), ("loop.example/s0035/impl.flatKinds", Rows.laid_loop_example_s0035_impl_flatKinds)] [.data, .data, .wider, .wider, .data] true :=
  Program.laidByTextLater.sub seatTie1 ["loop.example/s0035/impl.takesTable", "loop.example/s0035/impl.keywords", "loop.example/s0035/impl.planFields", "loop.example/s0035/impl.flatFields", "loop.example/s0035/impl.flatKinds"] (by kernel_rfl) (by kernel_rfl)
theorem fnExactUnnest_row_tie : Rows.fnExactUnnestRow.laidByTextAt .later Tryz.pinned [.data, .data, .wider, .wider, .data] true :=
  OpenClaim.laidByTextAt_later rfl rfl tie2 noOwnUnsafe
theorem fnExactSimplifyUpto_row_tie : Rows.fnExactSimplifyUptoRow.laidByTextAt .later Tryz.pinned [.data, .data, .wider] true :=
  OpenClaim.laidByTextAt_later rfl rfl tie noOwnUnsafe
theorem fnExactUnnestUpto_row_tie : Rows.fnExactUnnestUptoRow.laidByTextAt .later Tryz.pinned [.data, .data, .wider, .wider, .data] true :=
  OpenClaim.laidByTextAt_later rfl rfl tie2 noOwnUnsafe
end Go.Proofs.YtnchcndcinpalaaGreatDoor
