/-
  NARROWER THAN 'FOR EVERY INPUT', by the rows' own cells (each row's printed sentence says how): FnExactSimplify: laid · FnExactUnnest: laid.
  DERIVED. THE GIVEN ROWS OF THIS SEAT. 2 by the template 'for every input the law returns true; each argument reads behind the call as it read before'; 0 by the template 'total and deterministic' (their statements: YtnchcndcinpalaaGreatDoorTotals.lean).
  GIVEN WITH THE SEED: the statements are not yours to turn. If you find one false, say at which input.
  Laid BY PROGRAM, IN A SANDBOX (cutbox-rows.mjs): the forced cells as the released guide's own fill.sh prints them over the translation d50e7a1b351f7c42… (all of the seat's roots in one cut). By AI agents, Wed Nov 11 2026. No macro, syntax, notation, axiom, sorry.
-/
import Derived.Test.YtnchcndcinpalaaGreatDoorChecked
import GoSem.Claim
import GoSem.ClaimJoined
import GoSem.ClaimMapViews
import Derived.JoinedTies
import Derived.KernelRfl
namespace Go.Proofs.YtnchcndcinpalaaGreatDoor
/- THE CELL 'sum', in the pinned program and in every row, IS THE sha256 OF THE DUMP (.gsa) THAT YtnchcndcinpalaaGreatDoorProg.lean LOADS. Nothing in Lean hashes anything: it is a label: what it is worth is what the hold of that sum in a sandbox is worth. -/
noncomputable def Tryz.pinned : Pinned := { name := "ytnchcndcinpalaagreatdoor", sum := "d50e7a1b351f7c429556c2c057acd2ae6103908b1060061dc8be2c5c3e450523", checked := Tryz.checked }
namespace Rows
def none {H : Type} : Left H := { results := [], args := [] }

/- WHAT THE LISTED PACKAGE-LEVEL VARIABLES READ AS WHEN THE CALL BEGINS. Each datum BY PROGRAM (the guide's laid-datum.mjs) off the statement by which the dump's own 'gosem.cut.vars' lays the variable. In a bare row this is a premise. The card (YtnchcndcinpalaaGreatDoorCards.lean) ties it to the program's text. -/
def laid_loop_example_s0035_impl_takesTable {H : Type} : DataW H := .agg [.lit (.int .i64 0), .lit (.int .i64 0), .lit (.int .i64 0), .lit (.int .i64 0), .lit (.int .i64 2), .lit (.int .i64 2), .lit (.int .i64 2), .lit (.int .i64 1), .lit (.int .i64 1)]
def laid_loop_example_s0035_impl_keywords {H : Type} : DataW H := .agg [.lit (.string [83, 69, 76, 69, 67, 84]), .lit (.string [68, 73, 83, 84, 73, 78, 67, 84]), .lit (.string [70, 82, 79, 77]), .lit (.string [87, 72, 69, 82, 69]), .lit (.string [85, 78, 73, 79, 78]), .lit (.string [65, 76, 76]), .lit (.string [65, 78, 89]), .lit (.string [65, 78, 68]), .lit (.string [79, 82]), .lit (.string [78, 79, 84]), .lit (.string [69, 88, 73, 83, 84, 83]), .lit (.string [73, 78]), .lit (.string [73, 83]), .lit (.string [78, 85, 76, 76]), .lit (.string [67, 79, 85, 78, 84]), .lit (.string [77, 73, 78]), .lit (.string [77, 65, 88])]
def laid_loop_example_s0035_impl_flatFields {H : Type} : DataW H := .agg [.agg [.lit (.bool false), .lit (.bool false), .lit (.bool false), .lit (.bool false), .lit (.bool false), .lit (.bool false), .lit (.bool false), .lit (.bool false)], .agg [.lit (.bool false), .lit (.bool false), .lit (.bool false), .lit (.bool false), .lit (.bool false), .lit (.bool false), .lit (.bool false), .lit (.bool false)], .agg [.lit (.bool true), .lit (.bool false), .lit (.bool false), .lit (.bool false), .lit (.bool false), .lit (.bool false), .lit (.bool false), .lit (.bool false)], .agg [.lit (.bool false), .lit (.bool false), .lit (.bool true), .lit (.bool false), .lit (.bool true), .lit (.bool false), .lit (.bool false), .lit (.bool false)], .agg [.lit (.bool false), .lit (.bool false), .lit (.bool false), .lit (.bool true), .lit (.bool true), .lit (.bool false), .lit (.bool false), .lit (.bool false)], .agg [.lit (.bool false), .lit (.bool false), .lit (.bool false), .lit (.bool false), .lit (.bool true), .lit (.bool true), .lit (.bool false), .lit (.bool true)], .agg [.lit (.bool false), .lit (.bool false), .lit (.bool true), .lit (.bool false), .lit (.bool true), .lit (.bool true), .lit (.bool false), .lit (.bool true)], .agg [.lit (.bool false), .lit (.bool true), .lit (.bool true), .lit (.bool false), .lit (.bool true), .lit (.bool true), .lit (.bool false), .lit (.bool true)], .agg [.lit (.bool false), .lit (.bool false), .lit (.bool false), .lit (.bool false), .lit (.bool true), .lit (.bool false), .lit (.bool false), .lit (.bool false)], .agg [.lit (.bool false), .lit (.bool false), .lit (.bool false), .lit (.bool false), .lit (.bool true), .lit (.bool true), .lit (.bool false), .lit (.bool false)], .agg [.lit (.bool false), .lit (.bool false), .lit (.bool true), .lit (.bool false), .lit (.bool true), .lit (.bool true), .lit (.bool false), .lit (.bool true)], .agg [.lit (.bool false), .lit (.bool false), .lit (.bool true), .lit (.bool false), .lit (.bool true), .lit (.bool true), .lit (.bool false), .lit (.bool true)]]
def laid_loop_example_s0035_impl_planFields {H : Type} : DataW H := .agg [.agg [.lit (.bool false), .lit (.bool false), .lit (.bool false), .lit (.bool false), .lit (.bool false), .lit (.bool false), .lit (.bool false), .lit (.bool false)], .agg [.lit (.bool false), .lit (.bool false), .lit (.bool false), .lit (.bool false), .lit (.bool false), .lit (.bool false), .lit (.bool false), .lit (.bool false)], .agg [.lit (.bool true), .lit (.bool false), .lit (.bool false), .lit (.bool false), .lit (.bool false), .lit (.bool false), .lit (.bool false), .lit (.bool false)], .agg [.lit (.bool false), .lit (.bool false), .lit (.bool true), .lit (.bool false), .lit (.bool true), .lit (.bool false), .lit (.bool false), .lit (.bool false)], .agg [.lit (.bool false), .lit (.bool false), .lit (.bool false), .lit (.bool true), .lit (.bool true), .lit (.bool false), .lit (.bool false), .lit (.bool false)], .agg [.lit (.bool false), .lit (.bool false), .lit (.bool false), .lit (.bool false), .lit (.bool true), .lit (.bool true), .lit (.bool false), .lit (.bool false)], .agg [.lit (.bool false), .lit (.bool false), .lit (.bool false), .lit (.bool false), .lit (.bool true), .lit (.bool true), .lit (.bool true), .lit (.bool false)], .agg [.lit (.bool false), .lit (.bool false), .lit (.bool true), .lit (.bool false), .lit (.bool true), .lit (.bool true), .lit (.bool true), .lit (.bool false)], .agg [.lit (.bool false), .lit (.bool true), .lit (.bool true), .lit (.bool false), .lit (.bool true), .lit (.bool true), .lit (.bool true), .lit (.bool false)], .agg [.lit (.bool false), .lit (.bool false), .lit (.bool false), .lit (.bool false), .lit (.bool true), .lit (.bool false), .lit (.bool false), .lit (.bool false)], .agg [.lit (.bool false), .lit (.bool false), .lit (.bool false), .lit (.bool false), .lit (.bool true), .lit (.bool true), .lit (.bool false), .lit (.bool false)]]
def laid_loop_example_s0035_impl_flatKinds {H : Type} : DataW H := .agg [.lit (.int .i64 0), .lit (.int .i64 0), .lit (.int .i64 0), .lit (.int .i64 3), .lit (.int .i64 4), .lit (.int .i64 5), .lit (.int .i64 5), .lit (.int .i64 6), .lit (.int .i64 7), .lit (.int .i64 8), .lit (.int .i64 9)]

/-- 'laws.FnExactSimplify': WHATEVER THE INPUT: true; the input reads as it did. -/
def fnExactSimplifySpec : ChangeSpec := { name := "fnExactSimplify", vars := ["loop.example/s0035/impl.keywords", "loop.example/s0035/impl.flatFields", "loop.example/s0035/impl.takesTable"], fn := fun _ => fun
  | [d1, d2, g1, g2, g3] => { results := [.lit (.bool true)], args := [d1, d2], vars := [g1, g2, g3] }
  | _ => none }
def fnExactSimplifyRow : OpenClaim := { program := "ytnchcndcinpalaagreatdoor", sum := "d50e7a1b351f7c429556c2c057acd2ae6103908b1060061dc8be2c5c3e450523", func := "loop.example/s0035/laws.FnExactSimplify", spec := "fnExactSimplify", unfollowed := true, recurses := true, named := ["loop.example/s0035/impl.keywords", "loop.example/s0035/impl.flatFields", "loop.example/s0035/impl.takesTable"], apart := false, laid := [("loop.example/s0035/impl.takesTable", laid_loop_example_s0035_impl_takesTable), ("loop.example/s0035/impl.keywords", laid_loop_example_s0035_impl_keywords), ("loop.example/s0035/impl.flatFields", laid_loop_example_s0035_impl_flatFields)] }
def FnExactSimplifySaid : Prop := fnExactSimplifyRow.holds Tryz.pinned (OpenSpec.ofChange fnExactSimplifySpec)

/-- ITS FALSE NEIGHBOUR: 'it returns false'. Refute it at one input. -/
def fnExactSimplifyWrong : ChangeSpec := { name := "fnExactSimplify", vars := ["loop.example/s0035/impl.keywords", "loop.example/s0035/impl.flatFields", "loop.example/s0035/impl.takesTable"], fn := fun _ => fun
  | [d1, d2, g1, g2, g3] => { results := [.lit (.bool false)], args := [d1, d2], vars := [g1, g2, g3] }
  | _ => none }
def FnExactSimplifyWrongFalsely : Prop := fnExactSimplifyRow.holds Tryz.pinned (OpenSpec.ofChange fnExactSimplifyWrong)

/-- 'laws.FnExactUnnest': WHATEVER THE INPUT: true; the input reads as it did. -/
def fnExactUnnestSpec : ChangeSpec := { name := "fnExactUnnest", vars := ["loop.example/s0035/impl.keywords", "loop.example/s0035/impl.planFields", "loop.example/s0035/impl.takesTable", "loop.example/s0035/impl.flatKinds", "loop.example/s0035/impl.flatFields"], fn := fun _ => fun
  | [d1, d2, g1, g2, g3, g4, g5] => { results := [.lit (.bool true)], args := [d1, d2], vars := [g1, g2, g3, g4, g5] }
  | _ => none }
def fnExactUnnestRow : OpenClaim := { program := "ytnchcndcinpalaagreatdoor", sum := "d50e7a1b351f7c429556c2c057acd2ae6103908b1060061dc8be2c5c3e450523", func := "loop.example/s0035/laws.FnExactUnnest", spec := "fnExactUnnest", unfollowed := true, recurses := true, named := ["loop.example/s0035/impl.keywords", "loop.example/s0035/impl.planFields", "loop.example/s0035/impl.takesTable", "loop.example/s0035/impl.flatKinds", "loop.example/s0035/impl.flatFields"], apart := false, laid := [("loop.example/s0035/impl.takesTable", laid_loop_example_s0035_impl_takesTable), ("loop.example/s0035/impl.keywords", laid_loop_example_s0035_impl_keywords), ("loop.example/s0035/impl.planFields", laid_loop_example_s0035_impl_planFields), ("loop.example/s0035/impl.flatFields", laid_loop_example_s0035_impl_flatFields), ("loop.example/s0035/impl.flatKinds", laid_loop_example_s0035_impl_flatKinds)] }
def FnExactUnnestSaid : Prop := fnExactUnnestRow.holds Tryz.pinned (OpenSpec.ofChange fnExactUnnestSpec)

/-- ITS FALSE NEIGHBOUR: 'it returns false'. Refute it at one input. -/
def fnExactUnnestWrong : ChangeSpec := { name := "fnExactUnnest", vars := ["loop.example/s0035/impl.keywords", "loop.example/s0035/impl.planFields", "loop.example/s0035/impl.takesTable", "loop.example/s0035/impl.flatKinds", "loop.example/s0035/impl.flatFields"], fn := fun _ => fun
  | [d1, d2, g1, g2, g3, g4, g5] => { results := [.lit (.bool false)], args := [d1, d2], vars := [g1, g2, g3, g4, g5] }
  | _ => none }
def FnExactUnnestWrongFalsely : Prop := fnExactUnnestRow.holds Tryz.pinned (OpenSpec.ofChange fnExactUnnestWrong)

/- THE SECOND FORM. 'bulk': how many values and letters a reading holds, each counted each time it is reached (what is shared counts as often as it is met; a slice's spare places count too). A statement '..UptoSaid' is the law's where the arguments, and the package variables that the reading takes, are together of bulk at most 1048576: NARROWER than '..Said'. Prove '..Said' where nothing that the law and all that it calls make is longer than what came in: it says more and counts as full. Else prove '..UptoSaid'. A law counts once. -/
mutual
def uptoBulk {H : Type} : DataW H → Nat
  | .lit (.string bytes) => bytes.length + 1
  | .lit _ => 1
  | .nil => 1
  | .ptr d => uptoBulk d + 1
  | .slice elems spare => uptoBulkAll elems + uptoBulkAll spare + 1
  | .agg parts => uptoBulkAll parts + 1
  | .iface _ d => uptoBulk d + 1
  | .map entries => uptoBulkEntries entries + 1
  | .held _ => 1
def uptoBulkAll {H : Type} : List (DataW H) → Nat
  | [] => 0
  | d :: r => uptoBulk d + uptoBulkAll r
def uptoBulkEntries {H : Type} : List (Lit × DataW H) → Nat
  | [] => 0
  | x :: r => uptoBulkEntry x + uptoBulkEntries r
def uptoBulkEntry {H : Type} : Lit × DataW H → Nat
  | (.string bytes, d) => bytes.length + uptoBulk d + 1
  | (_, d) => uptoBulk d + 1
 end
def uptoSmall : (H : Type) → List (DataW H) → Bool := fun _ ds => decide (uptoBulkAll ds ≤ 1048576)
def OpenSpec.upto (s : _root_.Go.ChangeSpec) : _root_.Go.OpenSpec := { _root_.Go.OpenSpec.ofChange s with cond := some uptoSmall }

/-- 'laws.FnExactSimplify', WHERE WHAT IT READS IS OF BULK AT MOST 1048576: true; the input reads as it did. -/
def fnExactSimplifyUptoRow : OpenClaim := { program := "ytnchcndcinpalaagreatdoor", sum := "d50e7a1b351f7c429556c2c057acd2ae6103908b1060061dc8be2c5c3e450523", func := "loop.example/s0035/laws.FnExactSimplify", spec := "fnExactSimplify", unfollowed := true, recurses := true, named := ["loop.example/s0035/impl.keywords", "loop.example/s0035/impl.flatFields", "loop.example/s0035/impl.takesTable"], apart := false, laid := [("loop.example/s0035/impl.takesTable", laid_loop_example_s0035_impl_takesTable), ("loop.example/s0035/impl.keywords", laid_loop_example_s0035_impl_keywords), ("loop.example/s0035/impl.flatFields", laid_loop_example_s0035_impl_flatFields)], narrowed := true }
def FnExactSimplifyUptoSaid : Prop := fnExactSimplifyUptoRow.holds Tryz.pinned (OpenSpec.upto fnExactSimplifySpec)

/-- 'laws.FnExactUnnest', WHERE WHAT IT READS IS OF BULK AT MOST 1048576: true; the input reads as it did. -/
def fnExactUnnestUptoRow : OpenClaim := { program := "ytnchcndcinpalaagreatdoor", sum := "d50e7a1b351f7c429556c2c057acd2ae6103908b1060061dc8be2c5c3e450523", func := "loop.example/s0035/laws.FnExactUnnest", spec := "fnExactUnnest", unfollowed := true, recurses := true, named := ["loop.example/s0035/impl.keywords", "loop.example/s0035/impl.planFields", "loop.example/s0035/impl.takesTable", "loop.example/s0035/impl.flatKinds", "loop.example/s0035/impl.flatFields"], apart := false, laid := [("loop.example/s0035/impl.takesTable", laid_loop_example_s0035_impl_takesTable), ("loop.example/s0035/impl.keywords", laid_loop_example_s0035_impl_keywords), ("loop.example/s0035/impl.planFields", laid_loop_example_s0035_impl_planFields), ("loop.example/s0035/impl.flatFields", laid_loop_example_s0035_impl_flatFields), ("loop.example/s0035/impl.flatKinds", laid_loop_example_s0035_impl_flatKinds)], narrowed := true }
def FnExactUnnestUptoSaid : Prop := fnExactUnnestUptoRow.holds Tryz.pinned (OpenSpec.upto fnExactUnnestSpec)

end Rows
end Go.Proofs.YtnchcndcinpalaaGreatDoor
