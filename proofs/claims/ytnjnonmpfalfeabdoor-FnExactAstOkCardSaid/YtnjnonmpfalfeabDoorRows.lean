/-
  NARROWER THAN 'FOR EVERY INPUT', by the rows' own cells (each row's printed sentence says how): FnExactOr3: laid · FnExactCmp3: laid · FnExactExOk: laid · FnExactEvalEx: laid · FnExactAstOk: laid.
  DERIVED. THE GIVEN ROWS OF THIS SEAT. 5 by the template 'for every input the law returns true; each argument reads behind the call as it read before'; 0 by the template 'total and deterministic' (their statements: YtnjnonmpfalfeabDoorTotals.lean).
  GIVEN WITH THE SEED: the statements are not yours to turn. If you find one false, say at which input.
  Laid BY PROGRAM, IN A SANDBOX (cutbox-rows.mjs): the forced cells as the released guide's own fill.sh prints them over the translation c6e0f0d26e40827a… (all of the seat's roots in one cut). By AI agents, Wed Nov 11 2026. No macro, syntax, notation, axiom, sorry.
-/
import Derived.Test.YtnjnonmpfalfeabDoorChecked
import GoSem.Claim
import GoSem.ClaimJoined
import GoSem.ClaimMapViews
import Derived.JoinedTies
import Derived.KernelRfl
namespace Go.Proofs.YtnjnonmpfalfeabDoor
/- THE CELL 'sum', in the pinned program and in every row, IS THE sha256 OF THE DUMP (.gsa) THAT YtnjnonmpfalfeabDoorProg.lean LOADS. Nothing in Lean hashes anything: it is a label: what it is worth is what the hold of that sum in a sandbox is worth. -/
noncomputable def Tryd.pinned : Pinned := { name := "ytnjnonmpfalfeabdoor", sum := "c6e0f0d26e40827aad8bdbfa7e273443936a59738138dcc481f137cdcc982587", checked := Tryd.checked }
namespace Rows
def none {H : Type} : Left H := { results := [], args := [] }

/- WHAT THE LISTED PACKAGE-LEVEL VARIABLES READ AS WHEN THE CALL BEGINS. Each datum BY PROGRAM (the guide's laid-datum.mjs) off the statement by which the dump's own 'gosem.cut.vars' lays the variable. In a bare row this is a premise. The card (YtnjnonmpfalfeabDoorCards.lean) ties it to the program's text. -/
def laid_loop_example_s0035_impl_orTable {H : Type} : DataW H := .agg [.agg [.lit (.int .i64 0), .lit (.int .i64 1), .lit (.int .i64 2)], .agg [.lit (.int .i64 1), .lit (.int .i64 1), .lit (.int .i64 2)], .agg [.lit (.int .i64 2), .lit (.int .i64 2), .lit (.int .i64 2)]]
def laid_loop_example_s0035_impl_valTable {H : Type} : DataW H := .agg [.agg [.lit (.bool false), .lit (.int .i64 0)], .agg [.lit (.bool true), .lit (.int .i64 0)], .agg [.lit (.bool false), .lit (.int .i64 1)]]
def laid_loop_example_s0035_impl_cmpTable {H : Type} : DataW H := .agg [.agg [.lit (.int .i64 0), .lit (.int .i64 0), .lit (.int .i64 0)], .agg [.lit (.int .i64 0), .lit (.int .i64 2), .lit (.int .i64 0)], .agg [.lit (.int .i64 2), .lit (.int .i64 0), .lit (.int .i64 2)], .agg [.lit (.int .i64 2), .lit (.int .i64 0), .lit (.int .i64 0)], .agg [.lit (.int .i64 2), .lit (.int .i64 2), .lit (.int .i64 0)], .agg [.lit (.int .i64 0), .lit (.int .i64 0), .lit (.int .i64 2)], .agg [.lit (.int .i64 0), .lit (.int .i64 2), .lit (.int .i64 2)]]
def laid_loop_example_s0035_impl_takesTable {H : Type} : DataW H := .agg [.lit (.int .i64 0), .lit (.int .i64 0), .lit (.int .i64 0), .lit (.int .i64 0), .lit (.int .i64 2), .lit (.int .i64 2), .lit (.int .i64 2), .lit (.int .i64 1), .lit (.int .i64 1)]
def laid_loop_example_s0035_impl_notTable {H : Type} : DataW H := .agg [.lit (.int .i64 2), .lit (.int .i64 1), .lit (.int .i64 0)]
def laid_loop_example_s0035_impl_andTable {H : Type} : DataW H := .agg [.agg [.lit (.int .i64 0), .lit (.int .i64 0), .lit (.int .i64 0)], .agg [.lit (.int .i64 0), .lit (.int .i64 1), .lit (.int .i64 1)], .agg [.lit (.int .i64 0), .lit (.int .i64 1), .lit (.int .i64 2)]]
def laid_loop_example_s0035_impl_keywords {H : Type} : DataW H := .agg [.lit (.string [83, 69, 76, 69, 67, 84]), .lit (.string [68, 73, 83, 84, 73, 78, 67, 84]), .lit (.string [70, 82, 79, 77]), .lit (.string [87, 72, 69, 82, 69]), .lit (.string [85, 78, 73, 79, 78]), .lit (.string [65, 76, 76]), .lit (.string [65, 78, 89]), .lit (.string [65, 78, 68]), .lit (.string [79, 82]), .lit (.string [78, 79, 84]), .lit (.string [69, 88, 73, 83, 84, 83]), .lit (.string [73, 78]), .lit (.string [73, 83]), .lit (.string [78, 85, 76, 76]), .lit (.string [67, 79, 85, 78, 84]), .lit (.string [77, 73, 78]), .lit (.string [77, 65, 88])]
def laid_loop_example_s0035_impl_fieldRules {H : Type} : DataW H := .agg [.agg [.lit (.int .i64 0), .lit (.int .i64 0), .lit (.int .i64 0), .lit (.int .i64 0), .lit (.bool false), .lit (.bool false)], .agg [.lit (.int .i64 (-999999999999999999)), .lit (.int .i64 999999999999999999), .lit (.int .i64 0), .lit (.int .i64 0), .lit (.bool false), .lit (.bool false)], .agg [.lit (.int .i64 0), .lit (.int .i64 0), .lit (.int .i64 0), .lit (.int .i64 0), .lit (.bool false), .lit (.bool false)], .agg [.lit (.int .i64 0), .lit (.int .i64 999999999999999999), .lit (.int .i64 0), .lit (.int .i64 0), .lit (.bool true), .lit (.bool false)], .agg [.lit (.int .i64 0), .lit (.int .i64 1), .lit (.int .i64 1), .lit (.int .i64 4), .lit (.bool false), .lit (.bool false)], .agg [.lit (.int .i64 0), .lit (.int .i64 0), .lit (.int .i64 0), .lit (.int .i64 0), .lit (.bool true), .lit (.bool true)], .agg [.lit (.int .i64 1), .lit (.int .i64 10000), .lit (.int .i64 0), .lit (.int .i64 1), .lit (.bool false), .lit (.bool false)], .agg [.lit (.int .i64 0), .lit (.int .i64 0), .lit (.int .i64 0), .lit (.int .i64 0), .lit (.bool false), .lit (.bool false)], .agg [.lit (.int .i64 0), .lit (.int .i64 0), .lit (.int .i64 1), .lit (.int .i64 6), .lit (.bool false), .lit (.bool false)], .agg [.lit (.int .i64 0), .lit (.int .i64 0), .lit (.int .i64 0), .lit (.int .i64 1), .lit (.bool false), .lit (.bool false)], .agg [.lit (.int .i64 0), .lit (.int .i64 0), .lit (.int .i64 0), .lit (.int .i64 0), .lit (.bool false), .lit (.bool false)], .agg [.lit (.int .i64 0), .lit (.int .i64 0), .lit (.int .i64 0), .lit (.int .i64 1), .lit (.bool false), .lit (.bool false)], .agg [.lit (.int .i64 1), .lit (.int .i64 2), .lit (.int .i64 1), .lit (.int .i64 6), .lit (.bool false), .lit (.bool false)], .agg [.lit (.int .i64 0), .lit (.int .i64 0), .lit (.int .i64 0), .lit (.int .i64 0), .lit (.bool false), .lit (.bool false)], .agg [.lit (.int .i64 0), .lit (.int .i64 0), .lit (.int .i64 0), .lit (.int .i64 0), .lit (.bool false), .lit (.bool false)], .agg [.lit (.int .i64 0), .lit (.int .i64 0), .lit (.int .i64 0), .lit (.int .i64 0), .lit (.bool false), .lit (.bool false)]]

/-- 'laws.FnExactOr3': WHATEVER THE INPUT: true; the input reads as it did. -/
def fnExactOr3Spec : ChangeSpec := { name := "fnExactOr3", vars := ["loop.example/s0035/impl.orTable", "loop.example/s0035/impl.valTable"], fn := fun _ => fun
  | [d1, d2, g1, g2] => { results := [.lit (.bool true)], args := [d1, d2], vars := [g1, g2] }
  | _ => none }
def fnExactOr3Row : OpenClaim := { program := "ytnjnonmpfalfeabdoor", sum := "c6e0f0d26e40827aad8bdbfa7e273443936a59738138dcc481f137cdcc982587", func := "loop.example/s0035/laws.FnExactOr3", spec := "fnExactOr3", named := ["loop.example/s0035/impl.orTable", "loop.example/s0035/impl.valTable"], apart := false, laid := [("loop.example/s0035/impl.orTable", laid_loop_example_s0035_impl_orTable), ("loop.example/s0035/impl.valTable", laid_loop_example_s0035_impl_valTable)] }
def FnExactOr3Said : Prop := fnExactOr3Row.holds Tryd.pinned (OpenSpec.ofChange fnExactOr3Spec)

/-- ITS FALSE NEIGHBOUR: 'it returns false'. Refute it at one input. -/
def fnExactOr3Wrong : ChangeSpec := { name := "fnExactOr3", vars := ["loop.example/s0035/impl.orTable", "loop.example/s0035/impl.valTable"], fn := fun _ => fun
  | [d1, d2, g1, g2] => { results := [.lit (.bool false)], args := [d1, d2], vars := [g1, g2] }
  | _ => none }
def FnExactOr3WrongFalsely : Prop := fnExactOr3Row.holds Tryd.pinned (OpenSpec.ofChange fnExactOr3Wrong)

/-- 'laws.FnExactCmp3': WHATEVER THE INPUT: true; the input reads as it did. -/
def fnExactCmp3Spec : ChangeSpec := { name := "fnExactCmp3", vars := ["loop.example/s0035/impl.valTable", "loop.example/s0035/impl.cmpTable"], fn := fun _ => fun
  | [d1, d2, d3, g1, g2] => { results := [.lit (.bool true)], args := [d1, d2, d3], vars := [g1, g2] }
  | _ => none }
def fnExactCmp3Row : OpenClaim := { program := "ytnjnonmpfalfeabdoor", sum := "c6e0f0d26e40827aad8bdbfa7e273443936a59738138dcc481f137cdcc982587", func := "loop.example/s0035/laws.FnExactCmp3", spec := "fnExactCmp3", named := ["loop.example/s0035/impl.valTable", "loop.example/s0035/impl.cmpTable"], apart := false, laid := [("loop.example/s0035/impl.cmpTable", laid_loop_example_s0035_impl_cmpTable), ("loop.example/s0035/impl.valTable", laid_loop_example_s0035_impl_valTable)] }
def FnExactCmp3Said : Prop := fnExactCmp3Row.holds Tryd.pinned (OpenSpec.ofChange fnExactCmp3Spec)

/-- ITS FALSE NEIGHBOUR: 'it returns false'. Refute it at one input. -/
def fnExactCmp3Wrong : ChangeSpec := { name := "fnExactCmp3", vars := ["loop.example/s0035/impl.valTable", "loop.example/s0035/impl.cmpTable"], fn := fun _ => fun
  | [d1, d2, d3, g1, g2] => { results := [.lit (.bool false)], args := [d1, d2, d3], vars := [g1, g2] }
  | _ => none }
def FnExactCmp3WrongFalsely : Prop := fnExactCmp3Row.holds Tryd.pinned (OpenSpec.ofChange fnExactCmp3Wrong)

/-- 'laws.FnExactExOk': WHATEVER THE INPUT: true; the input reads as it did. -/
def fnExactExOkSpec : ChangeSpec := { name := "fnExactExOk", vars := ["loop.example/s0035/impl.takesTable"], fn := fun _ => fun
  | [d1, d2, g1] => { results := [.lit (.bool true)], args := [d1, d2], vars := [g1] }
  | _ => none }
def fnExactExOkRow : OpenClaim := { program := "ytnjnonmpfalfeabdoor", sum := "c6e0f0d26e40827aad8bdbfa7e273443936a59738138dcc481f137cdcc982587", func := "loop.example/s0035/laws.FnExactExOk", spec := "fnExactExOk", named := ["loop.example/s0035/impl.takesTable"], apart := false, laid := [("loop.example/s0035/impl.takesTable", laid_loop_example_s0035_impl_takesTable)] }
def FnExactExOkSaid : Prop := fnExactExOkRow.holds Tryd.pinned (OpenSpec.ofChange fnExactExOkSpec)

/-- ITS FALSE NEIGHBOUR: 'it returns false'. Refute it at one input. -/
def fnExactExOkWrong : ChangeSpec := { name := "fnExactExOk", vars := ["loop.example/s0035/impl.takesTable"], fn := fun _ => fun
  | [d1, d2, g1] => { results := [.lit (.bool false)], args := [d1, d2], vars := [g1] }
  | _ => none }
def FnExactExOkWrongFalsely : Prop := fnExactExOkRow.holds Tryd.pinned (OpenSpec.ofChange fnExactExOkWrong)

/-- 'laws.FnExactEvalEx': WHATEVER THE INPUT: true; the input reads as it did. -/
def fnExactEvalExSpec : ChangeSpec := { name := "fnExactEvalEx", vars := ["loop.example/s0035/impl.takesTable", "loop.example/s0035/impl.valTable", "loop.example/s0035/impl.cmpTable", "loop.example/s0035/impl.andTable", "loop.example/s0035/impl.orTable", "loop.example/s0035/impl.notTable"], fn := fun _ => fun
  | [d1, d2, g1, g2, g3, g4, g5, g6] => { results := [.lit (.bool true)], args := [d1, d2], vars := [g1, g2, g3, g4, g5, g6] }
  | _ => none }
def fnExactEvalExRow : OpenClaim := { program := "ytnjnonmpfalfeabdoor", sum := "c6e0f0d26e40827aad8bdbfa7e273443936a59738138dcc481f137cdcc982587", func := "loop.example/s0035/laws.FnExactEvalEx", spec := "fnExactEvalEx", recurses := true, named := ["loop.example/s0035/impl.takesTable", "loop.example/s0035/impl.valTable", "loop.example/s0035/impl.cmpTable", "loop.example/s0035/impl.andTable", "loop.example/s0035/impl.orTable", "loop.example/s0035/impl.notTable"], apart := false, laid := [("loop.example/s0035/impl.notTable", laid_loop_example_s0035_impl_notTable), ("loop.example/s0035/impl.andTable", laid_loop_example_s0035_impl_andTable), ("loop.example/s0035/impl.orTable", laid_loop_example_s0035_impl_orTable), ("loop.example/s0035/impl.cmpTable", laid_loop_example_s0035_impl_cmpTable), ("loop.example/s0035/impl.valTable", laid_loop_example_s0035_impl_valTable), ("loop.example/s0035/impl.takesTable", laid_loop_example_s0035_impl_takesTable)] }
def FnExactEvalExSaid : Prop := fnExactEvalExRow.holds Tryd.pinned (OpenSpec.ofChange fnExactEvalExSpec)

/-- ITS FALSE NEIGHBOUR: 'it returns false'. Refute it at one input. -/
def fnExactEvalExWrong : ChangeSpec := { name := "fnExactEvalEx", vars := ["loop.example/s0035/impl.takesTable", "loop.example/s0035/impl.valTable", "loop.example/s0035/impl.cmpTable", "loop.example/s0035/impl.andTable", "loop.example/s0035/impl.orTable", "loop.example/s0035/impl.notTable"], fn := fun _ => fun
  | [d1, d2, g1, g2, g3, g4, g5, g6] => { results := [.lit (.bool false)], args := [d1, d2], vars := [g1, g2, g3, g4, g5, g6] }
  | _ => none }
def FnExactEvalExWrongFalsely : Prop := fnExactEvalExRow.holds Tryd.pinned (OpenSpec.ofChange fnExactEvalExWrong)

/-- 'laws.FnExactAstOk': WHATEVER THE INPUT: true; the input reads as it did. -/
def fnExactAstOkSpec : ChangeSpec := { name := "fnExactAstOk", vars := ["loop.example/s0035/impl.fieldRules", "loop.example/s0035/impl.keywords"], fn := fun _ => fun
  | [d, g1, g2] => { results := [.lit (.bool true)], args := [d], vars := [g1, g2] }
  | _ => none }
def fnExactAstOkRow : OpenClaim := { program := "ytnjnonmpfalfeabdoor", sum := "c6e0f0d26e40827aad8bdbfa7e273443936a59738138dcc481f137cdcc982587", func := "loop.example/s0035/laws.FnExactAstOk", spec := "fnExactAstOk", unfollowed := true, recurses := true, named := ["loop.example/s0035/impl.fieldRules", "loop.example/s0035/impl.keywords"], apart := false, laid := [("loop.example/s0035/impl.keywords", laid_loop_example_s0035_impl_keywords), ("loop.example/s0035/impl.fieldRules", laid_loop_example_s0035_impl_fieldRules)] }
def FnExactAstOkSaid : Prop := fnExactAstOkRow.holds Tryd.pinned (OpenSpec.ofChange fnExactAstOkSpec)

/-- ITS FALSE NEIGHBOUR: 'it returns false'. Refute it at one input. -/
def fnExactAstOkWrong : ChangeSpec := { name := "fnExactAstOk", vars := ["loop.example/s0035/impl.fieldRules", "loop.example/s0035/impl.keywords"], fn := fun _ => fun
  | [d, g1, g2] => { results := [.lit (.bool false)], args := [d], vars := [g1, g2] }
  | _ => none }
def FnExactAstOkWrongFalsely : Prop := fnExactAstOkRow.holds Tryd.pinned (OpenSpec.ofChange fnExactAstOkWrong)

/- THE SECOND FORM. 'bulk': how many values and letters a reading holds, each counted each time it is reached (what is shared counts as often as it is met; a slice's spare places count too). A statement '..UptoSaid' is the law's where the arguments, and the package variables that the reading takes, are together of bulk at most 1048576: NARROWER than '..Said'. Prove '..Said' where nothing that the law and all that it calls make is longer than what came in: it says more and counts as full. Else prove '..UptoSaid'. A law counts once. -/
mutual
def uptoBulk {H : Type} : DataW H → Nat
  | .lit (.string bytes) => bytes.length + 1
  | .lit _ => 1
  | .nil => 1
  | .ptr d => uptoBulk d + 1
  | .slice elems spare => uptoBulkAll elems + uptoBulkAll spare + 1
  | .agg parts => uptoBulkAll parts + 1
  | .iface _ d => uptoBulk d + 1
  | .map entries => uptoBulkEntries entries + 1
  | .held _ => 1
def uptoBulkAll {H : Type} : List (DataW H) → Nat
  | [] => 0
  | d :: r => uptoBulk d + uptoBulkAll r
def uptoBulkEntries {H : Type} : List (Lit × DataW H) → Nat
  | [] => 0
  | x :: r => uptoBulkEntry x + uptoBulkEntries r
def uptoBulkEntry {H : Type} : Lit × DataW H → Nat
  | (.string bytes, d) => bytes.length + uptoBulk d + 1
  | (_, d) => uptoBulk d + 1
 end
def uptoSmall : (H : Type) → List (DataW H) → Bool := fun _ ds => decide (uptoBulkAll ds ≤ 1048576)
def OpenSpec.upto (s : _root_.Go.ChangeSpec) : _root_.Go.OpenSpec := { _root_.Go.OpenSpec.ofChange s with cond := some uptoSmall }

/-- 'laws.FnExactOr3', WHERE WHAT IT READS IS OF BULK AT MOST 1048576: true; the input reads as it did. -/
def fnExactOr3UptoRow : OpenClaim := { program := "ytnjnonmpfalfeabdoor", sum := "c6e0f0d26e40827aad8bdbfa7e273443936a59738138dcc481f137cdcc982587", func := "loop.example/s0035/laws.FnExactOr3", spec := "fnExactOr3", named := ["loop.example/s0035/impl.orTable", "loop.example/s0035/impl.valTable"], apart := false, laid := [("loop.example/s0035/impl.orTable", laid_loop_example_s0035_impl_orTable), ("loop.example/s0035/impl.valTable", laid_loop_example_s0035_impl_valTable)], narrowed := true }
def FnExactOr3UptoSaid : Prop := fnExactOr3UptoRow.holds Tryd.pinned (OpenSpec.upto fnExactOr3Spec)

/-- 'laws.FnExactCmp3', WHERE WHAT IT READS IS OF BULK AT MOST 1048576: true; the input reads as it did. -/
def fnExactCmp3UptoRow : OpenClaim := { program := "ytnjnonmpfalfeabdoor", sum := "c6e0f0d26e40827aad8bdbfa7e273443936a59738138dcc481f137cdcc982587", func := "loop.example/s0035/laws.FnExactCmp3", spec := "fnExactCmp3", named := ["loop.example/s0035/impl.valTable", "loop.example/s0035/impl.cmpTable"], apart := false, laid := [("loop.example/s0035/impl.cmpTable", laid_loop_example_s0035_impl_cmpTable), ("loop.example/s0035/impl.valTable", laid_loop_example_s0035_impl_valTable)], narrowed := true }
def FnExactCmp3UptoSaid : Prop := fnExactCmp3UptoRow.holds Tryd.pinned (OpenSpec.upto fnExactCmp3Spec)

/-- 'laws.FnExactExOk', WHERE WHAT IT READS IS OF BULK AT MOST 1048576: true; the input reads as it did. -/
def fnExactExOkUptoRow : OpenClaim := { program := "ytnjnonmpfalfeabdoor", sum := "c6e0f0d26e40827aad8bdbfa7e273443936a59738138dcc481f137cdcc982587", func := "loop.example/s0035/laws.FnExactExOk", spec := "fnExactExOk", named := ["loop.example/s0035/impl.takesTable"], apart := false, laid := [("loop.example/s0035/impl.takesTable", laid_loop_example_s0035_impl_takesTable)], narrowed := true }
def FnExactExOkUptoSaid : Prop := fnExactExOkUptoRow.holds Tryd.pinned (OpenSpec.upto fnExactExOkSpec)

/-- 'laws.FnExactEvalEx', WHERE WHAT IT READS IS OF BULK AT MOST 1048576: true; the input reads as it did. -/
def fnExactEvalExUptoRow : OpenClaim := { program := "ytnjnonmpfalfeabdoor", sum := "c6e0f0d26e40827aad8bdbfa7e273443936a59738138dcc481f137cdcc982587", func := "loop.example/s0035/laws.FnExactEvalEx", spec := "fnExactEvalEx", recurses := true, named := ["loop.example/s0035/impl.takesTable", "loop.example/s0035/impl.valTable", "loop.example/s0035/impl.cmpTable", "loop.example/s0035/impl.andTable", "loop.example/s0035/impl.orTable", "loop.example/s0035/impl.notTable"], apart := false, laid := [("loop.example/s0035/impl.notTable", laid_loop_example_s0035_impl_notTable), ("loop.example/s0035/impl.andTable", laid_loop_example_s0035_impl_andTable), ("loop.example/s0035/impl.orTable", laid_loop_example_s0035_impl_orTable), ("loop.example/s0035/impl.cmpTable", laid_loop_example_s0035_impl_cmpTable), ("loop.example/s0035/impl.valTable", laid_loop_example_s0035_impl_valTable), ("loop.example/s0035/impl.takesTable", laid_loop_example_s0035_impl_takesTable)], narrowed := true }
def FnExactEvalExUptoSaid : Prop := fnExactEvalExUptoRow.holds Tryd.pinned (OpenSpec.upto fnExactEvalExSpec)

/-- 'laws.FnExactAstOk', WHERE WHAT IT READS IS OF BULK AT MOST 1048576: true; the input reads as it did. -/
def fnExactAstOkUptoRow : OpenClaim := { program := "ytnjnonmpfalfeabdoor", sum := "c6e0f0d26e40827aad8bdbfa7e273443936a59738138dcc481f137cdcc982587", func := "loop.example/s0035/laws.FnExactAstOk", spec := "fnExactAstOk", unfollowed := true, recurses := true, named := ["loop.example/s0035/impl.fieldRules", "loop.example/s0035/impl.keywords"], apart := false, laid := [("loop.example/s0035/impl.keywords", laid_loop_example_s0035_impl_keywords), ("loop.example/s0035/impl.fieldRules", laid_loop_example_s0035_impl_fieldRules)], narrowed := true }
def FnExactAstOkUptoSaid : Prop := fnExactAstOkUptoRow.holds Tryd.pinned (OpenSpec.upto fnExactAstOkSpec)

end Rows
end Go.Proofs.YtnjnonmpfalfeabDoor
