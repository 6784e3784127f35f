/-
  NARROWER THAN 'FOR EVERY INPUT', by the rows' own cells (each row's printed sentence says how): FnLogic: laid · FnExactNot3: laid · FnExactAnd3: laid.
  DERIVED. THE GIVEN ROWS OF THIS SEAT. 3 by the template 'for every input the law returns true; each argument reads behind the call as it read before'; 0 by the template 'total and deterministic' (their statements: YtafmlbojmmdcdaaDoorTotals.lean).
  GIVEN WITH THE SEED: the statements are not yours to turn. If you find one false, say at which input.
  Laid BY PROGRAM, IN A SANDBOX (cutbox-rows.mjs): the forced cells as the released guide's own fill.sh prints them over the translation f46606d6b6a6abd0… (all of the seat's roots in one cut). By AI agents, Wed Nov 11 2026. No macro, syntax, notation, axiom, sorry.
-/
import Derived.Test.YtafmlbojmmdcdaaDoorChecked
import GoSem.Claim
import GoSem.ClaimJoined
import GoSem.ClaimMapViews
import Derived.JoinedTies
import Derived.KernelRfl
namespace Go.Proofs.YtafmlbojmmdcdaaDoor
/- THE CELL 'sum', in the pinned program and in every row, IS THE sha256 OF THE DUMP (.gsa) THAT YtafmlbojmmdcdaaDoorProg.lean LOADS. Nothing in Lean hashes anything: it is a label: what it is worth is what the hold of that sum in a sandbox is worth. -/
noncomputable def Tryd.pinned : Pinned := { name := "ytafmlbojmmdcdaadoor", sum := "f46606d6b6a6abd05e9dad37005208f8000c060adb843ff0ad7ca237d0789ffe", checked := Tryd.checked }
namespace Rows
def none {H : Type} : Left H := { results := [], args := [] }

/- WHAT THE LISTED PACKAGE-LEVEL VARIABLES READ AS WHEN THE CALL BEGINS. Each datum BY PROGRAM (the guide's laid-datum.mjs) off the statement by which the dump's own 'gosem.cut.vars' lays the variable. In a bare row this is a premise. The card (YtafmlbojmmdcdaaDoorCards.lean) ties it to the program's text. -/
def laid_loop_example_s0035_impl_notTable {H : Type} : DataW H := .agg [.lit (.int .i64 2), .lit (.int .i64 1), .lit (.int .i64 0)]
def laid_loop_example_s0035_impl_andTable {H : Type} : DataW H := .agg [.agg [.lit (.int .i64 0), .lit (.int .i64 0), .lit (.int .i64 0)], .agg [.lit (.int .i64 0), .lit (.int .i64 1), .lit (.int .i64 1)], .agg [.lit (.int .i64 0), .lit (.int .i64 1), .lit (.int .i64 2)]]
def laid_loop_example_s0035_impl_orTable {H : Type} : DataW H := .agg [.agg [.lit (.int .i64 0), .lit (.int .i64 1), .lit (.int .i64 2)], .agg [.lit (.int .i64 1), .lit (.int .i64 1), .lit (.int .i64 2)], .agg [.lit (.int .i64 2), .lit (.int .i64 2), .lit (.int .i64 2)]]
def laid_loop_example_s0035_impl_cmpTable {H : Type} : DataW H := .agg [.agg [.lit (.int .i64 0), .lit (.int .i64 0), .lit (.int .i64 0)], .agg [.lit (.int .i64 0), .lit (.int .i64 2), .lit (.int .i64 0)], .agg [.lit (.int .i64 2), .lit (.int .i64 0), .lit (.int .i64 2)], .agg [.lit (.int .i64 2), .lit (.int .i64 0), .lit (.int .i64 0)], .agg [.lit (.int .i64 2), .lit (.int .i64 2), .lit (.int .i64 0)], .agg [.lit (.int .i64 0), .lit (.int .i64 0), .lit (.int .i64 2)], .agg [.lit (.int .i64 0), .lit (.int .i64 2), .lit (.int .i64 2)]]
def laid_loop_example_s0035_impl_valTable {H : Type} : DataW H := .agg [.agg [.lit (.bool false), .lit (.int .i64 0)], .agg [.lit (.bool true), .lit (.int .i64 0)], .agg [.lit (.bool false), .lit (.int .i64 1)]]
def laid_loop_example_s0035_impl_takesTable {H : Type} : DataW H := .agg [.lit (.int .i64 0), .lit (.int .i64 0), .lit (.int .i64 0), .lit (.int .i64 0), .lit (.int .i64 2), .lit (.int .i64 2), .lit (.int .i64 2), .lit (.int .i64 1), .lit (.int .i64 1)]

/-- 'laws.FnLogic': WHATEVER THE INPUT: true; the input reads as it did. -/
def fnLogicSpec : ChangeSpec := { name := "fnLogic", vars := ["loop.example/s0035/impl.andTable", "loop.example/s0035/impl.valTable", "loop.example/s0035/impl.notTable", "loop.example/s0035/impl.orTable", "loop.example/s0035/impl.cmpTable", "loop.example/s0035/impl.takesTable"], fn := fun _ => fun
  | [d1, d2, g1, g2, g3, g4, g5, g6] => { results := [.lit (.bool true)], args := [d1, d2], vars := [g1, g2, g3, g4, g5, g6] }
  | _ => none }
def fnLogicRow : OpenClaim := { program := "ytafmlbojmmdcdaadoor", sum := "f46606d6b6a6abd05e9dad37005208f8000c060adb843ff0ad7ca237d0789ffe", func := "loop.example/s0035/laws.FnLogic", spec := "fnLogic", recurses := true, named := ["loop.example/s0035/impl.andTable", "loop.example/s0035/impl.valTable", "loop.example/s0035/impl.notTable", "loop.example/s0035/impl.orTable", "loop.example/s0035/impl.cmpTable", "loop.example/s0035/impl.takesTable"], apart := false, laid := [("loop.example/s0035/impl.notTable", laid_loop_example_s0035_impl_notTable), ("loop.example/s0035/impl.andTable", laid_loop_example_s0035_impl_andTable), ("loop.example/s0035/impl.orTable", laid_loop_example_s0035_impl_orTable), ("loop.example/s0035/impl.cmpTable", laid_loop_example_s0035_impl_cmpTable), ("loop.example/s0035/impl.valTable", laid_loop_example_s0035_impl_valTable), ("loop.example/s0035/impl.takesTable", laid_loop_example_s0035_impl_takesTable)] }
def FnLogicSaid : Prop := fnLogicRow.holds Tryd.pinned (OpenSpec.ofChange fnLogicSpec)

/-- ITS FALSE NEIGHBOUR: 'it returns false'. Refute it at one input. -/
def fnLogicWrong : ChangeSpec := { name := "fnLogic", vars := ["loop.example/s0035/impl.andTable", "loop.example/s0035/impl.valTable", "loop.example/s0035/impl.notTable", "loop.example/s0035/impl.orTable", "loop.example/s0035/impl.cmpTable", "loop.example/s0035/impl.takesTable"], fn := fun _ => fun
  | [d1, d2, g1, g2, g3, g4, g5, g6] => { results := [.lit (.bool false)], args := [d1, d2], vars := [g1, g2, g3, g4, g5, g6] }
  | _ => none }
def FnLogicWrongFalsely : Prop := fnLogicRow.holds Tryd.pinned (OpenSpec.ofChange fnLogicWrong)

/-- 'laws.FnExactNot3': WHATEVER THE INPUT: true; the input reads as it did. -/
def fnExactNot3Spec : ChangeSpec := { name := "fnExactNot3", vars := ["loop.example/s0035/impl.notTable", "loop.example/s0035/impl.valTable"], fn := fun _ => fun
  | [d, g1, g2] => { results := [.lit (.bool true)], args := [d], vars := [g1, g2] }
  | _ => none }
def fnExactNot3Row : OpenClaim := { program := "ytafmlbojmmdcdaadoor", sum := "f46606d6b6a6abd05e9dad37005208f8000c060adb843ff0ad7ca237d0789ffe", func := "loop.example/s0035/laws.FnExactNot3", spec := "fnExactNot3", named := ["loop.example/s0035/impl.notTable", "loop.example/s0035/impl.valTable"], apart := false, laid := [("loop.example/s0035/impl.notTable", laid_loop_example_s0035_impl_notTable), ("loop.example/s0035/impl.valTable", laid_loop_example_s0035_impl_valTable)] }
def FnExactNot3Said : Prop := fnExactNot3Row.holds Tryd.pinned (OpenSpec.ofChange fnExactNot3Spec)

/-- ITS FALSE NEIGHBOUR: 'it returns false'. Refute it at one input. -/
def fnExactNot3Wrong : ChangeSpec := { name := "fnExactNot3", vars := ["loop.example/s0035/impl.notTable", "loop.example/s0035/impl.valTable"], fn := fun _ => fun
  | [d, g1, g2] => { results := [.lit (.bool false)], args := [d], vars := [g1, g2] }
  | _ => none }
def FnExactNot3WrongFalsely : Prop := fnExactNot3Row.holds Tryd.pinned (OpenSpec.ofChange fnExactNot3Wrong)

/-- 'laws.FnExactAnd3': WHATEVER THE INPUT: true; the input reads as it did. -/
def fnExactAnd3Spec : ChangeSpec := { name := "fnExactAnd3", vars := ["loop.example/s0035/impl.andTable", "loop.example/s0035/impl.valTable"], fn := fun _ => fun
  | [d1, d2, g1, g2] => { results := [.lit (.bool true)], args := [d1, d2], vars := [g1, g2] }
  | _ => none }
def fnExactAnd3Row : OpenClaim := { program := "ytafmlbojmmdcdaadoor", sum := "f46606d6b6a6abd05e9dad37005208f8000c060adb843ff0ad7ca237d0789ffe", func := "loop.example/s0035/laws.FnExactAnd3", spec := "fnExactAnd3", named := ["loop.example/s0035/impl.andTable", "loop.example/s0035/impl.valTable"], apart := false, laid := [("loop.example/s0035/impl.andTable", laid_loop_example_s0035_impl_andTable), ("loop.example/s0035/impl.valTable", laid_loop_example_s0035_impl_valTable)] }
def FnExactAnd3Said : Prop := fnExactAnd3Row.holds Tryd.pinned (OpenSpec.ofChange fnExactAnd3Spec)

/-- ITS FALSE NEIGHBOUR: 'it returns false'. Refute it at one input. -/
def fnExactAnd3Wrong : ChangeSpec := { name := "fnExactAnd3", vars := ["loop.example/s0035/impl.andTable", "loop.example/s0035/impl.valTable"], fn := fun _ => fun
  | [d1, d2, g1, g2] => { results := [.lit (.bool false)], args := [d1, d2], vars := [g1, g2] }
  | _ => none }
def FnExactAnd3WrongFalsely : Prop := fnExactAnd3Row.holds Tryd.pinned (OpenSpec.ofChange fnExactAnd3Wrong)

/- THE SECOND FORM. 'bulk': how many values and letters a reading holds, each counted each time it is reached (what is shared counts as often as it is met; a slice's spare places count too). A statement '..UptoSaid' is the law's where the arguments, and the package variables that the reading takes, are together of bulk at most 1048576: NARROWER than '..Said'. Prove '..Said' where nothing that the law and all that it calls make is longer than what came in: it says more and counts as full. Else prove '..UptoSaid'. A law counts once. -/
mutual
def uptoBulk {H : Type} : DataW H → Nat
  | .lit (.string bytes) => bytes.length + 1
  | .lit _ => 1
  | .nil => 1
  | .ptr d => uptoBulk d + 1
  | .slice elems spare => uptoBulkAll elems + uptoBulkAll spare + 1
  | .agg parts => uptoBulkAll parts + 1
  | .iface _ d => uptoBulk d + 1
  | .map entries => uptoBulkEntries entries + 1
  | .held _ => 1
def uptoBulkAll {H : Type} : List (DataW H) → Nat
  | [] => 0
  | d :: r => uptoBulk d + uptoBulkAll r
def uptoBulkEntries {H : Type} : List (Lit × DataW H) → Nat
  | [] => 0
  | x :: r => uptoBulkEntry x + uptoBulkEntries r
def uptoBulkEntry {H : Type} : Lit × DataW H → Nat
  | (.string bytes, d) => bytes.length + uptoBulk d + 1
  | (_, d) => uptoBulk d + 1
 end
def uptoSmall : (H : Type) → List (DataW H) → Bool := fun _ ds => decide (uptoBulkAll ds ≤ 1048576)
def OpenSpec.upto (s : _root_.Go.ChangeSpec) : _root_.Go.OpenSpec := { _root_.Go.OpenSpec.ofChange s with cond := some uptoSmall }

/-- 'laws.FnLogic', WHERE WHAT IT READS IS OF BULK AT MOST 1048576: true; the input reads as it did. -/
def fnLogicUptoRow : OpenClaim := { program := "ytafmlbojmmdcdaadoor", sum := "f46606d6b6a6abd05e9dad37005208f8000c060adb843ff0ad7ca237d0789ffe", func := "loop.example/s0035/laws.FnLogic", spec := "fnLogic", recurses := true, named := ["loop.example/s0035/impl.andTable", "loop.example/s0035/impl.valTable", "loop.example/s0035/impl.notTable", "loop.example/s0035/impl.orTable", "loop.example/s0035/impl.cmpTable", "loop.example/s0035/impl.takesTable"], apart := false, laid := [("loop.example/s0035/impl.notTable", laid_loop_example_s0035_impl_notTable), ("loop.example/s0035/impl.andTable", laid_loop_example_s0035_impl_andTable), ("loop.example/s0035/impl.orTable", laid_loop_example_s0035_impl_orTable), ("loop.example/s0035/impl.cmpTable", laid_loop_example_s0035_impl_cmpTable), ("loop.example/s0035/impl.valTable", laid_loop_example_s0035_impl_valTable), ("loop.example/s0035/impl.takesTable", laid_loop_example_s0035_impl_takesTable)], narrowed := true }
def FnLogicUptoSaid : Prop := fnLogicUptoRow.holds Tryd.pinned (OpenSpec.upto fnLogicSpec)

/-- 'laws.FnExactNot3', WHERE WHAT IT READS IS OF BULK AT MOST 1048576: true; the input reads as it did. -/
def fnExactNot3UptoRow : OpenClaim := { program := "ytafmlbojmmdcdaadoor", sum := "f46606d6b6a6abd05e9dad37005208f8000c060adb843ff0ad7ca237d0789ffe", func := "loop.example/s0035/laws.FnExactNot3", spec := "fnExactNot3", named := ["loop.example/s0035/impl.notTable", "loop.example/s0035/impl.valTable"], apart := false, laid := [("loop.example/s0035/impl.notTable", laid_loop_example_s0035_impl_notTable), ("loop.example/s0035/impl.valTable", laid_loop_example_s0035_impl_valTable)], narrowed := true }
def FnExactNot3UptoSaid : Prop := fnExactNot3UptoRow.holds Tryd.pinned (OpenSpec.upto fnExactNot3Spec)

/-- 'laws.FnExactAnd3', WHERE WHAT IT READS IS OF BULK AT MOST 1048576: true; the input reads as it did. -/
def fnExactAnd3UptoRow : OpenClaim := { program := "ytafmlbojmmdcdaadoor", sum := "f46606d6b6a6abd05e9dad37005208f8000c060adb843ff0ad7ca237d0789ffe", func := "loop.example/s0035/laws.FnExactAnd3", spec := "fnExactAnd3", named := ["loop.example/s0035/impl.andTable", "loop.example/s0035/impl.valTable"], apart := false, laid := [("loop.example/s0035/impl.andTable", laid_loop_example_s0035_impl_andTable), ("loop.example/s0035/impl.valTable", laid_loop_example_s0035_impl_valTable)], narrowed := true }
def FnExactAnd3UptoSaid : Prop := fnExactAnd3UptoRow.holds Tryd.pinned (OpenSpec.upto fnExactAnd3Spec)

end Rows
end Go.Proofs.YtafmlbojmmdcdaaDoor
