/-
  DERIVED. GIVEN WITH THE SEED: THE CARDS: each row of YtafmlbojmmdcdaaDoorRows.lean that lists a variable, with what it lists TIED to the program's text (the seventh form; the later family's looks); each row that meets fmt, with fmt's text TOLD by the authors' own Lean function (tested against real Go, not proved from fmt's source: count such statements apart). THE CARD IS WHAT COUNTS. Prove the row's statement (the work); the ties are given (YtafmlbojmmdcdaaDoorTie.lean); close each card by the builder's one call (the guide's Derived/Test/ToyasCard.lean, 'card_holds'). Laid BY PROGRAM, IN A SANDBOX (cutbox-door.mjs). By AI agents, Wed Nov 11 2026. No macro, syntax, notation, axiom, sorry.
-/
import Derived.Test.YtafmlbojmmdcdaaDoorRows
import GoSem.ClaimSeven
namespace Go.Proofs.YtafmlbojmmdcdaaDoor
namespace Rows

/-- THE TIED CARD OF 'laws.FnLogic'. -/
def fnLogicCard : Claim7 := { stood := { row := fnLogicRow, standIns := [], harness := (true, "a005ecff7c78566a73f4e52232a4ad64709656027dc3e83e8d988ac74879aa33"), looks := false }, kinds := [], alts := [], laidByText := true, laidKinds := [.data, .data, .data, .data, .data, .data], laidTests := true, laidLooks := .later }
def FnLogicCardSaid : Prop := Claim7.holds Tryd.pinned (.plain (OpenSpec.ofChange fnLogicSpec)) fnLogicCard

/-- THE TIED CARD OF 'laws.FnExactNot3'. -/
def fnExactNot3Card : Claim7 := { stood := { row := fnExactNot3Row, standIns := [], harness := (true, "a005ecff7c78566a73f4e52232a4ad64709656027dc3e83e8d988ac74879aa33"), looks := false }, kinds := [], alts := [], laidByText := true, laidKinds := [.data, .data], laidTests := true, laidLooks := .later }
def FnExactNot3CardSaid : Prop := Claim7.holds Tryd.pinned (.plain (OpenSpec.ofChange fnExactNot3Spec)) fnExactNot3Card

/-- THE TIED CARD OF 'laws.FnExactAnd3'. -/
def fnExactAnd3Card : Claim7 := { stood := { row := fnExactAnd3Row, standIns := [], harness := (true, "a005ecff7c78566a73f4e52232a4ad64709656027dc3e83e8d988ac74879aa33"), looks := false }, kinds := [], alts := [], laidByText := true, laidKinds := [.data, .data], laidTests := true, laidLooks := .later }
def FnExactAnd3CardSaid : Prop := Claim7.holds Tryd.pinned (.plain (OpenSpec.ofChange fnExactAnd3Spec)) fnExactAnd3Card

/-- THE SECOND FORM's CARD OF 'laws.FnLogic'. -/
def fnLogicUptoCard : Claim7 := { stood := { row := fnLogicUptoRow, standIns := [], harness := (true, "a005ecff7c78566a73f4e52232a4ad64709656027dc3e83e8d988ac74879aa33"), looks := false }, kinds := [], alts := [], laidByText := true, laidKinds := [.data, .data, .data, .data, .data, .data], laidTests := true, laidLooks := .later }
def FnLogicUptoCardSaid : Prop := Claim7.holds Tryd.pinned (.plain (OpenSpec.upto fnLogicSpec)) fnLogicUptoCard

/-- THE SECOND FORM's CARD OF 'laws.FnExactNot3'. -/
def fnExactNot3UptoCard : Claim7 := { stood := { row := fnExactNot3UptoRow, standIns := [], harness := (true, "a005ecff7c78566a73f4e52232a4ad64709656027dc3e83e8d988ac74879aa33"), looks := false }, kinds := [], alts := [], laidByText := true, laidKinds := [.data, .data], laidTests := true, laidLooks := .later }
def FnExactNot3UptoCardSaid : Prop := Claim7.holds Tryd.pinned (.plain (OpenSpec.upto fnExactNot3Spec)) fnExactNot3UptoCard

/-- THE SECOND FORM's CARD OF 'laws.FnExactAnd3'. -/
def fnExactAnd3UptoCard : Claim7 := { stood := { row := fnExactAnd3UptoRow, standIns := [], harness := (true, "a005ecff7c78566a73f4e52232a4ad64709656027dc3e83e8d988ac74879aa33"), looks := false }, kinds := [], alts := [], laidByText := true, laidKinds := [.data, .data], laidTests := true, laidLooks := .later }
def FnExactAnd3UptoCardSaid : Prop := Claim7.holds Tryd.pinned (.plain (OpenSpec.upto fnExactAnd3Spec)) fnExactAnd3UptoCard
end Rows
end Go.Proofs.YtafmlbojmmdcdaaDoor
