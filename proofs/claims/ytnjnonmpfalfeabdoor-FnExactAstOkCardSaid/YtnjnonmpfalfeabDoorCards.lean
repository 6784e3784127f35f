/-
  DERIVED. GIVEN WITH THE SEED: THE CARDS: each row of YtnjnonmpfalfeabDoorRows.lean that lists a variable, with what it lists TIED to the program's text (the seventh form; the later family's looks); each row that meets fmt, with fmt's text TOLD by the authors' own Lean function (tested against real Go, not proved from fmt's source: count such statements apart). THE CARD IS WHAT COUNTS. Prove the row's statement (the work); the ties are given (YtnjnonmpfalfeabDoorTie.lean); close each card by the builder's one call (the guide's Derived/Test/ToyasCard.lean, 'card_holds'). Laid BY PROGRAM, IN A SANDBOX (cutbox-door.mjs). By AI agents, Wed Nov 11 2026. No macro, syntax, notation, axiom, sorry.
-/
import Derived.Test.YtnjnonmpfalfeabDoorRows
import GoSem.ClaimSeven
namespace Go.Proofs.YtnjnonmpfalfeabDoor
namespace Rows

/-- THE TIED CARD OF 'laws.FnExactOr3'. -/
def fnExactOr3Card : Claim7 := { stood := { row := fnExactOr3Row, standIns := [], harness := (true, "dde8542ad3e9d7560aff033192ab0384b145444967433394b090d946a840a622"), looks := false }, kinds := [], alts := [], laidByText := true, laidKinds := [.data, .data], laidTests := true, laidLooks := .later }
def FnExactOr3CardSaid : Prop := Claim7.holds Tryd.pinned (.plain (OpenSpec.ofChange fnExactOr3Spec)) fnExactOr3Card

/-- THE TIED CARD OF 'laws.FnExactCmp3'. -/
def fnExactCmp3Card : Claim7 := { stood := { row := fnExactCmp3Row, standIns := [], harness := (true, "dde8542ad3e9d7560aff033192ab0384b145444967433394b090d946a840a622"), looks := false }, kinds := [], alts := [], laidByText := true, laidKinds := [.data, .data], laidTests := true, laidLooks := .later }
def FnExactCmp3CardSaid : Prop := Claim7.holds Tryd.pinned (.plain (OpenSpec.ofChange fnExactCmp3Spec)) fnExactCmp3Card

/-- THE TIED CARD OF 'laws.FnExactExOk'. -/
def fnExactExOkCard : Claim7 := { stood := { row := fnExactExOkRow, standIns := [], harness := (true, "dde8542ad3e9d7560aff033192ab0384b145444967433394b090d946a840a622"), looks := false }, kinds := [], alts := [], laidByText := true, laidKinds := [.data], laidTests := true, laidLooks := .later }
def FnExactExOkCardSaid : Prop := Claim7.holds Tryd.pinned (.plain (OpenSpec.ofChange fnExactExOkSpec)) fnExactExOkCard

/-- THE TIED CARD OF 'laws.FnExactEvalEx'. -/
def fnExactEvalExCard : Claim7 := { stood := { row := fnExactEvalExRow, standIns := [], harness := (true, "dde8542ad3e9d7560aff033192ab0384b145444967433394b090d946a840a622"), looks := false }, kinds := [], alts := [], laidByText := true, laidKinds := [.data, .data, .data, .data, .data, .data], laidTests := true, laidLooks := .later }
def FnExactEvalExCardSaid : Prop := Claim7.holds Tryd.pinned (.plain (OpenSpec.ofChange fnExactEvalExSpec)) fnExactEvalExCard

/-- THE TIED CARD OF 'laws.FnExactAstOk'. -/
def fnExactAstOkCard : Claim7 := { stood := { row := fnExactAstOkRow, standIns := [], harness := (true, "dde8542ad3e9d7560aff033192ab0384b145444967433394b090d946a840a622"), looks := false }, kinds := [], alts := [], laidByText := true, laidKinds := [.data, .data], laidTests := true, laidLooks := .later }
def FnExactAstOkCardSaid : Prop := Claim7.holds Tryd.pinned (.plain (OpenSpec.ofChange fnExactAstOkSpec)) fnExactAstOkCard

/-- THE SECOND FORM's CARD OF 'laws.FnExactOr3'. -/
def fnExactOr3UptoCard : Claim7 := { stood := { row := fnExactOr3UptoRow, standIns := [], harness := (true, "dde8542ad3e9d7560aff033192ab0384b145444967433394b090d946a840a622"), looks := false }, kinds := [], alts := [], laidByText := true, laidKinds := [.data, .data], laidTests := true, laidLooks := .later }
def FnExactOr3UptoCardSaid : Prop := Claim7.holds Tryd.pinned (.plain (OpenSpec.upto fnExactOr3Spec)) fnExactOr3UptoCard

/-- THE SECOND FORM's CARD OF 'laws.FnExactCmp3'. -/
def fnExactCmp3UptoCard : Claim7 := { stood := { row := fnExactCmp3UptoRow, standIns := [], harness := (true, "dde8542ad3e9d7560aff033192ab0384b145444967433394b090d946a840a622"), looks := false }, kinds := [], alts := [], laidByText := true, laidKinds := [.data, .data], laidTests := true, laidLooks := .later }
def FnExactCmp3UptoCardSaid : Prop := Claim7.holds Tryd.pinned (.plain (OpenSpec.upto fnExactCmp3Spec)) fnExactCmp3UptoCard

/-- THE SECOND FORM's CARD OF 'laws.FnExactExOk'. -/
def fnExactExOkUptoCard : Claim7 := { stood := { row := fnExactExOkUptoRow, standIns := [], harness := (true, "dde8542ad3e9d7560aff033192ab0384b145444967433394b090d946a840a622"), looks := false }, kinds := [], alts := [], laidByText := true, laidKinds := [.data], laidTests := true, laidLooks := .later }
def FnExactExOkUptoCardSaid : Prop := Claim7.holds Tryd.pinned (.plain (OpenSpec.upto fnExactExOkSpec)) fnExactExOkUptoCard

/-- THE SECOND FORM's CARD OF 'laws.FnExactEvalEx'. -/
def fnExactEvalExUptoCard : Claim7 := { stood := { row := fnExactEvalExUptoRow, standIns := [], harness := (true, "dde8542ad3e9d7560aff033192ab0384b145444967433394b090d946a840a622"), looks := false }, kinds := [], alts := [], laidByText := true, laidKinds := [.data, .data, .data, .data, .data, .data], laidTests := true, laidLooks := .later }
def FnExactEvalExUptoCardSaid : Prop := Claim7.holds Tryd.pinned (.plain (OpenSpec.upto fnExactEvalExSpec)) fnExactEvalExUptoCard

/-- THE SECOND FORM's CARD OF 'laws.FnExactAstOk'. -/
def fnExactAstOkUptoCard : Claim7 := { stood := { row := fnExactAstOkUptoRow, standIns := [], harness := (true, "dde8542ad3e9d7560aff033192ab0384b145444967433394b090d946a840a622"), looks := false }, kinds := [], alts := [], laidByText := true, laidKinds := [.data, .data], laidTests := true, laidLooks := .later }
def FnExactAstOkUptoCardSaid : Prop := Claim7.holds Tryd.pinned (.plain (OpenSpec.upto fnExactAstOkSpec)) fnExactAstOkUptoCard
end Rows
end Go.Proofs.YtnjnonmpfalfeabDoor
