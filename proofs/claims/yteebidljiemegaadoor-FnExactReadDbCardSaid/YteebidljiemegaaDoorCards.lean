/-
  DERIVED. GIVEN WITH THE SEED: THE CARDS: each row of YteebidljiemegaaDoorRows.lean that lists a variable, with what it lists TIED to the program's text (the seventh form; the later family's looks); each row that meets fmt, with fmt's text TOLD by the authors' own Lean function (tested against real Go, not proved from fmt's source: count such statements apart). THE CARD IS WHAT COUNTS. Prove the row's statement (the work); the ties are given (YteebidljiemegaaDoorTie.lean); close each card by the builder's one call (the guide's Derived/Test/ToyasCard.lean, 'card_holds'). Laid BY PROGRAM, IN A SANDBOX (cutbox-door.mjs). By AI agents, Wed Nov 11 2026. No macro, syntax, notation, axiom, sorry.
-/
import Derived.Test.YteebidljiemegaaDoorRows
import GoSem.ClaimSeven
namespace Go.Proofs.YteebidljiemegaaDoor
namespace Rows

/-- THE TIED CARD OF 'laws.FnExactReadDb'. -/
def fnExactReadDbCard : Claim7 := { stood := { row := fnExactReadDbRow, standIns := [], harness := (true, "586abf6727f4d47f88b8c411d2dac16cb1cf9ae28875483e86628073974a3756"), looks := true }, kinds := [], alts := [], laidByText := true, laidKinds := [.data, .data, .data, .data, .sentinel, .sentinel, .data, .pinned], laidTests := true, laidLooks := .later }
def FnExactReadDbCardSaid : Prop := Claim7.holds Tryd.pinned (.plain (OpenSpec.ofChange fnExactReadDbSpec)) fnExactReadDbCard

/-- THE SECOND FORM's CARD OF 'laws.FnExactReadDb'. -/
def fnExactReadDbUptoCard : Claim7 := { stood := { row := fnExactReadDbUptoRow, standIns := [], harness := (true, "586abf6727f4d47f88b8c411d2dac16cb1cf9ae28875483e86628073974a3756"), looks := true }, kinds := [], alts := [], laidByText := true, laidKinds := [.data, .data, .data, .data, .sentinel, .sentinel, .data, .pinned], laidTests := true, laidLooks := .later }
def FnExactReadDbUptoCardSaid : Prop := Claim7.holds Tryd.pinned (.plain (OpenSpec.upto fnExactReadDbSpec)) fnExactReadDbUptoCard
end Rows
end Go.Proofs.YteebidljiemegaaDoor
