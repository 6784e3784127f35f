/-
  DERIVED. GIVEN WITH THE SEED: THE CARDS: each row of YtnchcndcinpalaaGreatDoorRows.lean that lists a variable, with what it lists TIED to the program's text (the seventh form; the later family's looks); each row that meets fmt, with fmt's text TOLD by the authors' own Lean function (tested against real Go, not proved from fmt's source: count such statements apart). THE CARD IS WHAT COUNTS. Prove the row's statement (the work); the ties are given (YtnchcndcinpalaaGreatDoorTie.lean); close each card by the builder's one call (the guide's Derived/Test/ToyasCard.lean, 'card_holds'). Laid BY PROGRAM, IN A SANDBOX (cutbox-door.mjs). By AI agents, Wed Nov 11 2026. No macro, syntax, notation, axiom, sorry.
-/
import Derived.Test.YtnchcndcinpalaaGreatDoorRows
import GoSem.ClaimSeven
namespace Go.Proofs.YtnchcndcinpalaaGreatDoor
namespace Rows

/-- THE TIED CARD OF 'laws.FnExactSimplify'. -/
def fnExactSimplifyCard : Claim7 := { stood := { row := fnExactSimplifyRow, standIns := [], harness := (true, "590d605b5e6f930a0e394df44b55b9f9c7c78cd73ae1038588304871c6d67fd6"), looks := false }, kinds := [], alts := [], laidByText := true, laidKinds := [.data, .data, .wider], laidTests := true, laidLooks := .later }
def FnExactSimplifyCardSaid : Prop := Claim7.holds Tryz.pinned (.plain (OpenSpec.ofChange fnExactSimplifySpec)) fnExactSimplifyCard

/-- THE TIED CARD OF 'laws.FnExactUnnest'. -/
def fnExactUnnestCard : Claim7 := { stood := { row := fnExactUnnestRow, standIns := [], harness := (true, "590d605b5e6f930a0e394df44b55b9f9c7c78cd73ae1038588304871c6d67fd6"), looks := false }, kinds := [], alts := [], laidByText := true, laidKinds := [.data, .data, .wider, .wider, .data], laidTests := true, laidLooks := .later }
def FnExactUnnestCardSaid : Prop := Claim7.holds Tryz.pinned (.plain (OpenSpec.ofChange fnExactUnnestSpec)) fnExactUnnestCard

/-- THE SECOND FORM's CARD OF 'laws.FnExactSimplify'. -/
def fnExactSimplifyUptoCard : Claim7 := { stood := { row := fnExactSimplifyUptoRow, standIns := [], harness := (true, "590d605b5e6f930a0e394df44b55b9f9c7c78cd73ae1038588304871c6d67fd6"), looks := false }, kinds := [], alts := [], laidByText := true, laidKinds := [.data, .data, .wider], laidTests := true, laidLooks := .later }
def FnExactSimplifyUptoCardSaid : Prop := Claim7.holds Tryz.pinned (.plain (OpenSpec.upto fnExactSimplifySpec)) fnExactSimplifyUptoCard

/-- THE SECOND FORM's CARD OF 'laws.FnExactUnnest'. -/
def fnExactUnnestUptoCard : Claim7 := { stood := { row := fnExactUnnestUptoRow, standIns := [], harness := (true, "590d605b5e6f930a0e394df44b55b9f9c7c78cd73ae1038588304871c6d67fd6"), looks := false }, kinds := [], alts := [], laidByText := true, laidKinds := [.data, .data, .wider, .wider, .data], laidTests := true, laidLooks := .later }
def FnExactUnnestUptoCardSaid : Prop := Claim7.holds Tryz.pinned (.plain (OpenSpec.upto fnExactUnnestSpec)) fnExactUnnestUptoCard
end Rows
end Go.Proofs.YtnchcndcinpalaaGreatDoor
