/-
  DERIVED. GIVEN WITH THE SEED: THE CARDS: each row of YtkdeilhkobcglaaDoorRows.lean that lists a variable, with what it lists TIED to the program's text (the seventh form; the later family's looks); each row that meets fmt, with fmt's text TOLD by the authors' own Lean function (tested against real Go, not proved from fmt's source: count such statements apart). THE CARD IS WHAT COUNTS. Prove the row's statement (the work); the ties are given (YtkdeilhkobcglaaDoorTie.lean); close each card by the builder's one call (the guide's Derived/Test/ToyasCard.lean, 'card_holds'). Laid BY PROGRAM, IN A SANDBOX (cutbox-door.mjs). By AI agents, Wed Nov 11 2026. No macro, syntax, notation, axiom, sorry.
-/
import Derived.Test.YtkdeilhkobcglaaDoorRows
import GoSem.ClaimSeven
namespace Go.Proofs.YtkdeilhkobcglaaDoor
namespace Rows

/-- THE TIED CARD OF 'laws.FnExactPlanOk'. -/
def fnExactPlanOkCard : Claim7 := { stood := { row := fnExactPlanOkRow, standIns := [], harness := (true, "e7ab37d28a310dec91362a5c5093a2a91d201cda6e2fd1f5b9ecc96e6bebcea0"), looks := false }, kinds := [], alts := [], laidByText := true, laidKinds := [.data, .data, .wider], laidTests := true, laidLooks := .later }
def FnExactPlanOkCardSaid : Prop := Claim7.holds Tryd.pinned (.plain (OpenSpec.ofChange fnExactPlanOkSpec)) fnExactPlanOkCard

/-- THE TIED CARD OF 'laws.FnExactPlanWork'. -/
def fnExactPlanWorkCard : Claim7 := { stood := { row := fnExactPlanWorkRow, standIns := [], harness := (true, "e7ab37d28a310dec91362a5c5093a2a91d201cda6e2fd1f5b9ecc96e6bebcea0"), looks := false }, kinds := [], alts := [], laidByText := true, laidKinds := [.data, .data, .wider], laidTests := true, laidLooks := .later }
def FnExactPlanWorkCardSaid : Prop := Claim7.holds Tryd.pinned (.plain (OpenSpec.ofChange fnExactPlanWorkSpec)) fnExactPlanWorkCard

/-- THE TIED CARD OF 'laws.FnExactFlatOk'. -/
def fnExactFlatOkCard : Claim7 := { stood := { row := fnExactFlatOkRow, standIns := [], harness := (true, "e7ab37d28a310dec91362a5c5093a2a91d201cda6e2fd1f5b9ecc96e6bebcea0"), looks := false }, kinds := [], alts := [], laidByText := true, laidKinds := [.data, .data, .wider], laidTests := true, laidLooks := .later }
def FnExactFlatOkCardSaid : Prop := Claim7.holds Tryd.pinned (.plain (OpenSpec.ofChange fnExactFlatOkSpec)) fnExactFlatOkCard

/-- THE SECOND FORM's CARD OF 'laws.FnExactPlanOk'. -/
def fnExactPlanOkUptoCard : Claim7 := { stood := { row := fnExactPlanOkUptoRow, standIns := [], harness := (true, "e7ab37d28a310dec91362a5c5093a2a91d201cda6e2fd1f5b9ecc96e6bebcea0"), looks := false }, kinds := [], alts := [], laidByText := true, laidKinds := [.data, .data, .wider], laidTests := true, laidLooks := .later }
def FnExactPlanOkUptoCardSaid : Prop := Claim7.holds Tryd.pinned (.plain (OpenSpec.upto fnExactPlanOkSpec)) fnExactPlanOkUptoCard

/-- THE SECOND FORM's CARD OF 'laws.FnExactPlanWork'. -/
def fnExactPlanWorkUptoCard : Claim7 := { stood := { row := fnExactPlanWorkUptoRow, standIns := [], harness := (true, "e7ab37d28a310dec91362a5c5093a2a91d201cda6e2fd1f5b9ecc96e6bebcea0"), looks := false }, kinds := [], alts := [], laidByText := true, laidKinds := [.data, .data, .wider], laidTests := true, laidLooks := .later }
def FnExactPlanWorkUptoCardSaid : Prop := Claim7.holds Tryd.pinned (.plain (OpenSpec.upto fnExactPlanWorkSpec)) fnExactPlanWorkUptoCard

/-- THE SECOND FORM's CARD OF 'laws.FnExactFlatOk'. -/
def fnExactFlatOkUptoCard : Claim7 := { stood := { row := fnExactFlatOkUptoRow, standIns := [], harness := (true, "e7ab37d28a310dec91362a5c5093a2a91d201cda6e2fd1f5b9ecc96e6bebcea0"), looks := false }, kinds := [], alts := [], laidByText := true, laidKinds := [.data, .data, .wider], laidTests := true, laidLooks := .later }
def FnExactFlatOkUptoCardSaid : Prop := Claim7.holds Tryd.pinned (.plain (OpenSpec.upto fnExactFlatOkSpec)) fnExactFlatOkUptoCard
end Rows
end Go.Proofs.YtkdeilhkobcglaaDoor
