/-
  DERIVED. GIVEN WITH THE SEED: THE CARDS: each row of YtahanplikbdccaaDoorRows.lean that lists a variable, with what it lists TIED to the program's text (the seventh form; the later family's looks); each row that meets fmt, with fmt's text TOLD by the authors' own Lean function (tested against real Go, not proved from fmt's source: count such statements apart). THE CARD IS WHAT COUNTS. Prove the row's statement (the work); the ties are given (YtahanplikbdccaaDoorTie.lean); close each card by the builder's one call (the guide's Derived/Test/ToyasCard.lean, 'card_holds'). Laid BY PROGRAM, IN A SANDBOX (cutbox-door.mjs). By AI agents, Wed Nov 11 2026. No macro, syntax, notation, axiom, sorry.
-/
import Derived.Test.YtahanplikbdccaaDoorRows
import GoSem.ClaimSeven
namespace Go.Proofs.YtahanplikbdccaaDoor
namespace Rows

/-- THE TIED CARD OF 'laws.FnExactDbOk'. -/
def fnExactDbOkCard : Claim7 := { stood := { row := fnExactDbOkRow, standIns := [], harness := (true, "64a163545193a2e26139f2ddcbf237cd375622dc9b09a5724c83c7fc28ced58a"), looks := false }, kinds := [], alts := [], laidByText := true, laidKinds := [.data], laidTests := true, laidLooks := .later }
def FnExactDbOkCardSaid : Prop := Claim7.holds Tryd.pinned (.plain (OpenSpec.ofChange fnExactDbOkSpec)) fnExactDbOkCard

/-- THE TIED CARD OF 'laws.FnExactPlanOk'. -/
def fnExactPlanOkCard : Claim7 := { stood := { row := fnExactPlanOkRow, standIns := [], harness := (true, "64a163545193a2e26139f2ddcbf237cd375622dc9b09a5724c83c7fc28ced58a"), looks := false }, kinds := [], alts := [], laidByText := true, laidKinds := [.data, .data, .data], laidTests := true, laidLooks := .later }
def FnExactPlanOkCardSaid : Prop := Claim7.holds Tryd.pinned (.plain (OpenSpec.ofChange fnExactPlanOkSpec)) fnExactPlanOkCard

/-- THE TIED CARD OF 'laws.FnExactPlanWork'. -/
def fnExactPlanWorkCard : Claim7 := { stood := { row := fnExactPlanWorkRow, standIns := [], harness := (true, "64a163545193a2e26139f2ddcbf237cd375622dc9b09a5724c83c7fc28ced58a"), looks := false }, kinds := [], alts := [], laidByText := true, laidKinds := [.data, .data, .data], laidTests := true, laidLooks := .later }
def FnExactPlanWorkCardSaid : Prop := Claim7.holds Tryd.pinned (.plain (OpenSpec.ofChange fnExactPlanWorkSpec)) fnExactPlanWorkCard

/-- THE SECOND FORM's CARD OF 'laws.FnExactDbOk'. -/
def fnExactDbOkUptoCard : Claim7 := { stood := { row := fnExactDbOkUptoRow, standIns := [], harness := (true, "64a163545193a2e26139f2ddcbf237cd375622dc9b09a5724c83c7fc28ced58a"), looks := false }, kinds := [], alts := [], laidByText := true, laidKinds := [.data], laidTests := true, laidLooks := .later }
def FnExactDbOkUptoCardSaid : Prop := Claim7.holds Tryd.pinned (.plain (OpenSpec.upto fnExactDbOkSpec)) fnExactDbOkUptoCard

/-- THE SECOND FORM's CARD OF 'laws.FnExactPlanOk'. -/
def fnExactPlanOkUptoCard : Claim7 := { stood := { row := fnExactPlanOkUptoRow, standIns := [], harness := (true, "64a163545193a2e26139f2ddcbf237cd375622dc9b09a5724c83c7fc28ced58a"), looks := false }, kinds := [], alts := [], laidByText := true, laidKinds := [.data, .data, .data], laidTests := true, laidLooks := .later }
def FnExactPlanOkUptoCardSaid : Prop := Claim7.holds Tryd.pinned (.plain (OpenSpec.upto fnExactPlanOkSpec)) fnExactPlanOkUptoCard

/-- THE SECOND FORM's CARD OF 'laws.FnExactPlanWork'. -/
def fnExactPlanWorkUptoCard : Claim7 := { stood := { row := fnExactPlanWorkUptoRow, standIns := [], harness := (true, "64a163545193a2e26139f2ddcbf237cd375622dc9b09a5724c83c7fc28ced58a"), looks := false }, kinds := [], alts := [], laidByText := true, laidKinds := [.data, .data, .data], laidTests := true, laidLooks := .later }
def FnExactPlanWorkUptoCardSaid : Prop := Claim7.holds Tryd.pinned (.plain (OpenSpec.upto fnExactPlanWorkSpec)) fnExactPlanWorkUptoCard
end Rows
end Go.Proofs.YtahanplikbdccaaDoor
