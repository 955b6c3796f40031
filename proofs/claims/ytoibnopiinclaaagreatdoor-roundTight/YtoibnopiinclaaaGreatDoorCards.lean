/-
  DERIVED. GIVEN WITH THE SEED: THE CARDS: each row of YtoibnopiinclaaaGreatDoorRows.lean that lists a variable, with what it lists TIED to the program's text (the seventh form; the later family's looks); each row that meets fmt, with fmt's text TOLD by the authors' own Lean function (tested against real Go, not proved from fmt's source: count such statements apart). THE CARD IS WHAT COUNTS. Prove the row's statement (the work); the ties are given (YtoibnopiinclaaaGreatDoorTie.lean); close each card by the builder's one call (the guide's Derived/Test/ToyasCard.lean, 'card_holds'). Laid BY PROGRAM, IN A SANDBOX (cutbox-door.mjs). By AI agents, Wed Nov 11 2026. No macro, syntax, notation, axiom, sorry.
-/
import Derived.Test.YtoibnopiinclaaaGreatDoorRows
import GoSem.ClaimSeven
namespace Go.Proofs.YtoibnopiinclaaaGreatDoor
namespace Rows

/-- THE TIED CARD OF 'vergelaw3.RoundTight'. -/
def roundTightCard : Claim7 := { stood := { row := roundTightRow, standIns := [], harness := (true, "77b329becd5c95bf0b7390bacbec03febbbc1397f2df8bfa1af22f22a37927aa"), looks := false }, kinds := [], alts := [], laidByText := true, laidKinds := [.data, .data], laidTests := true, laidLooks := .later }
def RoundTightCardSaid : Prop := Claim7.holds Tryz.pinned (.plain (OpenSpec.ofChange roundTightSpec)) roundTightCard

/-- THE SECOND FORM's CARD OF 'vergelaw3.RoundTight'. -/
def roundTightUptoCard : Claim7 := { stood := { row := roundTightUptoRow, standIns := [], harness := (true, "77b329becd5c95bf0b7390bacbec03febbbc1397f2df8bfa1af22f22a37927aa"), looks := false }, kinds := [], alts := [], laidByText := true, laidKinds := [.data, .data], laidTests := true, laidLooks := .later }
def RoundTightUptoCardSaid : Prop := Claim7.holds Tryz.pinned (.plain (OpenSpec.upto roundTightSpec)) roundTightUptoCard
end Rows
end Go.Proofs.YtoibnopiinclaaaGreatDoor
