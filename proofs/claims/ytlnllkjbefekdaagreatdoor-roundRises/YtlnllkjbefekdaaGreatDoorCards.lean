/-
  DERIVED. GIVEN WITH THE SEED: THE CARDS: each row of YtlnllkjbefekdaaGreatDoorRows.lean that lists a variable, with what it lists TIED to the program's text (the seventh form; the later family's looks); each row that meets fmt, with fmt's text TOLD by the authors' own Lean function (tested against real Go, not proved from fmt's source: count such statements apart). THE CARD IS WHAT COUNTS. Prove the row's statement (the work); the ties are given (YtlnllkjbefekdaaGreatDoorTie.lean); close each card by the builder's one call (the guide's Derived/Test/ToyasCard.lean, 'card_holds'). Laid BY PROGRAM, IN A SANDBOX (cutbox-door.mjs). By AI agents, Wed Nov 11 2026. No macro, syntax, notation, axiom, sorry.
-/
import Derived.Test.YtlnllkjbefekdaaGreatDoorRows
import GoSem.ClaimSeven
namespace Go.Proofs.YtlnllkjbefekdaaGreatDoor
namespace Rows

/-- THE TIED CARD OF 'vergelaw3.RoundRises'. -/
def roundRisesCard : Claim7 := { stood := { row := roundRisesRow, standIns := [], harness := (true, "624ad0a4aff579a23137eb6fb70b3ef2d653387bea41ab25612c96ec0e6960b5"), looks := false }, kinds := [], alts := [], laidByText := true, laidKinds := [.data, .data], laidTests := true, laidLooks := .later }
def RoundRisesCardSaid : Prop := Claim7.holds Tryz.pinned (.plain (OpenSpec.ofChange roundRisesSpec)) roundRisesCard

/-- THE SECOND FORM's CARD OF 'vergelaw3.RoundRises'. -/
def roundRisesUptoCard : Claim7 := { stood := { row := roundRisesUptoRow, standIns := [], harness := (true, "624ad0a4aff579a23137eb6fb70b3ef2d653387bea41ab25612c96ec0e6960b5"), looks := false }, kinds := [], alts := [], laidByText := true, laidKinds := [.data, .data], laidTests := true, laidLooks := .later }
def RoundRisesUptoCardSaid : Prop := Claim7.holds Tryz.pinned (.plain (OpenSpec.upto roundRisesSpec)) roundRisesUptoCard
end Rows
end Go.Proofs.YtlnllkjbefekdaaGreatDoor
