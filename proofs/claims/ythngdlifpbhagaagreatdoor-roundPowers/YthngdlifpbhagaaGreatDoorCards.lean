/-
  DERIVED. GIVEN WITH THE SEED: THE CARDS: each row of YthngdlifpbhagaaGreatDoorRows.lean that lists a variable, with what it lists TIED to the program's text (the seventh form; the later family's looks); each row that meets fmt, with fmt's text TOLD by the authors' own Lean function (tested against real Go, not proved from fmt's source: count such statements apart). THE CARD IS WHAT COUNTS. Prove the row's statement (the work); the ties are given (YthngdlifpbhagaaGreatDoorTie.lean); close each card by the builder's one call (the guide's Derived/Test/ToyasCard.lean, 'card_holds'). Laid BY PROGRAM, IN A SANDBOX (cutbox-door.mjs). By AI agents, Wed Nov 11 2026. No macro, syntax, notation, axiom, sorry.
-/
import Derived.Test.YthngdlifpbhagaaGreatDoorRows
import GoSem.ClaimSeven
namespace Go.Proofs.YthngdlifpbhagaaGreatDoor
namespace Rows

/-- THE TIED CARD OF 'vergelaw3.RoundFused'. -/
def roundFusedCard : Claim7 := { stood := { row := roundFusedRow, standIns := [], harness := (true, "881c9b693c16affca2b8e1fadd6e12c0cd2398a05c0b5f5e98a375d5e079ab9f"), looks := false }, kinds := [], alts := [], laidByText := true, laidKinds := [.data, .data], laidTests := true, laidLooks := .later }
def RoundFusedCardSaid : Prop := Claim7.holds Tryz.pinned (.plain (OpenSpec.ofChange roundFusedSpec)) roundFusedCard

/-- THE TIED CARD OF 'vergelaw3.RoundPowers'. -/
def roundPowersCard : Claim7 := { stood := { row := roundPowersRow, standIns := [], harness := (true, "881c9b693c16affca2b8e1fadd6e12c0cd2398a05c0b5f5e98a375d5e079ab9f"), looks := false }, kinds := [], alts := [], laidByText := true, laidKinds := [.data, .data], laidTests := true, laidLooks := .later }
def RoundPowersCardSaid : Prop := Claim7.holds Tryz.pinned (.plain (OpenSpec.ofChange roundPowersSpec)) roundPowersCard

/-- THE SECOND FORM's CARD OF 'vergelaw3.RoundFused'. -/
def roundFusedUptoCard : Claim7 := { stood := { row := roundFusedUptoRow, standIns := [], harness := (true, "881c9b693c16affca2b8e1fadd6e12c0cd2398a05c0b5f5e98a375d5e079ab9f"), looks := false }, kinds := [], alts := [], laidByText := true, laidKinds := [.data, .data], laidTests := true, laidLooks := .later }
def RoundFusedUptoCardSaid : Prop := Claim7.holds Tryz.pinned (.plain (OpenSpec.upto roundFusedSpec)) roundFusedUptoCard

/-- THE SECOND FORM's CARD OF 'vergelaw3.RoundPowers'. -/
def roundPowersUptoCard : Claim7 := { stood := { row := roundPowersUptoRow, standIns := [], harness := (true, "881c9b693c16affca2b8e1fadd6e12c0cd2398a05c0b5f5e98a375d5e079ab9f"), looks := false }, kinds := [], alts := [], laidByText := true, laidKinds := [.data, .data], laidTests := true, laidLooks := .later }
def RoundPowersUptoCardSaid : Prop := Claim7.holds Tryz.pinned (.plain (OpenSpec.upto roundPowersSpec)) roundPowersUptoCard
end Rows
end Go.Proofs.YthngdlifpbhagaaGreatDoor
