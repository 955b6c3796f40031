/-
  DERIVED. GIVEN WITH THE SEED: THE CARDS: each row of YtfhcmabejagknaaGreatDoorRows.lean that lists a variable, with what it lists TIED to the program's text (the seventh form; the later family's looks); each row that meets fmt, with fmt's text TOLD by the authors' own Lean function (tested against real Go, not proved from fmt's source: count such statements apart). THE CARD IS WHAT COUNTS. Prove the row's statement (the work); the ties are given (YtfhcmabejagknaaGreatDoorTie.lean); close each card by the builder's one call (the guide's Derived/Test/ToyasCard.lean, 'card_holds'). Laid BY PROGRAM, IN A SANDBOX (cutbox-door.mjs). By AI agents, Wed Nov 11 2026. No macro, syntax, notation, axiom, sorry.
-/
import Derived.Test.YtfhcmabejagknaaGreatDoorRows
import GoSem.ClaimSeven
namespace Go.Proofs.YtfhcmabejagknaaGreatDoor
namespace Rows

/-- THE TIED CARD OF 'vergelaw4.TotalPlays'. -/
def totalPlaysCard : Claim7 := { stood := { row := totalPlaysRow, standIns := [], harness := (true, "0863019b083cba9d00222895b2e6c90befc037a6cf08dfd7cff688f4debf58b0"), looks := false }, kinds := [], alts := [], laidByText := true, laidKinds := [.data, .data], laidTests := true, laidLooks := .later }
def TotalPlaysCardSaid : Prop := Claim7.holds Tryz.pinned (.plain (OpenSpec.ofChange totalPlaysSpec)) totalPlaysCard

/-- THE SECOND FORM's CARD OF 'vergelaw4.TotalPlays'. -/
def totalPlaysUptoCard : Claim7 := { stood := { row := totalPlaysUptoRow, standIns := [], harness := (true, "0863019b083cba9d00222895b2e6c90befc037a6cf08dfd7cff688f4debf58b0"), looks := false }, kinds := [], alts := [], laidByText := true, laidKinds := [.data, .data], laidTests := true, laidLooks := .later }
def TotalPlaysUptoCardSaid : Prop := Claim7.holds Tryz.pinned (.plain (OpenSpec.upto totalPlaysSpec)) totalPlaysUptoCard
end Rows
end Go.Proofs.YtfhcmabejagknaaGreatDoor
