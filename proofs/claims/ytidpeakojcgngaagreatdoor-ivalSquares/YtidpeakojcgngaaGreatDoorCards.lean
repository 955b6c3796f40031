/-
  DERIVED. GIVEN WITH THE SEED: THE CARDS: each row of YtidpeakojcgngaaGreatDoorRows.lean that lists a variable, with what it lists TIED to the program's text (the seventh form; the later family's looks); each row that meets fmt, with fmt's text TOLD by the authors' own Lean function (tested against real Go, not proved from fmt's source: count such statements apart). THE CARD IS WHAT COUNTS. Prove the row's statement (the work); the ties are given (YtidpeakojcgngaaGreatDoorTie.lean); close each card by the builder's one call (the guide's Derived/Test/ToyasCard.lean, 'card_holds'). Laid BY PROGRAM, IN A SANDBOX (cutbox-door.mjs). By AI agents, Wed Nov 11 2026. No macro, syntax, notation, axiom, sorry.
-/
import Derived.Test.YtidpeakojcgngaaGreatDoorRows
import GoSem.ClaimSeven
namespace Go.Proofs.YtidpeakojcgngaaGreatDoor
namespace Rows

/-- THE TIED CARD OF 'vergelaw6.IvalSquares'. -/
def ivalSquaresCard : Claim7 := { stood := { row := ivalSquaresRow, standIns := [], harness := (true, "3b3dccd6099a8ce46b1b6990478fb5f20270c907ed72bac3423bc1024bdf9af5"), looks := false }, kinds := [], alts := [], laidByText := true, laidKinds := [.data, .data], laidTests := true, laidLooks := .later }
def IvalSquaresCardSaid : Prop := Claim7.holds Tryz.pinned (.plain (OpenSpec.ofChange ivalSquaresSpec)) ivalSquaresCard

/-- THE SECOND FORM's CARD OF 'vergelaw6.IvalSquares'. -/
def ivalSquaresUptoCard : Claim7 := { stood := { row := ivalSquaresUptoRow, standIns := [], harness := (true, "3b3dccd6099a8ce46b1b6990478fb5f20270c907ed72bac3423bc1024bdf9af5"), looks := false }, kinds := [], alts := [], laidByText := true, laidKinds := [.data, .data], laidTests := true, laidLooks := .later }
def IvalSquaresUptoCardSaid : Prop := Claim7.holds Tryz.pinned (.plain (OpenSpec.upto ivalSquaresSpec)) ivalSquaresUptoCard
end Rows
end Go.Proofs.YtidpeakojcgngaaGreatDoor
