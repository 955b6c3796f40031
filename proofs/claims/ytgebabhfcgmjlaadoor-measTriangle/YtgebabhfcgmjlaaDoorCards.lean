/-
  DERIVED. GIVEN WITH THE SEED: THE CARDS: each row of YtgebabhfcgmjlaaDoorRows.lean that lists a variable, with what it lists TIED to the program's text (the seventh form; the later family's looks); each row that meets fmt, with fmt's text TOLD by the authors' own Lean function (tested against real Go, not proved from fmt's source: count such statements apart). THE CARD IS WHAT COUNTS. Prove the row's statement (the work); the ties are given (YtgebabhfcgmjlaaDoorTie.lean); close each card by the builder's one call (the guide's Derived/Test/ToyasCard.lean, 'card_holds'). Laid BY PROGRAM, IN A SANDBOX (cutbox-door.mjs). By AI agents, Wed Nov 11 2026. No macro, syntax, notation, axiom, sorry.
-/
import Derived.Test.YtgebabhfcgmjlaaDoorRows
import GoSem.ClaimSeven
namespace Go.Proofs.YtgebabhfcgmjlaaDoor
namespace Rows

/-- THE TIED CARD OF 'vergelaw8.MeasTriangle'. -/
def measTriangleCard : Claim7 := { stood := { row := measTriangleRow, standIns := [], harness := (true, "cf381735f77f6ac17b6e6176f917acd5923e8074481f2b1b49baa5d7ec757d8f"), looks := false }, kinds := [], alts := [], laidByText := true, laidKinds := [.data, .data], laidTests := true, laidLooks := .later }
def MeasTriangleCardSaid : Prop := Claim7.holds Tryd.pinned (.plain (OpenSpec.ofChange measTriangleSpec)) measTriangleCard

/-- THE SECOND FORM's CARD OF 'vergelaw8.MeasTriangle'. -/
def measTriangleUptoCard : Claim7 := { stood := { row := measTriangleUptoRow, standIns := [], harness := (true, "cf381735f77f6ac17b6e6176f917acd5923e8074481f2b1b49baa5d7ec757d8f"), looks := false }, kinds := [], alts := [], laidByText := true, laidKinds := [.data, .data], laidTests := true, laidLooks := .later }
def MeasTriangleUptoCardSaid : Prop := Claim7.holds Tryd.pinned (.plain (OpenSpec.upto measTriangleSpec)) measTriangleUptoCard
end Rows
end Go.Proofs.YtgebabhfcgmjlaaDoor
