/-
  DERIVED. GIVEN WITH THE SEED: THE CARDS: each row of YthejhojlobhepaaDoorRows.lean that lists a variable, with what it lists TIED to the program's text (the seventh form; the later family's looks); each row that meets fmt, with fmt's text TOLD by the authors' own Lean function (tested against real Go, not proved from fmt's source: count such statements apart). THE CARD IS WHAT COUNTS. Prove the row's statement (the work); the ties are given (YthejhojlobhepaaDoorTie.lean); close each card by the builder's one call (the guide's Derived/Test/ToyasCard.lean, 'card_holds'). Laid BY PROGRAM, IN A SANDBOX (cutbox-door.mjs). By AI agents, Wed Nov 11 2026. No macro, syntax, notation, axiom, sorry.
-/
import Derived.Test.YthejhojlobhepaaDoorRows
import GoSem.ClaimSeven
namespace Go.Proofs.YthejhojlobhepaaDoor
namespace Rows

/-- THE TIED CARD OF 'vergelaw8.MeasKnown'. -/
def measKnownCard : Claim7 := { stood := { row := measKnownRow, standIns := [], harness := (true, "6fc6df7d2488ea7c9ca1e6490554355afcc11e5092c79882a364e2d319bddfda"), looks := false }, kinds := [], alts := [], laidByText := true, laidKinds := [.data, .data], laidTests := true, laidLooks := .later }
def MeasKnownCardSaid : Prop := Claim7.holds Tryd.pinned (.plain (OpenSpec.ofChange measKnownSpec)) measKnownCard

/-- THE SECOND FORM's CARD OF 'vergelaw8.MeasKnown'. -/
def measKnownUptoCard : Claim7 := { stood := { row := measKnownUptoRow, standIns := [], harness := (true, "6fc6df7d2488ea7c9ca1e6490554355afcc11e5092c79882a364e2d319bddfda"), looks := false }, kinds := [], alts := [], laidByText := true, laidKinds := [.data, .data], laidTests := true, laidLooks := .later }
def MeasKnownUptoCardSaid : Prop := Claim7.holds Tryd.pinned (.plain (OpenSpec.upto measKnownSpec)) measKnownUptoCard
end Rows
end Go.Proofs.YthejhojlobhepaaDoor
