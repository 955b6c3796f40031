/-
  DERIVED. GIVEN WITH THE SEED: THE CARDS: each row of YtgebabhfcgmjlaaGreatDoorRows.lean that lists a variable, with what it lists TIED to the program's text (the seventh form; the later family's looks); each row that meets fmt, with fmt's text TOLD by the authors' own Lean function (tested against real Go, not proved from fmt's source: count such statements apart). THE CARD IS WHAT COUNTS. Prove the row's statement (the work); the ties are given (YtgebabhfcgmjlaaGreatDoorTie.lean); close each card by the builder's one call (the guide's Derived/Test/ToyasCard.lean, 'card_holds'). Laid BY PROGRAM, IN A SANDBOX (cutbox-door.mjs). By AI agents, Wed Nov 11 2026. No macro, syntax, notation, axiom, sorry.
-/
import Derived.Test.YtgebabhfcgmjlaaGreatDoorRows
import GoSem.ClaimSeven
namespace Go.Proofs.YtgebabhfcgmjlaaGreatDoor
namespace Rows

/-- THE TIED CARD OF 'vergelaw8.MeasMirror'. -/
def measMirrorCard : Claim7 := { stood := { row := measMirrorRow, standIns := [], harness := (true, "3c585e8bdf58aae75bc1b711452b63d37aa8eb942596fd74af09db877101045d"), looks := false }, kinds := [], alts := [], laidByText := true, laidKinds := [.data, .data], laidTests := true, laidLooks := .later }
def MeasMirrorCardSaid : Prop := Claim7.holds Tryz.pinned (.plain (OpenSpec.ofChange measMirrorSpec)) measMirrorCard

/-- THE SECOND FORM's CARD OF 'vergelaw8.MeasMirror'. -/
def measMirrorUptoCard : Claim7 := { stood := { row := measMirrorUptoRow, standIns := [], harness := (true, "3c585e8bdf58aae75bc1b711452b63d37aa8eb942596fd74af09db877101045d"), looks := false }, kinds := [], alts := [], laidByText := true, laidKinds := [.data, .data], laidTests := true, laidLooks := .later }
def MeasMirrorUptoCardSaid : Prop := Claim7.holds Tryz.pinned (.plain (OpenSpec.upto measMirrorSpec)) measMirrorUptoCard
end Rows
end Go.Proofs.YtgebabhfcgmjlaaGreatDoor
