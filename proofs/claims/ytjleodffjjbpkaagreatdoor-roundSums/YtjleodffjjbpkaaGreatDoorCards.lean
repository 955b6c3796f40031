/-
  DERIVED. GIVEN WITH THE SEED: THE CARDS: each row of YtjleodffjjbpkaaGreatDoorRows.lean that lists a variable, with what it lists TIED to the program's text (the seventh form; the later family's looks); each row that meets fmt, with fmt's text TOLD by the authors' own Lean function (tested against real Go, not proved from fmt's source: count such statements apart). THE CARD IS WHAT COUNTS. Prove the row's statement (the work); the ties are given (YtjleodffjjbpkaaGreatDoorTie.lean); close each card by the builder's one call (the guide's Derived/Test/ToyasCard.lean, 'card_holds'). Laid BY PROGRAM, IN A SANDBOX (cutbox-door.mjs). By AI agents, Wed Nov 11 2026. No macro, syntax, notation, axiom, sorry.
-/
import Derived.Test.YtjleodffjjbpkaaGreatDoorRows
import GoSem.ClaimSeven
namespace Go.Proofs.YtjleodffjjbpkaaGreatDoor
namespace Rows

/-- THE TIED CARD OF 'vergelaw3.RoundSums'. -/
def roundSumsCard : Claim7 := { stood := { row := roundSumsRow, standIns := [], harness := (true, "b2403f8bf293d6589d305448c6d3c7eb9b05f34bc324c0d59f3c6462287bade1"), looks := false }, kinds := [], alts := [], laidByText := true, laidKinds := [.data, .data], laidTests := true, laidLooks := .later }
def RoundSumsCardSaid : Prop := Claim7.holds Tryz.pinned (.plain (OpenSpec.ofChange roundSumsSpec)) roundSumsCard

/-- THE SECOND FORM's CARD OF 'vergelaw3.RoundSums'. -/
def roundSumsUptoCard : Claim7 := { stood := { row := roundSumsUptoRow, standIns := [], harness := (true, "b2403f8bf293d6589d305448c6d3c7eb9b05f34bc324c0d59f3c6462287bade1"), looks := false }, kinds := [], alts := [], laidByText := true, laidKinds := [.data, .data], laidTests := true, laidLooks := .later }
def RoundSumsUptoCardSaid : Prop := Claim7.holds Tryz.pinned (.plain (OpenSpec.upto roundSumsSpec)) roundSumsUptoCard
end Rows
end Go.Proofs.YtjleodffjjbpkaaGreatDoor
