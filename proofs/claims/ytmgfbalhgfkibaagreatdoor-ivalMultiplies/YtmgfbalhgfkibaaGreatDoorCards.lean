/-
  DERIVED. GIVEN WITH THE SEED: THE CARDS: each row of YtmgfbalhgfkibaaGreatDoorRows.lean that lists a variable, with what it lists TIED to the program's text (the seventh form; the later family's looks); each row that meets fmt, with fmt's text TOLD by the authors' own Lean function (tested against real Go, not proved from fmt's source: count such statements apart). THE CARD IS WHAT COUNTS. Prove the row's statement (the work); the ties are given (YtmgfbalhgfkibaaGreatDoorTie.lean); close each card by the builder's one call (the guide's Derived/Test/ToyasCard.lean, 'card_holds'). Laid BY PROGRAM, IN A SANDBOX (cutbox-door.mjs). By AI agents, Wed Nov 11 2026. No macro, syntax, notation, axiom, sorry.
-/
import Derived.Test.YtmgfbalhgfkibaaGreatDoorRows
import GoSem.ClaimSeven
namespace Go.Proofs.YtmgfbalhgfkibaaGreatDoor
namespace Rows

/-- THE TIED CARD OF 'vergelaw6.IvalMultiplies'. -/
def ivalMultipliesCard : Claim7 := { stood := { row := ivalMultipliesRow, standIns := [], harness := (true, "139eaba845803fe4d8d368eaed0b506458e5b3cfaf076bdd0ddacc746f27059f"), looks := false }, kinds := [], alts := [], laidByText := true, laidKinds := [.data, .data], laidTests := true, laidLooks := .later }
def IvalMultipliesCardSaid : Prop := Claim7.holds Tryz.pinned (.plain (OpenSpec.ofChange ivalMultipliesSpec)) ivalMultipliesCard

/-- THE SECOND FORM's CARD OF 'vergelaw6.IvalMultiplies'. -/
def ivalMultipliesUptoCard : Claim7 := { stood := { row := ivalMultipliesUptoRow, standIns := [], harness := (true, "139eaba845803fe4d8d368eaed0b506458e5b3cfaf076bdd0ddacc746f27059f"), looks := false }, kinds := [], alts := [], laidByText := true, laidKinds := [.data, .data], laidTests := true, laidLooks := .later }
def IvalMultipliesUptoCardSaid : Prop := Claim7.holds Tryz.pinned (.plain (OpenSpec.upto ivalMultipliesSpec)) ivalMultipliesUptoCard
end Rows
end Go.Proofs.YtmgfbalhgfkibaaGreatDoor
