/-
  DERIVED. GIVEN WITH THE SEED: THE CARDS: each row of YthmeefigiekneaaGreatDoorRows.lean that lists a variable, with what it lists TIED to the program's text (the seventh form; the later family's looks); each row that meets fmt, with fmt's text TOLD by the authors' own Lean function (tested against real Go, not proved from fmt's source: count such statements apart). THE CARD IS WHAT COUNTS. Prove the row's statement (the work); the ties are given (YthmeefigiekneaaGreatDoorTie.lean); close each card by the builder's one call (the guide's Derived/Test/ToyasCard.lean, 'card_holds'). Laid BY PROGRAM, IN A SANDBOX (cutbox-door.mjs). By AI agents, Wed Nov 11 2026. No macro, syntax, notation, axiom, sorry.
-/
import Derived.Test.YthmeefigiekneaaGreatDoorRows
import GoSem.ClaimSeven
namespace Go.Proofs.YthmeefigiekneaaGreatDoor
namespace Rows

/-- THE TIED CARD OF 'vergelaw10.RevCancels'. -/
def revCancelsCard : Claim7 := { stood := { row := revCancelsRow, standIns := [], harness := (true, "4caed646b7a6d00e2020fbb24b2e502531b99cb2a0af6e99dfc18c242a4357ab"), looks := false }, kinds := [], alts := [], laidByText := true, laidKinds := [.data, .data], laidTests := true, laidLooks := .later }
def RevCancelsCardSaid : Prop := Claim7.holds Tryz.pinned (.plain (OpenSpec.ofChange revCancelsSpec)) revCancelsCard

/-- THE SECOND FORM's CARD OF 'vergelaw10.RevCancels'. -/
def revCancelsUptoCard : Claim7 := { stood := { row := revCancelsUptoRow, standIns := [], harness := (true, "4caed646b7a6d00e2020fbb24b2e502531b99cb2a0af6e99dfc18c242a4357ab"), looks := false }, kinds := [], alts := [], laidByText := true, laidKinds := [.data, .data], laidTests := true, laidLooks := .later }
def RevCancelsUptoCardSaid : Prop := Claim7.holds Tryz.pinned (.plain (OpenSpec.upto revCancelsSpec)) revCancelsUptoCard
end Rows
end Go.Proofs.YthmeefigiekneaaGreatDoor
