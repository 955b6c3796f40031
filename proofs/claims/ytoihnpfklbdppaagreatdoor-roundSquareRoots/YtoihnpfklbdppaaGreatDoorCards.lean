/-
  DERIVED. GIVEN WITH THE SEED: THE CARDS: each row of YtoihnpfklbdppaaGreatDoorRows.lean that lists a variable, with what it lists TIED to the program's text (the seventh form; the later family's looks); each row that meets fmt, with fmt's text TOLD by the authors' own Lean function (tested against real Go, not proved from fmt's source: count such statements apart). THE CARD IS WHAT COUNTS. Prove the row's statement (the work); the ties are given (YtoihnpfklbdppaaGreatDoorTie.lean); close each card by the builder's one call (the guide's Derived/Test/ToyasCard.lean, 'card_holds'). Laid BY PROGRAM, IN A SANDBOX (cutbox-door.mjs). By AI agents, Wed Nov 11 2026. No macro, syntax, notation, axiom, sorry.
-/
import Derived.Test.YtoihnpfklbdppaaGreatDoorRows
import GoSem.ClaimSeven
namespace Go.Proofs.YtoihnpfklbdppaaGreatDoor
namespace Rows

/-- THE TIED CARD OF 'vergelaw3.RoundSquareRoots'. -/
def roundSquareRootsCard : Claim7 := { stood := { row := roundSquareRootsRow, standIns := [], harness := (true, "61e0f4a2aeb9a085895c2ab93d80d2ea3593905c7703a51c9fcf3565178fa85d"), looks := false }, kinds := [], alts := [], laidByText := true, laidKinds := [.data], laidTests := true, laidLooks := .later }
def RoundSquareRootsCardSaid : Prop := Claim7.holds Tryz.pinned (.plain (OpenSpec.ofChange roundSquareRootsSpec)) roundSquareRootsCard

/-- THE SECOND FORM's CARD OF 'vergelaw3.RoundSquareRoots'. -/
def roundSquareRootsUptoCard : Claim7 := { stood := { row := roundSquareRootsUptoRow, standIns := [], harness := (true, "61e0f4a2aeb9a085895c2ab93d80d2ea3593905c7703a51c9fcf3565178fa85d"), looks := false }, kinds := [], alts := [], laidByText := true, laidKinds := [.data], laidTests := true, laidLooks := .later }
def RoundSquareRootsUptoCardSaid : Prop := Claim7.holds Tryz.pinned (.plain (OpenSpec.upto roundSquareRootsSpec)) roundSquareRootsUptoCard
end Rows
end Go.Proofs.YtoihnpfklbdppaaGreatDoor
