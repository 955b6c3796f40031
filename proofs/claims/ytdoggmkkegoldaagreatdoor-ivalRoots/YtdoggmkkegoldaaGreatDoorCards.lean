/-
  DERIVED. GIVEN WITH THE SEED: THE CARDS: each row of YtdoggmkkegoldaaGreatDoorRows.lean that lists a variable, with what it lists TIED to the program's text (the seventh form; the later family's looks); each row that meets fmt, with fmt's text TOLD by the authors' own Lean function (tested against real Go, not proved from fmt's source: count such statements apart). THE CARD IS WHAT COUNTS. Prove the row's statement (the work); the ties are given (YtdoggmkkegoldaaGreatDoorTie.lean); close each card by the builder's one call (the guide's Derived/Test/ToyasCard.lean, 'card_holds'). Laid BY PROGRAM, IN A SANDBOX (cutbox-door.mjs). By AI agents, Wed Nov 11 2026. No macro, syntax, notation, axiom, sorry.
-/
import Derived.Test.YtdoggmkkegoldaaGreatDoorRows
import GoSem.ClaimSeven
namespace Go.Proofs.YtdoggmkkegoldaaGreatDoor
namespace Rows

/-- THE TIED CARD OF 'vergelaw6.IvalRoots'. -/
def ivalRootsCard : Claim7 := { stood := { row := ivalRootsRow, standIns := [], harness := (true, "515a1440ac063947d66caba7deb3616f62bbeb3676580cc0218b8c6692a05f35"), looks := false }, kinds := [], alts := [], laidByText := true, laidKinds := [.data], laidTests := true, laidLooks := .later }
def IvalRootsCardSaid : Prop := Claim7.holds Tryz.pinned (.plain (OpenSpec.ofChange ivalRootsSpec)) ivalRootsCard

/-- THE SECOND FORM's CARD OF 'vergelaw6.IvalRoots'. -/
def ivalRootsUptoCard : Claim7 := { stood := { row := ivalRootsUptoRow, standIns := [], harness := (true, "515a1440ac063947d66caba7deb3616f62bbeb3676580cc0218b8c6692a05f35"), looks := false }, kinds := [], alts := [], laidByText := true, laidKinds := [.data], laidTests := true, laidLooks := .later }
def IvalRootsUptoCardSaid : Prop := Claim7.holds Tryz.pinned (.plain (OpenSpec.upto ivalRootsSpec)) ivalRootsUptoCard
end Rows
end Go.Proofs.YtdoggmkkegoldaaGreatDoor
