/-
  DERIVED. GIVEN WITH THE SEED: THE CARDS: each row of YtnileplkkmhdgaaGreatDoorRows.lean that lists a variable, with what it lists TIED to the program's text (the seventh form; the later family's looks); each row that meets fmt, with fmt's text TOLD by the authors' own Lean function (tested against real Go, not proved from fmt's source: count such statements apart). THE CARD IS WHAT COUNTS. Prove the row's statement (the work); the ties are given (YtnileplkkmhdgaaGreatDoorTie.lean); close each card by the builder's one call (the guide's Derived/Test/ToyasCard.lean, 'card_holds'). Laid BY PROGRAM, IN A SANDBOX (cutbox-door.mjs). By AI agents, Wed Nov 11 2026. No macro, syntax, notation, axiom, sorry.
-/
import Derived.Test.YtnileplkkmhdgaaGreatDoorRows
import GoSem.ClaimSeven
namespace Go.Proofs.YtnileplkkmhdgaaGreatDoor
namespace Rows

/-- THE TIED CARD OF 'vergelaw6.IvalHolds'. -/
def ivalHoldsCard : Claim7 := { stood := { row := ivalHoldsRow, standIns := [], harness := (true, "fc95cdf2fe4cf3b13385595d491cde13dd67ea170f42609098a295eb9177941d"), looks := false }, kinds := [], alts := [], laidByText := true, laidKinds := [.data, .data], laidTests := true, laidLooks := .later }
def IvalHoldsCardSaid : Prop := Claim7.holds Tryz.pinned (.plain (OpenSpec.ofChange ivalHoldsSpec)) ivalHoldsCard

/-- THE TIED CARD OF 'vergelaw6.IvalHoldsRoots'. -/
def ivalHoldsRootsCard : Claim7 := { stood := { row := ivalHoldsRootsRow, standIns := [], harness := (true, "fc95cdf2fe4cf3b13385595d491cde13dd67ea170f42609098a295eb9177941d"), looks := false }, kinds := [], alts := [], laidByText := true, laidKinds := [.data, .data], laidTests := true, laidLooks := .later }
def IvalHoldsRootsCardSaid : Prop := Claim7.holds Tryz.pinned (.plain (OpenSpec.ofChange ivalHoldsRootsSpec)) ivalHoldsRootsCard

/-- THE SECOND FORM's CARD OF 'vergelaw6.IvalHolds'. -/
def ivalHoldsUptoCard : Claim7 := { stood := { row := ivalHoldsUptoRow, standIns := [], harness := (true, "fc95cdf2fe4cf3b13385595d491cde13dd67ea170f42609098a295eb9177941d"), looks := false }, kinds := [], alts := [], laidByText := true, laidKinds := [.data, .data], laidTests := true, laidLooks := .later }
def IvalHoldsUptoCardSaid : Prop := Claim7.holds Tryz.pinned (.plain (OpenSpec.upto ivalHoldsSpec)) ivalHoldsUptoCard

/-- THE SECOND FORM's CARD OF 'vergelaw6.IvalHoldsRoots'. -/
def ivalHoldsRootsUptoCard : Claim7 := { stood := { row := ivalHoldsRootsUptoRow, standIns := [], harness := (true, "fc95cdf2fe4cf3b13385595d491cde13dd67ea170f42609098a295eb9177941d"), looks := false }, kinds := [], alts := [], laidByText := true, laidKinds := [.data, .data], laidTests := true, laidLooks := .later }
def IvalHoldsRootsUptoCardSaid : Prop := Claim7.holds Tryz.pinned (.plain (OpenSpec.upto ivalHoldsRootsSpec)) ivalHoldsRootsUptoCard
end Rows
end Go.Proofs.YtnileplkkmhdgaaGreatDoor
