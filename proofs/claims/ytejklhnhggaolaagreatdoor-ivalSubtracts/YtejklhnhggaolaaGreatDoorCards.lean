/-
  DERIVED. GIVEN WITH THE SEED: THE CARDS: each row of YtejklhnhggaolaaGreatDoorRows.lean that lists a variable, with what it lists TIED to the program's text (the seventh form; the later family's looks); each row that meets fmt, with fmt's text TOLD by the authors' own Lean function (tested against real Go, not proved from fmt's source: count such statements apart). THE CARD IS WHAT COUNTS. Prove the row's statement (the work); the ties are given (YtejklhnhggaolaaGreatDoorTie.lean); close each card by the builder's one call (the guide's Derived/Test/ToyasCard.lean, 'card_holds'). Laid BY PROGRAM, IN A SANDBOX (cutbox-door.mjs). By AI agents, Wed Nov 11 2026. No macro, syntax, notation, axiom, sorry.
-/
import Derived.Test.YtejklhnhggaolaaGreatDoorRows
import GoSem.ClaimSeven
namespace Go.Proofs.YtejklhnhggaolaaGreatDoor
namespace Rows

/-- THE TIED CARD OF 'vergelaw6.IvalAdds'. -/
def ivalAddsCard : Claim7 := { stood := { row := ivalAddsRow, standIns := [], harness := (true, "34a7060f9de208fd5c57635338e0a55d09ca369fb6615cf663a605f16ce12e17"), looks := false }, kinds := [], alts := [], laidByText := true, laidKinds := [.data, .data], laidTests := true, laidLooks := .later }
def IvalAddsCardSaid : Prop := Claim7.holds Tryz.pinned (.plain (OpenSpec.ofChange ivalAddsSpec)) ivalAddsCard

/-- THE TIED CARD OF 'vergelaw6.IvalSubtracts'. -/
def ivalSubtractsCard : Claim7 := { stood := { row := ivalSubtractsRow, standIns := [], harness := (true, "34a7060f9de208fd5c57635338e0a55d09ca369fb6615cf663a605f16ce12e17"), looks := false }, kinds := [], alts := [], laidByText := true, laidKinds := [.data, .data], laidTests := true, laidLooks := .later }
def IvalSubtractsCardSaid : Prop := Claim7.holds Tryz.pinned (.plain (OpenSpec.ofChange ivalSubtractsSpec)) ivalSubtractsCard

/-- THE SECOND FORM's CARD OF 'vergelaw6.IvalAdds'. -/
def ivalAddsUptoCard : Claim7 := { stood := { row := ivalAddsUptoRow, standIns := [], harness := (true, "34a7060f9de208fd5c57635338e0a55d09ca369fb6615cf663a605f16ce12e17"), looks := false }, kinds := [], alts := [], laidByText := true, laidKinds := [.data, .data], laidTests := true, laidLooks := .later }
def IvalAddsUptoCardSaid : Prop := Claim7.holds Tryz.pinned (.plain (OpenSpec.upto ivalAddsSpec)) ivalAddsUptoCard

/-- THE SECOND FORM's CARD OF 'vergelaw6.IvalSubtracts'. -/
def ivalSubtractsUptoCard : Claim7 := { stood := { row := ivalSubtractsUptoRow, standIns := [], harness := (true, "34a7060f9de208fd5c57635338e0a55d09ca369fb6615cf663a605f16ce12e17"), looks := false }, kinds := [], alts := [], laidByText := true, laidKinds := [.data, .data], laidTests := true, laidLooks := .later }
def IvalSubtractsUptoCardSaid : Prop := Claim7.holds Tryz.pinned (.plain (OpenSpec.upto ivalSubtractsSpec)) ivalSubtractsUptoCard
end Rows
end Go.Proofs.YtejklhnhggaolaaGreatDoor
