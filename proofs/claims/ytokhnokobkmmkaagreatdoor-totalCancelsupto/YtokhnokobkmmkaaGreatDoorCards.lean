/-
  DERIVED. GIVEN WITH THE SEED: THE CARDS: each row of YtokhnokobkmmkaaGreatDoorRows.lean that lists a variable, with what it lists TIED to the program's text (the seventh form; the later family's looks); each row that meets fmt, with fmt's text TOLD by the authors' own Lean function (tested against real Go, not proved from fmt's source: count such statements apart). THE CARD IS WHAT COUNTS. Prove the row's statement (the work); the ties are given (YtokhnokobkmmkaaGreatDoorTie.lean); close each card by the builder's one call (the guide's Derived/Test/ToyasCard.lean, 'card_holds'). Laid BY PROGRAM, IN A SANDBOX (cutbox-door.mjs). By AI agents, Wed Nov 11 2026. No macro, syntax, notation, axiom, sorry.
-/
import Derived.Test.YtokhnokobkmmkaaGreatDoorRows
import GoSem.ClaimSeven
namespace Go.Proofs.YtokhnokobkmmkaaGreatDoor
namespace Rows

/-- THE TIED CARD OF 'vergelaw4.TotalLists'. -/
def totalListsCard : Claim7 := { stood := { row := totalListsRow, standIns := [], harness := (true, "5956950ab5e756c4fdd1dcd7d318a423703ecc29f915cd527c69e0f010086dea"), looks := false }, kinds := [], alts := [], laidByText := true, laidKinds := [.data, .data], laidTests := true, laidLooks := .later }
def TotalListsCardSaid : Prop := Claim7.holds Tryz.pinned (.plain (OpenSpec.ofChange totalListsSpec)) totalListsCard

/-- THE TIED CARD OF 'vergelaw4.TotalDots'. -/
def totalDotsCard : Claim7 := { stood := { row := totalDotsRow, standIns := [], harness := (true, "5956950ab5e756c4fdd1dcd7d318a423703ecc29f915cd527c69e0f010086dea"), looks := false }, kinds := [], alts := [], laidByText := true, laidKinds := [.data, .data], laidTests := true, laidLooks := .later }
def TotalDotsCardSaid : Prop := Claim7.holds Tryz.pinned (.plain (OpenSpec.ofChange totalDotsSpec)) totalDotsCard

/-- THE TIED CARD OF 'vergelaw4.TotalCancels'. -/
def totalCancelsCard : Claim7 := { stood := { row := totalCancelsRow, standIns := [], harness := (true, "5956950ab5e756c4fdd1dcd7d318a423703ecc29f915cd527c69e0f010086dea"), looks := false }, kinds := [], alts := [], laidByText := true, laidKinds := [.data, .data], laidTests := true, laidLooks := .later }
def TotalCancelsCardSaid : Prop := Claim7.holds Tryz.pinned (.plain (OpenSpec.ofChange totalCancelsSpec)) totalCancelsCard

/-- THE SECOND FORM's CARD OF 'vergelaw4.TotalLists'. -/
def totalListsUptoCard : Claim7 := { stood := { row := totalListsUptoRow, standIns := [], harness := (true, "5956950ab5e756c4fdd1dcd7d318a423703ecc29f915cd527c69e0f010086dea"), looks := false }, kinds := [], alts := [], laidByText := true, laidKinds := [.data, .data], laidTests := true, laidLooks := .later }
def TotalListsUptoCardSaid : Prop := Claim7.holds Tryz.pinned (.plain (OpenSpec.upto totalListsSpec)) totalListsUptoCard

/-- THE SECOND FORM's CARD OF 'vergelaw4.TotalDots'. -/
def totalDotsUptoCard : Claim7 := { stood := { row := totalDotsUptoRow, standIns := [], harness := (true, "5956950ab5e756c4fdd1dcd7d318a423703ecc29f915cd527c69e0f010086dea"), looks := false }, kinds := [], alts := [], laidByText := true, laidKinds := [.data, .data], laidTests := true, laidLooks := .later }
def TotalDotsUptoCardSaid : Prop := Claim7.holds Tryz.pinned (.plain (OpenSpec.upto totalDotsSpec)) totalDotsUptoCard

/-- THE SECOND FORM's CARD OF 'vergelaw4.TotalCancels'. -/
def totalCancelsUptoCard : Claim7 := { stood := { row := totalCancelsUptoRow, standIns := [], harness := (true, "5956950ab5e756c4fdd1dcd7d318a423703ecc29f915cd527c69e0f010086dea"), looks := false }, kinds := [], alts := [], laidByText := true, laidKinds := [.data, .data], laidTests := true, laidLooks := .later }
def TotalCancelsUptoCardSaid : Prop := Claim7.holds Tryz.pinned (.plain (OpenSpec.upto totalCancelsSpec)) totalCancelsUptoCard
end Rows
end Go.Proofs.YtokhnokobkmmkaaGreatDoor
