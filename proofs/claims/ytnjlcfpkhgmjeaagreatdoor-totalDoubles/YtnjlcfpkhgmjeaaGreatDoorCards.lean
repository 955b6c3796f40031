/-
  DERIVED. GIVEN WITH THE SEED: THE CARDS: each row of YtnjlcfpkhgmjeaaGreatDoorRows.lean that lists a variable, with what it lists TIED to the program's text (the seventh form; the later family's looks); each row that meets fmt, with fmt's text TOLD by the authors' own Lean function (tested against real Go, not proved from fmt's source: count such statements apart). THE CARD IS WHAT COUNTS. Prove the row's statement (the work); the ties are given (YtnjlcfpkhgmjeaaGreatDoorTie.lean); close each card by the builder's one call (the guide's Derived/Test/ToyasCard.lean, 'card_holds'). Laid BY PROGRAM, IN A SANDBOX (cutbox-door.mjs). By AI agents, Wed Nov 11 2026. No macro, syntax, notation, axiom, sorry.
-/
import Derived.Test.YtnjlcfpkhgmjeaaGreatDoorRows
import GoSem.ClaimSeven
namespace Go.Proofs.YtnjlcfpkhgmjeaaGreatDoor
namespace Rows

/-- THE TIED CARD OF 'vergelaw4.TotalTwos'. -/
def totalTwosCard : Claim7 := { stood := { row := totalTwosRow, standIns := [], harness := (true, "f36097885a73b2aa710c8e47a376e5430ab1a2333462da18e6a5bba3c2b66ac3"), looks := false }, kinds := [], alts := [], laidByText := true, laidKinds := [.data, .data], laidTests := true, laidLooks := .later }
def TotalTwosCardSaid : Prop := Claim7.holds Tryz.pinned (.plain (OpenSpec.ofChange totalTwosSpec)) totalTwosCard

/-- THE TIED CARD OF 'vergelaw4.TotalDoubles'. -/
def totalDoublesCard : Claim7 := { stood := { row := totalDoublesRow, standIns := [], harness := (true, "f36097885a73b2aa710c8e47a376e5430ab1a2333462da18e6a5bba3c2b66ac3"), looks := false }, kinds := [], alts := [], laidByText := true, laidKinds := [.data, .data], laidTests := true, laidLooks := .later }
def TotalDoublesCardSaid : Prop := Claim7.holds Tryz.pinned (.plain (OpenSpec.ofChange totalDoublesSpec)) totalDoublesCard

/-- THE SECOND FORM's CARD OF 'vergelaw4.TotalTwos'. -/
def totalTwosUptoCard : Claim7 := { stood := { row := totalTwosUptoRow, standIns := [], harness := (true, "f36097885a73b2aa710c8e47a376e5430ab1a2333462da18e6a5bba3c2b66ac3"), looks := false }, kinds := [], alts := [], laidByText := true, laidKinds := [.data, .data], laidTests := true, laidLooks := .later }
def TotalTwosUptoCardSaid : Prop := Claim7.holds Tryz.pinned (.plain (OpenSpec.upto totalTwosSpec)) totalTwosUptoCard

/-- THE SECOND FORM's CARD OF 'vergelaw4.TotalDoubles'. -/
def totalDoublesUptoCard : Claim7 := { stood := { row := totalDoublesUptoRow, standIns := [], harness := (true, "f36097885a73b2aa710c8e47a376e5430ab1a2333462da18e6a5bba3c2b66ac3"), looks := false }, kinds := [], alts := [], laidByText := true, laidKinds := [.data, .data], laidTests := true, laidLooks := .later }
def TotalDoublesUptoCardSaid : Prop := Claim7.holds Tryz.pinned (.plain (OpenSpec.upto totalDoublesSpec)) totalDoublesUptoCard
end Rows
end Go.Proofs.YtnjlcfpkhgmjeaaGreatDoor
