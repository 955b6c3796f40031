/-
  DERIVED. GIVEN WITH THE SEED: THE CARDS: each row of YthdnajcgdngmcaaGreatDoorRows.lean that lists a variable, with what it lists TIED to the program's text (the seventh form; the later family's looks); each row that meets fmt, with fmt's text TOLD by the authors' own Lean function (tested against real Go, not proved from fmt's source: count such statements apart). THE CARD IS WHAT COUNTS. Prove the row's statement (the work); the ties are given (YthdnajcgdngmcaaGreatDoorTie.lean); close each card by the builder's one call (the guide's Derived/Test/ToyasCard.lean, 'card_holds'). Laid BY PROGRAM, IN A SANDBOX (cutbox-door.mjs). By AI agents, Wed Nov 11 2026. No macro, syntax, notation, axiom, sorry.
-/
import Derived.Test.YthdnajcgdngmcaaGreatDoorRows
import GoSem.ClaimSeven
namespace Go.Proofs.YthdnajcgdngmcaaGreatDoor
namespace Rows

/-- THE TIED CARD OF 'vergelaw7.PowerKnown'. -/
def powerKnownCard : Claim7 := { stood := { row := powerKnownRow, standIns := [], harness := (true, "338810fb2e707051deeb92cb5e02f09c908caf0427064b2e0771020e934f866b"), looks := false }, kinds := [], alts := [], laidByText := true, laidKinds := [.data, .data], laidTests := true, laidLooks := .later }
def PowerKnownCardSaid : Prop := Claim7.holds Tryz.pinned (.plain (OpenSpec.ofChange powerKnownSpec)) powerKnownCard

/-- THE TIED CARD OF 'vergelaw7.PowerPowers'. -/
def powerPowersCard : Claim7 := { stood := { row := powerPowersRow, standIns := [], harness := (true, "338810fb2e707051deeb92cb5e02f09c908caf0427064b2e0771020e934f866b"), looks := false }, kinds := [], alts := [], laidByText := true, laidKinds := [.data, .data], laidTests := true, laidLooks := .later }
def PowerPowersCardSaid : Prop := Claim7.holds Tryz.pinned (.plain (OpenSpec.ofChange powerPowersSpec)) powerPowersCard

/-- THE TIED CARD OF 'vergelaw7.PowerGrows'. -/
def powerGrowsCard : Claim7 := { stood := { row := powerGrowsRow, standIns := [], harness := (true, "338810fb2e707051deeb92cb5e02f09c908caf0427064b2e0771020e934f866b"), looks := false }, kinds := [], alts := [], laidByText := true, laidKinds := [.data, .data], laidTests := true, laidLooks := .later }
def PowerGrowsCardSaid : Prop := Claim7.holds Tryz.pinned (.plain (OpenSpec.ofChange powerGrowsSpec)) powerGrowsCard

/-- THE TIED CARD OF 'vergelaw7.PowerRoads'. -/
def powerRoadsCard : Claim7 := { stood := { row := powerRoadsRow, standIns := [], harness := (true, "338810fb2e707051deeb92cb5e02f09c908caf0427064b2e0771020e934f866b"), looks := false }, kinds := [], alts := [], laidByText := true, laidKinds := [.data, .data], laidTests := true, laidLooks := .later }
def PowerRoadsCardSaid : Prop := Claim7.holds Tryz.pinned (.plain (OpenSpec.ofChange powerRoadsSpec)) powerRoadsCard

/-- THE TIED CARD OF 'vergelaw7.PowerWhole'. -/
def powerWholeCard : Claim7 := { stood := { row := powerWholeRow, standIns := [], harness := (true, "338810fb2e707051deeb92cb5e02f09c908caf0427064b2e0771020e934f866b"), looks := false }, kinds := [], alts := [], laidByText := true, laidKinds := [.data, .data], laidTests := true, laidLooks := .later }
def PowerWholeCardSaid : Prop := Claim7.holds Tryz.pinned (.plain (OpenSpec.ofChange powerWholeSpec)) powerWholeCard

/-- THE SECOND FORM's CARD OF 'vergelaw7.PowerKnown'. -/
def powerKnownUptoCard : Claim7 := { stood := { row := powerKnownUptoRow, standIns := [], harness := (true, "338810fb2e707051deeb92cb5e02f09c908caf0427064b2e0771020e934f866b"), looks := false }, kinds := [], alts := [], laidByText := true, laidKinds := [.data, .data], laidTests := true, laidLooks := .later }
def PowerKnownUptoCardSaid : Prop := Claim7.holds Tryz.pinned (.plain (OpenSpec.upto powerKnownSpec)) powerKnownUptoCard

/-- THE SECOND FORM's CARD OF 'vergelaw7.PowerPowers'. -/
def powerPowersUptoCard : Claim7 := { stood := { row := powerPowersUptoRow, standIns := [], harness := (true, "338810fb2e707051deeb92cb5e02f09c908caf0427064b2e0771020e934f866b"), looks := false }, kinds := [], alts := [], laidByText := true, laidKinds := [.data, .data], laidTests := true, laidLooks := .later }
def PowerPowersUptoCardSaid : Prop := Claim7.holds Tryz.pinned (.plain (OpenSpec.upto powerPowersSpec)) powerPowersUptoCard

/-- THE SECOND FORM's CARD OF 'vergelaw7.PowerGrows'. -/
def powerGrowsUptoCard : Claim7 := { stood := { row := powerGrowsUptoRow, standIns := [], harness := (true, "338810fb2e707051deeb92cb5e02f09c908caf0427064b2e0771020e934f866b"), looks := false }, kinds := [], alts := [], laidByText := true, laidKinds := [.data, .data], laidTests := true, laidLooks := .later }
def PowerGrowsUptoCardSaid : Prop := Claim7.holds Tryz.pinned (.plain (OpenSpec.upto powerGrowsSpec)) powerGrowsUptoCard

/-- THE SECOND FORM's CARD OF 'vergelaw7.PowerRoads'. -/
def powerRoadsUptoCard : Claim7 := { stood := { row := powerRoadsUptoRow, standIns := [], harness := (true, "338810fb2e707051deeb92cb5e02f09c908caf0427064b2e0771020e934f866b"), looks := false }, kinds := [], alts := [], laidByText := true, laidKinds := [.data, .data], laidTests := true, laidLooks := .later }
def PowerRoadsUptoCardSaid : Prop := Claim7.holds Tryz.pinned (.plain (OpenSpec.upto powerRoadsSpec)) powerRoadsUptoCard

/-- THE SECOND FORM's CARD OF 'vergelaw7.PowerWhole'. -/
def powerWholeUptoCard : Claim7 := { stood := { row := powerWholeUptoRow, standIns := [], harness := (true, "338810fb2e707051deeb92cb5e02f09c908caf0427064b2e0771020e934f866b"), looks := false }, kinds := [], alts := [], laidByText := true, laidKinds := [.data, .data], laidTests := true, laidLooks := .later }
def PowerWholeUptoCardSaid : Prop := Claim7.holds Tryz.pinned (.plain (OpenSpec.upto powerWholeSpec)) powerWholeUptoCard
end Rows
end Go.Proofs.YthdnajcgdngmcaaGreatDoor
