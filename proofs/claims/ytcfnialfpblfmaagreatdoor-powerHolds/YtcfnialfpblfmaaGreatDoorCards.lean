/-
  DERIVED. GIVEN WITH THE SEED: THE CARDS: each row of YtcfnialfpblfmaaGreatDoorRows.lean that lists a variable, with what it lists TIED to the program's text (the seventh form; the later family's looks); each row that meets fmt, with fmt's text TOLD by the authors' own Lean function (tested against real Go, not proved from fmt's source: count such statements apart). THE CARD IS WHAT COUNTS. Prove the row's statement (the work); the ties are given (YtcfnialfpblfmaaGreatDoorTie.lean); close each card by the builder's one call (the guide's Derived/Test/ToyasCard.lean, 'card_holds'). Laid BY PROGRAM, IN A SANDBOX (cutbox-door.mjs). By AI agents, Wed Nov 11 2026. No macro, syntax, notation, axiom, sorry.
-/
import Derived.Test.YtcfnialfpblfmaaGreatDoorRows
import GoSem.ClaimSeven
namespace Go.Proofs.YtcfnialfpblfmaaGreatDoor
namespace Rows

/-- THE TIED CARD OF 'vergelaw7.PowerKnown'. -/
def powerKnownCard : Claim7 := { stood := { row := powerKnownRow, standIns := [], harness := (true, "7392bd42146bbcc63fbbed80194c5f4ddbd413916fbf466c1ee173ecdba4407c"), looks := false }, kinds := [], alts := [], laidByText := true, laidKinds := [.data, .data], laidTests := true, laidLooks := .later }
def PowerKnownCardSaid : Prop := Claim7.holds Tryz.pinned (.plain (OpenSpec.ofChange powerKnownSpec)) powerKnownCard

/-- THE TIED CARD OF 'vergelaw7.PowerPowers'. -/
def powerPowersCard : Claim7 := { stood := { row := powerPowersRow, standIns := [], harness := (true, "7392bd42146bbcc63fbbed80194c5f4ddbd413916fbf466c1ee173ecdba4407c"), looks := false }, kinds := [], alts := [], laidByText := true, laidKinds := [.data, .data], laidTests := true, laidLooks := .later }
def PowerPowersCardSaid : Prop := Claim7.holds Tryz.pinned (.plain (OpenSpec.ofChange powerPowersSpec)) powerPowersCard

/-- THE TIED CARD OF 'vergelaw7.PowerHolds'. -/
def powerHoldsCard : Claim7 := { stood := { row := powerHoldsRow, standIns := [], harness := (true, "7392bd42146bbcc63fbbed80194c5f4ddbd413916fbf466c1ee173ecdba4407c"), looks := false }, kinds := [], alts := [], laidByText := true, laidKinds := [.data, .data], laidTests := true, laidLooks := .later }
def PowerHoldsCardSaid : Prop := Claim7.holds Tryz.pinned (.plain (OpenSpec.ofChange powerHoldsSpec)) powerHoldsCard

/-- THE TIED CARD OF 'vergelaw7.PowerTight'. -/
def powerTightCard : Claim7 := { stood := { row := powerTightRow, standIns := [], harness := (true, "7392bd42146bbcc63fbbed80194c5f4ddbd413916fbf466c1ee173ecdba4407c"), looks := false }, kinds := [], alts := [], laidByText := true, laidKinds := [.data, .data], laidTests := true, laidLooks := .later }
def PowerTightCardSaid : Prop := Claim7.holds Tryz.pinned (.plain (OpenSpec.ofChange powerTightSpec)) powerTightCard

/-- THE TIED CARD OF 'vergelaw7.PowerRoads'. -/
def powerRoadsCard : Claim7 := { stood := { row := powerRoadsRow, standIns := [], harness := (true, "7392bd42146bbcc63fbbed80194c5f4ddbd413916fbf466c1ee173ecdba4407c"), looks := false }, kinds := [], alts := [], laidByText := true, laidKinds := [.data, .data], laidTests := true, laidLooks := .later }
def PowerRoadsCardSaid : Prop := Claim7.holds Tryz.pinned (.plain (OpenSpec.ofChange powerRoadsSpec)) powerRoadsCard

/-- THE SECOND FORM's CARD OF 'vergelaw7.PowerKnown'. -/
def powerKnownUptoCard : Claim7 := { stood := { row := powerKnownUptoRow, standIns := [], harness := (true, "7392bd42146bbcc63fbbed80194c5f4ddbd413916fbf466c1ee173ecdba4407c"), looks := false }, kinds := [], alts := [], laidByText := true, laidKinds := [.data, .data], laidTests := true, laidLooks := .later }
def PowerKnownUptoCardSaid : Prop := Claim7.holds Tryz.pinned (.plain (OpenSpec.upto powerKnownSpec)) powerKnownUptoCard

/-- THE SECOND FORM's CARD OF 'vergelaw7.PowerPowers'. -/
def powerPowersUptoCard : Claim7 := { stood := { row := powerPowersUptoRow, standIns := [], harness := (true, "7392bd42146bbcc63fbbed80194c5f4ddbd413916fbf466c1ee173ecdba4407c"), looks := false }, kinds := [], alts := [], laidByText := true, laidKinds := [.data, .data], laidTests := true, laidLooks := .later }
def PowerPowersUptoCardSaid : Prop := Claim7.holds Tryz.pinned (.plain (OpenSpec.upto powerPowersSpec)) powerPowersUptoCard

/-- THE SECOND FORM's CARD OF 'vergelaw7.PowerHolds'. -/
def powerHoldsUptoCard : Claim7 := { stood := { row := powerHoldsUptoRow, standIns := [], harness := (true, "7392bd42146bbcc63fbbed80194c5f4ddbd413916fbf466c1ee173ecdba4407c"), looks := false }, kinds := [], alts := [], laidByText := true, laidKinds := [.data, .data], laidTests := true, laidLooks := .later }
def PowerHoldsUptoCardSaid : Prop := Claim7.holds Tryz.pinned (.plain (OpenSpec.upto powerHoldsSpec)) powerHoldsUptoCard

/-- THE SECOND FORM's CARD OF 'vergelaw7.PowerTight'. -/
def powerTightUptoCard : Claim7 := { stood := { row := powerTightUptoRow, standIns := [], harness := (true, "7392bd42146bbcc63fbbed80194c5f4ddbd413916fbf466c1ee173ecdba4407c"), looks := false }, kinds := [], alts := [], laidByText := true, laidKinds := [.data, .data], laidTests := true, laidLooks := .later }
def PowerTightUptoCardSaid : Prop := Claim7.holds Tryz.pinned (.plain (OpenSpec.upto powerTightSpec)) powerTightUptoCard

/-- THE SECOND FORM's CARD OF 'vergelaw7.PowerRoads'. -/
def powerRoadsUptoCard : Claim7 := { stood := { row := powerRoadsUptoRow, standIns := [], harness := (true, "7392bd42146bbcc63fbbed80194c5f4ddbd413916fbf466c1ee173ecdba4407c"), looks := false }, kinds := [], alts := [], laidByText := true, laidKinds := [.data, .data], laidTests := true, laidLooks := .later }
def PowerRoadsUptoCardSaid : Prop := Claim7.holds Tryz.pinned (.plain (OpenSpec.upto powerRoadsSpec)) powerRoadsUptoCard
end Rows
end Go.Proofs.YtcfnialfpblfmaaGreatDoor
