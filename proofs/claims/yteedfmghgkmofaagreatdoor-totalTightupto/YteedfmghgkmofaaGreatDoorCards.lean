/-
  DERIVED. GIVEN WITH THE SEED: THE CARDS: each row of YteedfmghgkmofaaGreatDoorRows.lean that lists a variable, with what it lists TIED to the program's text (the seventh form; the later family's looks); each row that meets fmt, with fmt's text TOLD by the authors' own Lean function (tested against real Go, not proved from fmt's source: count such statements apart). THE CARD IS WHAT COUNTS. Prove the row's statement (the work); the ties are given (YteedfmghgkmofaaGreatDoorTie.lean); close each card by the builder's one call (the guide's Derived/Test/ToyasCard.lean, 'card_holds'). Laid BY PROGRAM, IN A SANDBOX (cutbox-door.mjs). By AI agents, Wed Nov 11 2026. No macro, syntax, notation, axiom, sorry.
-/
import Derived.Test.YteedfmghgkmofaaGreatDoorRows
import GoSem.ClaimSeven
namespace Go.Proofs.YteedfmghgkmofaaGreatDoor
namespace Rows

/-- THE TIED CARD OF 'vergelaw4.TotalKnown'. -/
def totalKnownCard : Claim7 := { stood := { row := totalKnownRow, standIns := [], harness := (true, "992c9ce443feb52b651ebf14e25083a9bc834beef82eafed8c219e13d9549620"), looks := false }, kinds := [], alts := [], laidByText := true, laidKinds := [.data, .data], laidTests := true, laidLooks := .later }
def TotalKnownCardSaid : Prop := Claim7.holds Tryz.pinned (.plain (OpenSpec.ofChange totalKnownSpec)) totalKnownCard

/-- THE TIED CARD OF 'vergelaw4.TotalPlays'. -/
def totalPlaysCard : Claim7 := { stood := { row := totalPlaysRow, standIns := [], harness := (true, "992c9ce443feb52b651ebf14e25083a9bc834beef82eafed8c219e13d9549620"), looks := false }, kinds := [], alts := [], laidByText := true, laidKinds := [.data, .data], laidTests := true, laidLooks := .later }
def TotalPlaysCardSaid : Prop := Claim7.holds Tryz.pinned (.plain (OpenSpec.ofChange totalPlaysSpec)) totalPlaysCard

/-- THE TIED CARD OF 'vergelaw4.TotalOrder'. -/
def totalOrderCard : Claim7 := { stood := { row := totalOrderRow, standIns := [], harness := (true, "992c9ce443feb52b651ebf14e25083a9bc834beef82eafed8c219e13d9549620"), looks := false }, kinds := [], alts := [], laidByText := true, laidKinds := [.data, .data], laidTests := true, laidLooks := .later }
def TotalOrderCardSaid : Prop := Claim7.holds Tryz.pinned (.plain (OpenSpec.ofChange totalOrderSpec)) totalOrderCard

/-- THE TIED CARD OF 'vergelaw4.TotalTight'. -/
def totalTightCard : Claim7 := { stood := { row := totalTightRow, standIns := [], harness := (true, "992c9ce443feb52b651ebf14e25083a9bc834beef82eafed8c219e13d9549620"), looks := false }, kinds := [], alts := [], laidByText := true, laidKinds := [.data, .data], laidTests := true, laidLooks := .later }
def TotalTightCardSaid : Prop := Claim7.holds Tryz.pinned (.plain (OpenSpec.ofChange totalTightSpec)) totalTightCard

/-- THE SECOND FORM's CARD OF 'vergelaw4.TotalKnown'. -/
def totalKnownUptoCard : Claim7 := { stood := { row := totalKnownUptoRow, standIns := [], harness := (true, "992c9ce443feb52b651ebf14e25083a9bc834beef82eafed8c219e13d9549620"), looks := false }, kinds := [], alts := [], laidByText := true, laidKinds := [.data, .data], laidTests := true, laidLooks := .later }
def TotalKnownUptoCardSaid : Prop := Claim7.holds Tryz.pinned (.plain (OpenSpec.upto totalKnownSpec)) totalKnownUptoCard

/-- THE SECOND FORM's CARD OF 'vergelaw4.TotalPlays'. -/
def totalPlaysUptoCard : Claim7 := { stood := { row := totalPlaysUptoRow, standIns := [], harness := (true, "992c9ce443feb52b651ebf14e25083a9bc834beef82eafed8c219e13d9549620"), looks := false }, kinds := [], alts := [], laidByText := true, laidKinds := [.data, .data], laidTests := true, laidLooks := .later }
def TotalPlaysUptoCardSaid : Prop := Claim7.holds Tryz.pinned (.plain (OpenSpec.upto totalPlaysSpec)) totalPlaysUptoCard

/-- THE SECOND FORM's CARD OF 'vergelaw4.TotalOrder'. -/
def totalOrderUptoCard : Claim7 := { stood := { row := totalOrderUptoRow, standIns := [], harness := (true, "992c9ce443feb52b651ebf14e25083a9bc834beef82eafed8c219e13d9549620"), looks := false }, kinds := [], alts := [], laidByText := true, laidKinds := [.data, .data], laidTests := true, laidLooks := .later }
def TotalOrderUptoCardSaid : Prop := Claim7.holds Tryz.pinned (.plain (OpenSpec.upto totalOrderSpec)) totalOrderUptoCard

/-- THE SECOND FORM's CARD OF 'vergelaw4.TotalTight'. -/
def totalTightUptoCard : Claim7 := { stood := { row := totalTightUptoRow, standIns := [], harness := (true, "992c9ce443feb52b651ebf14e25083a9bc834beef82eafed8c219e13d9549620"), looks := false }, kinds := [], alts := [], laidByText := true, laidKinds := [.data, .data], laidTests := true, laidLooks := .later }
def TotalTightUptoCardSaid : Prop := Claim7.holds Tryz.pinned (.plain (OpenSpec.upto totalTightSpec)) totalTightUptoCard
end Rows
end Go.Proofs.YteedfmghgkmofaaGreatDoor
