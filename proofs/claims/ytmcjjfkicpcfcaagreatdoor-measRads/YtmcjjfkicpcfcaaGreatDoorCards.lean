/-
  DERIVED. GIVEN WITH THE SEED: THE CARDS: each row of YtmcjjfkicpcfcaaGreatDoorRows.lean that lists a variable, with what it lists TIED to the program's text (the seventh form; the later family's looks); each row that meets fmt, with fmt's text TOLD by the authors' own Lean function (tested against real Go, not proved from fmt's source: count such statements apart). THE CARD IS WHAT COUNTS. Prove the row's statement (the work); the ties are given (YtmcjjfkicpcfcaaGreatDoorTie.lean); close each card by the builder's one call (the guide's Derived/Test/ToyasCard.lean, 'card_holds'). Laid BY PROGRAM, IN A SANDBOX (cutbox-door.mjs). By AI agents, Wed Nov 11 2026. No macro, syntax, notation, axiom, sorry.
-/
import Derived.Test.YtmcjjfkicpcfcaaGreatDoorRows
import GoSem.ClaimSeven
namespace Go.Proofs.YtmcjjfkicpcfcaaGreatDoor
namespace Rows

/-- THE TIED CARD OF 'vergelaw8.MeasRads'. -/
def measRadsCard : Claim7 := { stood := { row := measRadsRow, standIns := [], harness := (true, "b77667c212bd5aef60655e93d78578a13bbba64c9b346cfaaefa863c173822e3"), looks := false }, kinds := [], alts := [], laidByText := true, laidKinds := [.data, .data], laidTests := true, laidLooks := .later }
def MeasRadsCardSaid : Prop := Claim7.holds Tryz.pinned (.plain (OpenSpec.ofChange measRadsSpec)) measRadsCard

/-- THE TIED CARD OF 'vergelaw8.MeasWids'. -/
def measWidsCard : Claim7 := { stood := { row := measWidsRow, standIns := [], harness := (true, "b77667c212bd5aef60655e93d78578a13bbba64c9b346cfaaefa863c173822e3"), looks := false }, kinds := [], alts := [], laidByText := true, laidKinds := [.data, .data], laidTests := true, laidLooks := .later }
def MeasWidsCardSaid : Prop := Claim7.holds Tryz.pinned (.plain (OpenSpec.ofChange measWidsSpec)) measWidsCard

/-- THE TIED CARD OF 'vergelaw8.MeasDists'. -/
def measDistsCard : Claim7 := { stood := { row := measDistsRow, standIns := [], harness := (true, "b77667c212bd5aef60655e93d78578a13bbba64c9b346cfaaefa863c173822e3"), looks := false }, kinds := [], alts := [], laidByText := true, laidKinds := [.data, .data], laidTests := true, laidLooks := .later }
def MeasDistsCardSaid : Prop := Claim7.holds Tryz.pinned (.plain (OpenSpec.ofChange measDistsSpec)) measDistsCard

/-- THE SECOND FORM's CARD OF 'vergelaw8.MeasRads'. -/
def measRadsUptoCard : Claim7 := { stood := { row := measRadsUptoRow, standIns := [], harness := (true, "b77667c212bd5aef60655e93d78578a13bbba64c9b346cfaaefa863c173822e3"), looks := false }, kinds := [], alts := [], laidByText := true, laidKinds := [.data, .data], laidTests := true, laidLooks := .later }
def MeasRadsUptoCardSaid : Prop := Claim7.holds Tryz.pinned (.plain (OpenSpec.upto measRadsSpec)) measRadsUptoCard

/-- THE SECOND FORM's CARD OF 'vergelaw8.MeasWids'. -/
def measWidsUptoCard : Claim7 := { stood := { row := measWidsUptoRow, standIns := [], harness := (true, "b77667c212bd5aef60655e93d78578a13bbba64c9b346cfaaefa863c173822e3"), looks := false }, kinds := [], alts := [], laidByText := true, laidKinds := [.data, .data], laidTests := true, laidLooks := .later }
def MeasWidsUptoCardSaid : Prop := Claim7.holds Tryz.pinned (.plain (OpenSpec.upto measWidsSpec)) measWidsUptoCard

/-- THE SECOND FORM's CARD OF 'vergelaw8.MeasDists'. -/
def measDistsUptoCard : Claim7 := { stood := { row := measDistsUptoRow, standIns := [], harness := (true, "b77667c212bd5aef60655e93d78578a13bbba64c9b346cfaaefa863c173822e3"), looks := false }, kinds := [], alts := [], laidByText := true, laidKinds := [.data, .data], laidTests := true, laidLooks := .later }
def MeasDistsUptoCardSaid : Prop := Claim7.holds Tryz.pinned (.plain (OpenSpec.upto measDistsSpec)) measDistsUptoCard
end Rows
end Go.Proofs.YtmcjjfkicpcfcaaGreatDoor
