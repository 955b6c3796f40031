/-
  DERIVED. GIVEN WITH THE SEED: THE CARDS: each row of YtmpjcknaelgnoaaGreatDoorRows.lean that lists a variable, with what it lists TIED to the program's text (the seventh form; the later family's looks); each row that meets fmt, with fmt's text TOLD by the authors' own Lean function (tested against real Go, not proved from fmt's source: count such statements apart). THE CARD IS WHAT COUNTS. Prove the row's statement (the work); the ties are given (YtmpjcknaelgnoaaGreatDoorTie.lean); close each card by the builder's one call (the guide's Derived/Test/ToyasCard.lean, 'card_holds'). Laid BY PROGRAM, IN A SANDBOX (cutbox-door.mjs). By AI agents, Wed Nov 11 2026. No macro, syntax, notation, axiom, sorry.
-/
import Derived.Test.YtmpjcknaelgnoaaGreatDoorRows
import GoSem.ClaimSeven
namespace Go.Proofs.YtmpjcknaelgnoaaGreatDoor
namespace Rows

/-- THE TIED CARD OF 'vergelaw10.RevAdds'. -/
def revAddsCard : Claim7 := { stood := { row := revAddsRow, standIns := [], harness := (true, "7425b955099f036edbe868e7b30884f8f68571d0f29a649212f0b14e76a16770"), looks := false }, kinds := [], alts := [], laidByText := true, laidKinds := [.data, .data], laidTests := true, laidLooks := .later }
def RevAddsCardSaid : Prop := Claim7.holds Tryz.pinned (.plain (OpenSpec.ofChange revAddsSpec)) revAddsCard

/-- THE TIED CARD OF 'vergelaw10.RevMuls'. -/
def revMulsCard : Claim7 := { stood := { row := revMulsRow, standIns := [], harness := (true, "7425b955099f036edbe868e7b30884f8f68571d0f29a649212f0b14e76a16770"), looks := false }, kinds := [], alts := [], laidByText := true, laidKinds := [.data, .data], laidTests := true, laidLooks := .later }
def RevMulsCardSaid : Prop := Claim7.holds Tryz.pinned (.plain (OpenSpec.ofChange revMulsSpec)) revMulsCard

/-- THE TIED CARD OF 'vergelaw10.RevDivs'. -/
def revDivsCard : Claim7 := { stood := { row := revDivsRow, standIns := [], harness := (true, "7425b955099f036edbe868e7b30884f8f68571d0f29a649212f0b14e76a16770"), looks := false }, kinds := [], alts := [], laidByText := true, laidKinds := [.data, .data], laidTests := true, laidLooks := .later }
def RevDivsCardSaid : Prop := Claim7.holds Tryz.pinned (.plain (OpenSpec.ofChange revDivsSpec)) revDivsCard

/-- THE TIED CARD OF 'vergelaw10.RevFuses'. -/
def revFusesCard : Claim7 := { stood := { row := revFusesRow, standIns := [], harness := (true, "7425b955099f036edbe868e7b30884f8f68571d0f29a649212f0b14e76a16770"), looks := false }, kinds := [], alts := [], laidByText := true, laidKinds := [.data, .data], laidTests := true, laidLooks := .later }
def RevFusesCardSaid : Prop := Claim7.holds Tryz.pinned (.plain (OpenSpec.ofChange revFusesSpec)) revFusesCard

/-- THE TIED CARD OF 'vergelaw10.RevSteps'. -/
def revStepsCard : Claim7 := { stood := { row := revStepsRow, standIns := [], harness := (true, "7425b955099f036edbe868e7b30884f8f68571d0f29a649212f0b14e76a16770"), looks := false }, kinds := [], alts := [], laidByText := true, laidKinds := [.data, .data], laidTests := true, laidLooks := .later }
def RevStepsCardSaid : Prop := Claim7.holds Tryz.pinned (.plain (OpenSpec.ofChange revStepsSpec)) revStepsCard

/-- THE TIED CARD OF 'vergelaw10.RevPairs'. -/
def revPairsCard : Claim7 := { stood := { row := revPairsRow, standIns := [], harness := (true, "7425b955099f036edbe868e7b30884f8f68571d0f29a649212f0b14e76a16770"), looks := false }, kinds := [], alts := [], laidByText := true, laidKinds := [.data, .data], laidTests := true, laidLooks := .later }
def RevPairsCardSaid : Prop := Claim7.holds Tryz.pinned (.plain (OpenSpec.ofChange revPairsSpec)) revPairsCard

/-- THE SECOND FORM's CARD OF 'vergelaw10.RevAdds'. -/
def revAddsUptoCard : Claim7 := { stood := { row := revAddsUptoRow, standIns := [], harness := (true, "7425b955099f036edbe868e7b30884f8f68571d0f29a649212f0b14e76a16770"), looks := false }, kinds := [], alts := [], laidByText := true, laidKinds := [.data, .data], laidTests := true, laidLooks := .later }
def RevAddsUptoCardSaid : Prop := Claim7.holds Tryz.pinned (.plain (OpenSpec.upto revAddsSpec)) revAddsUptoCard

/-- THE SECOND FORM's CARD OF 'vergelaw10.RevMuls'. -/
def revMulsUptoCard : Claim7 := { stood := { row := revMulsUptoRow, standIns := [], harness := (true, "7425b955099f036edbe868e7b30884f8f68571d0f29a649212f0b14e76a16770"), looks := false }, kinds := [], alts := [], laidByText := true, laidKinds := [.data, .data], laidTests := true, laidLooks := .later }
def RevMulsUptoCardSaid : Prop := Claim7.holds Tryz.pinned (.plain (OpenSpec.upto revMulsSpec)) revMulsUptoCard

/-- THE SECOND FORM's CARD OF 'vergelaw10.RevDivs'. -/
def revDivsUptoCard : Claim7 := { stood := { row := revDivsUptoRow, standIns := [], harness := (true, "7425b955099f036edbe868e7b30884f8f68571d0f29a649212f0b14e76a16770"), looks := false }, kinds := [], alts := [], laidByText := true, laidKinds := [.data, .data], laidTests := true, laidLooks := .later }
def RevDivsUptoCardSaid : Prop := Claim7.holds Tryz.pinned (.plain (OpenSpec.upto revDivsSpec)) revDivsUptoCard

/-- THE SECOND FORM's CARD OF 'vergelaw10.RevFuses'. -/
def revFusesUptoCard : Claim7 := { stood := { row := revFusesUptoRow, standIns := [], harness := (true, "7425b955099f036edbe868e7b30884f8f68571d0f29a649212f0b14e76a16770"), looks := false }, kinds := [], alts := [], laidByText := true, laidKinds := [.data, .data], laidTests := true, laidLooks := .later }
def RevFusesUptoCardSaid : Prop := Claim7.holds Tryz.pinned (.plain (OpenSpec.upto revFusesSpec)) revFusesUptoCard

/-- THE SECOND FORM's CARD OF 'vergelaw10.RevSteps'. -/
def revStepsUptoCard : Claim7 := { stood := { row := revStepsUptoRow, standIns := [], harness := (true, "7425b955099f036edbe868e7b30884f8f68571d0f29a649212f0b14e76a16770"), looks := false }, kinds := [], alts := [], laidByText := true, laidKinds := [.data, .data], laidTests := true, laidLooks := .later }
def RevStepsUptoCardSaid : Prop := Claim7.holds Tryz.pinned (.plain (OpenSpec.upto revStepsSpec)) revStepsUptoCard

/-- THE SECOND FORM's CARD OF 'vergelaw10.RevPairs'. -/
def revPairsUptoCard : Claim7 := { stood := { row := revPairsUptoRow, standIns := [], harness := (true, "7425b955099f036edbe868e7b30884f8f68571d0f29a649212f0b14e76a16770"), looks := false }, kinds := [], alts := [], laidByText := true, laidKinds := [.data, .data], laidTests := true, laidLooks := .later }
def RevPairsUptoCardSaid : Prop := Claim7.holds Tryz.pinned (.plain (OpenSpec.upto revPairsSpec)) revPairsUptoCard
end Rows
end Go.Proofs.YtmpjcknaelgnoaaGreatDoor
