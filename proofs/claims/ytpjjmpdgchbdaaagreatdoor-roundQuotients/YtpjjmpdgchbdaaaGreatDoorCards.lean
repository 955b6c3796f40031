/-
  DERIVED. GIVEN WITH THE SEED: THE CARDS: each row of YtpjjmpdgchbdaaaGreatDoorRows.lean that lists a variable, with what it lists TIED to the program's text (the seventh form; the later family's looks); each row that meets fmt, with fmt's text TOLD by the authors' own Lean function (tested against real Go, not proved from fmt's source: count such statements apart). THE CARD IS WHAT COUNTS. Prove the row's statement (the work); the ties are given (YtpjjmpdgchbdaaaGreatDoorTie.lean); close each card by the builder's one call (the guide's Derived/Test/ToyasCard.lean, 'card_holds'). Laid BY PROGRAM, IN A SANDBOX (cutbox-door.mjs). By AI agents, Wed Nov 11 2026. No macro, syntax, notation, axiom, sorry.
-/
import Derived.Test.YtpjjmpdgchbdaaaGreatDoorRows
import GoSem.ClaimSeven
namespace Go.Proofs.YtpjjmpdgchbdaaaGreatDoor
namespace Rows

/-- THE TIED CARD OF 'vergelaw3.RoundQuotients'. -/
def roundQuotientsCard : Claim7 := { stood := { row := roundQuotientsRow, standIns := [], harness := (true, "801882d3501d7afd0d3f338407b9cc99df983360e728bba96b3f9d8dcdfbe179"), looks := false }, kinds := [], alts := [], laidByText := true, laidKinds := [.data], laidTests := true, laidLooks := .later }
def RoundQuotientsCardSaid : Prop := Claim7.holds Tryz.pinned (.plain (OpenSpec.ofChange roundQuotientsSpec)) roundQuotientsCard

/-- THE SECOND FORM's CARD OF 'vergelaw3.RoundQuotients'. -/
def roundQuotientsUptoCard : Claim7 := { stood := { row := roundQuotientsUptoRow, standIns := [], harness := (true, "801882d3501d7afd0d3f338407b9cc99df983360e728bba96b3f9d8dcdfbe179"), looks := false }, kinds := [], alts := [], laidByText := true, laidKinds := [.data], laidTests := true, laidLooks := .later }
def RoundQuotientsUptoCardSaid : Prop := Claim7.holds Tryz.pinned (.plain (OpenSpec.upto roundQuotientsSpec)) roundQuotientsUptoCard
end Rows
end Go.Proofs.YtpjjmpdgchbdaaaGreatDoor
