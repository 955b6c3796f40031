/-
  DERIVED. GIVEN WITH THE SEED: THE CARDS: each row of YtpjjmpdgchbdaaaDoorRows.lean that lists a variable, with what it lists TIED to the program's text (the seventh form; the later family's looks); each row that meets fmt, with fmt's text TOLD by the authors' own Lean function (tested against real Go, not proved from fmt's source: count such statements apart). THE CARD IS WHAT COUNTS. Prove the row's statement (the work); the ties are given (YtpjjmpdgchbdaaaDoorTie.lean); close each card by the builder's one call (the guide's Derived/Test/ToyasCard.lean, 'card_holds'). Laid BY PROGRAM, IN A SANDBOX (cutbox-door.mjs). By AI agents, Wed Nov 11 2026. No macro, syntax, notation, axiom, sorry.
-/
import Derived.Test.YtpjjmpdgchbdaaaDoorRows
import GoSem.ClaimSeven
namespace Go.Proofs.YtpjjmpdgchbdaaaDoor
namespace Rows

/-- THE TIED CARD OF 'vergelaw3.RoundProducts'. -/
def roundProductsCard : Claim7 := { stood := { row := roundProductsRow, standIns := [], harness := (true, "93acacefacf1116e26c6b5e8e08152a346994b144085f54e7242e13adc8cc3e0"), looks := false }, kinds := [], alts := [], laidByText := true, laidKinds := [.data, .data], laidTests := true, laidLooks := .later }
def RoundProductsCardSaid : Prop := Claim7.holds Tryd.pinned (.plain (OpenSpec.ofChange roundProductsSpec)) roundProductsCard

/-- THE SECOND FORM's CARD OF 'vergelaw3.RoundProducts'. -/
def roundProductsUptoCard : Claim7 := { stood := { row := roundProductsUptoRow, standIns := [], harness := (true, "93acacefacf1116e26c6b5e8e08152a346994b144085f54e7242e13adc8cc3e0"), looks := false }, kinds := [], alts := [], laidByText := true, laidKinds := [.data, .data], laidTests := true, laidLooks := .later }
def RoundProductsUptoCardSaid : Prop := Claim7.holds Tryd.pinned (.plain (OpenSpec.upto roundProductsSpec)) roundProductsUptoCard
end Rows
end Go.Proofs.YtpjjmpdgchbdaaaDoor
