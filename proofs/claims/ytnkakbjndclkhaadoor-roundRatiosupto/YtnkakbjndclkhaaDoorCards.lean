/-
  DERIVED. GIVEN WITH THE SEED: THE CARDS: each row of YtnkakbjndclkhaaDoorRows.lean that lists a variable, with what it lists TIED to the program's text (the seventh form; the later family's looks); each row that meets fmt, with fmt's text TOLD by the authors' own Lean function (tested against real Go, not proved from fmt's source: count such statements apart). THE CARD IS WHAT COUNTS. Prove the row's statement (the work); the ties are given (YtnkakbjndclkhaaDoorTie.lean); close each card by the builder's one call (the guide's Derived/Test/ToyasCard.lean, 'card_holds'). Laid BY PROGRAM, IN A SANDBOX (cutbox-door.mjs). By AI agents, Wed Nov 11 2026. No macro, syntax, notation, axiom, sorry.
-/
import Derived.Test.YtnkakbjndclkhaaDoorRows
import GoSem.ClaimSeven
namespace Go.Proofs.YtnkakbjndclkhaaDoor
namespace Rows

/-- THE TIED CARD OF 'vergelaw3.RoundOfs'. -/
def roundOfsCard : Claim7 := { stood := { row := roundOfsRow, standIns := [], harness := (true, "0b3bd896b5c21643d01f33afaaffd6435eeca2964429d70633e4cd39603281f9"), looks := false }, kinds := [], alts := [], laidByText := true, laidKinds := [.data, .data], laidTests := true, laidLooks := .later }
def RoundOfsCardSaid : Prop := Claim7.holds Tryd.pinned (.plain (OpenSpec.ofChange roundOfsSpec)) roundOfsCard

/-- THE TIED CARD OF 'vergelaw3.RoundRatios'. -/
def roundRatiosCard : Claim7 := { stood := { row := roundRatiosRow, standIns := [], harness := (true, "0b3bd896b5c21643d01f33afaaffd6435eeca2964429d70633e4cd39603281f9"), looks := false }, kinds := [], alts := [], laidByText := true, laidKinds := [.data], laidTests := true, laidLooks := .later }
def RoundRatiosCardSaid : Prop := Claim7.holds Tryd.pinned (.plain (OpenSpec.ofChange roundRatiosSpec)) roundRatiosCard

/-- THE TIED CARD OF 'vergelaw3.RoundNarrows'. -/
def roundNarrowsCard : Claim7 := { stood := { row := roundNarrowsRow, standIns := [], harness := (true, "0b3bd896b5c21643d01f33afaaffd6435eeca2964429d70633e4cd39603281f9"), looks := false }, kinds := [], alts := [], laidByText := true, laidKinds := [.data], laidTests := true, laidLooks := .later }
def RoundNarrowsCardSaid : Prop := Claim7.holds Tryd.pinned (.plain (OpenSpec.ofChange roundNarrowsSpec)) roundNarrowsCard

/-- THE SECOND FORM's CARD OF 'vergelaw3.RoundOfs'. -/
def roundOfsUptoCard : Claim7 := { stood := { row := roundOfsUptoRow, standIns := [], harness := (true, "0b3bd896b5c21643d01f33afaaffd6435eeca2964429d70633e4cd39603281f9"), looks := false }, kinds := [], alts := [], laidByText := true, laidKinds := [.data, .data], laidTests := true, laidLooks := .later }
def RoundOfsUptoCardSaid : Prop := Claim7.holds Tryd.pinned (.plain (OpenSpec.upto roundOfsSpec)) roundOfsUptoCard

/-- THE SECOND FORM's CARD OF 'vergelaw3.RoundRatios'. -/
def roundRatiosUptoCard : Claim7 := { stood := { row := roundRatiosUptoRow, standIns := [], harness := (true, "0b3bd896b5c21643d01f33afaaffd6435eeca2964429d70633e4cd39603281f9"), looks := false }, kinds := [], alts := [], laidByText := true, laidKinds := [.data], laidTests := true, laidLooks := .later }
def RoundRatiosUptoCardSaid : Prop := Claim7.holds Tryd.pinned (.plain (OpenSpec.upto roundRatiosSpec)) roundRatiosUptoCard

/-- THE SECOND FORM's CARD OF 'vergelaw3.RoundNarrows'. -/
def roundNarrowsUptoCard : Claim7 := { stood := { row := roundNarrowsUptoRow, standIns := [], harness := (true, "0b3bd896b5c21643d01f33afaaffd6435eeca2964429d70633e4cd39603281f9"), looks := false }, kinds := [], alts := [], laidByText := true, laidKinds := [.data], laidTests := true, laidLooks := .later }
def RoundNarrowsUptoCardSaid : Prop := Claim7.holds Tryd.pinned (.plain (OpenSpec.upto roundNarrowsSpec)) roundNarrowsUptoCard
end Rows
end Go.Proofs.YtnkakbjndclkhaaDoor
