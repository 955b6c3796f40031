/-
  DERIVED. GIVEN WITH THE SEED: THE CARDS: each row of YtgiffpohngaonaaGreatDoorRows.lean that lists a variable, with what it lists TIED to the program's text (the seventh form; the later family's looks); each row that meets fmt, with fmt's text TOLD by the authors' own Lean function (tested against real Go, not proved from fmt's source: count such statements apart). THE CARD IS WHAT COUNTS. Prove the row's statement (the work); the ties are given (YtgiffpohngaonaaGreatDoorTie.lean); close each card by the builder's one call (the guide's Derived/Test/ToyasCard.lean, 'card_holds'). Laid BY PROGRAM, IN A SANDBOX (cutbox-door.mjs). By AI agents, Wed Nov 11 2026. No macro, syntax, notation, axiom, sorry.
-/
import Derived.Test.YtgiffpohngaonaaGreatDoorRows
import GoSem.ClaimSeven
namespace Go.Proofs.YtgiffpohngaonaaGreatDoor
namespace Rows

/-- THE TIED CARD OF 'vergelaw3.RoundMirrors'. -/
def roundMirrorsCard : Claim7 := { stood := { row := roundMirrorsRow, standIns := [], harness := (true, "994dc77a5fff0ce4703a669535731f843734fc635e4536d97b27f02f75ae24b0"), looks := false }, kinds := [], alts := [], laidByText := true, laidKinds := [.data, .data], laidTests := true, laidLooks := .later }
def RoundMirrorsCardSaid : Prop := Claim7.holds Tryz.pinned (.plain (OpenSpec.ofChange roundMirrorsSpec)) roundMirrorsCard

/-- THE SECOND FORM's CARD OF 'vergelaw3.RoundMirrors'. -/
def roundMirrorsUptoCard : Claim7 := { stood := { row := roundMirrorsUptoRow, standIns := [], harness := (true, "994dc77a5fff0ce4703a669535731f843734fc635e4536d97b27f02f75ae24b0"), looks := false }, kinds := [], alts := [], laidByText := true, laidKinds := [.data, .data], laidTests := true, laidLooks := .later }
def RoundMirrorsUptoCardSaid : Prop := Claim7.holds Tryz.pinned (.plain (OpenSpec.upto roundMirrorsSpec)) roundMirrorsUptoCard
end Rows
end Go.Proofs.YtgiffpohngaonaaGreatDoor
