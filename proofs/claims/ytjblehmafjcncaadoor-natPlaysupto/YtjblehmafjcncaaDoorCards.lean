/-
  DERIVED. GIVEN WITH THE SEED: THE CARDS: each row of YtjblehmafjcncaaDoorRows.lean that lists a variable, with what it lists TIED to the program's text (the seventh form; the later family's looks); each row that meets fmt, with fmt's text TOLD by the authors' own Lean function (tested against real Go, not proved from fmt's source: count such statements apart). THE CARD IS WHAT COUNTS. Prove the row's statement (the work); the ties are given (YtjblehmafjcncaaDoorTie.lean); close each card by the builder's one call (the guide's Derived/Test/ToyasCard.lean, 'card_holds'). Laid BY PROGRAM, IN A SANDBOX (cutbox-door.mjs). By AI agents, Wed Nov 11 2026. No macro, syntax, notation, axiom, sorry.
-/
import Derived.Test.YtjblehmafjcncaaDoorRows
import GoSem.ClaimSeven
namespace Go.Proofs.YtjblehmafjcncaaDoor
namespace Rows

/-- THE TIED CARD OF 'vergelaw2.NatPlays'. -/
def natPlaysCard : Claim7 := { stood := { row := natPlaysRow, standIns := [], harness := (true, "54dc8f07385e36b31cd0bbaa6d9d203cf7e5eaef0152dae55311ca3b7d241b07"), looks := false }, kinds := [], alts := [], laidByText := true, laidKinds := [.data], laidTests := true, laidLooks := .later }
def NatPlaysCardSaid : Prop := Claim7.holds Tryd.pinned (.plain (OpenSpec.ofChange natPlaysSpec)) natPlaysCard

/-- THE SECOND FORM's CARD OF 'vergelaw2.NatPlays'. -/
def natPlaysUptoCard : Claim7 := { stood := { row := natPlaysUptoRow, standIns := [], harness := (true, "54dc8f07385e36b31cd0bbaa6d9d203cf7e5eaef0152dae55311ca3b7d241b07"), looks := false }, kinds := [], alts := [], laidByText := true, laidKinds := [.data], laidTests := true, laidLooks := .later }
def NatPlaysUptoCardSaid : Prop := Claim7.holds Tryd.pinned (.plain (OpenSpec.upto natPlaysSpec)) natPlaysUptoCard
end Rows
end Go.Proofs.YtjblehmafjcncaaDoor
