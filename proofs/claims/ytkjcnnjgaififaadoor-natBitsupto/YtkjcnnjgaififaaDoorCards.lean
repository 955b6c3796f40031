/-
  DERIVED. GIVEN WITH THE SEED: THE CARDS: each row of YtkjcnnjgaififaaDoorRows.lean that lists a variable, with what it lists TIED to the program's text (the seventh form; the later family's looks); each row that meets fmt, with fmt's text TOLD by the authors' own Lean function (tested against real Go, not proved from fmt's source: count such statements apart). THE CARD IS WHAT COUNTS. Prove the row's statement (the work); the ties are given (YtkjcnnjgaififaaDoorTie.lean); close each card by the builder's one call (the guide's Derived/Test/ToyasCard.lean, 'card_holds'). Laid BY PROGRAM, IN A SANDBOX (cutbox-door.mjs). By AI agents, Wed Nov 11 2026. No macro, syntax, notation, axiom, sorry.
-/
import Derived.Test.YtkjcnnjgaififaaDoorRows
import GoSem.ClaimSeven
namespace Go.Proofs.YtkjcnnjgaififaaDoor
namespace Rows

/-- THE TIED CARD OF 'vergelaw2.NatKnown'. -/
def natKnownCard : Claim7 := { stood := { row := natKnownRow, standIns := [], harness := (true, "f23b50df794e429078abf5a66e41f366694adfef2358ec1f0945b28470b1f4ce"), looks := false }, kinds := [], alts := [], laidByText := true, laidKinds := [.data], laidTests := true, laidLooks := .later }
def NatKnownCardSaid : Prop := Claim7.holds Tryd.pinned (.plain (OpenSpec.ofChange natKnownSpec)) natKnownCard

/-- THE TIED CARD OF 'vergelaw2.NatQuotients'. -/
def natQuotientsCard : Claim7 := { stood := { row := natQuotientsRow, standIns := [], harness := (true, "f23b50df794e429078abf5a66e41f366694adfef2358ec1f0945b28470b1f4ce"), looks := false }, kinds := [], alts := [], laidByText := true, laidKinds := [.data], laidTests := true, laidLooks := .later }
def NatQuotientsCardSaid : Prop := Claim7.holds Tryd.pinned (.plain (OpenSpec.ofChange natQuotientsSpec)) natQuotientsCard

/-- THE TIED CARD OF 'vergelaw2.NatRoots'. -/
def natRootsCard : Claim7 := { stood := { row := natRootsRow, standIns := [], harness := (true, "f23b50df794e429078abf5a66e41f366694adfef2358ec1f0945b28470b1f4ce"), looks := false }, kinds := [], alts := [], laidByText := true, laidKinds := [.data], laidTests := true, laidLooks := .later }
def NatRootsCardSaid : Prop := Claim7.holds Tryd.pinned (.plain (OpenSpec.ofChange natRootsSpec)) natRootsCard

/-- THE TIED CARD OF 'vergelaw2.NatBits'. -/
def natBitsCard : Claim7 := { stood := { row := natBitsRow, standIns := [], harness := (true, "f23b50df794e429078abf5a66e41f366694adfef2358ec1f0945b28470b1f4ce"), looks := false }, kinds := [], alts := [], laidByText := true, laidKinds := [.data], laidTests := true, laidLooks := .later }
def NatBitsCardSaid : Prop := Claim7.holds Tryd.pinned (.plain (OpenSpec.ofChange natBitsSpec)) natBitsCard

/-- THE TIED CARD OF 'vergelaw2.NatThere'. -/
def natThereCard : Claim7 := { stood := { row := natThereRow, standIns := [], harness := (true, "f23b50df794e429078abf5a66e41f366694adfef2358ec1f0945b28470b1f4ce"), looks := false }, kinds := [], alts := [], laidByText := true, laidKinds := [.data], laidTests := true, laidLooks := .later }
def NatThereCardSaid : Prop := Claim7.holds Tryd.pinned (.plain (OpenSpec.ofChange natThereSpec)) natThereCard

/-- THE TIED CARD OF 'vergelaw2.NatPlays'. -/
def natPlaysCard : Claim7 := { stood := { row := natPlaysRow, standIns := [], harness := (true, "f23b50df794e429078abf5a66e41f366694adfef2358ec1f0945b28470b1f4ce"), looks := false }, kinds := [], alts := [], laidByText := true, laidKinds := [.data], laidTests := true, laidLooks := .later }
def NatPlaysCardSaid : Prop := Claim7.holds Tryd.pinned (.plain (OpenSpec.ofChange natPlaysSpec)) natPlaysCard

/-- THE SECOND FORM's CARD OF 'vergelaw2.NatKnown'. -/
def natKnownUptoCard : Claim7 := { stood := { row := natKnownUptoRow, standIns := [], harness := (true, "f23b50df794e429078abf5a66e41f366694adfef2358ec1f0945b28470b1f4ce"), looks := false }, kinds := [], alts := [], laidByText := true, laidKinds := [.data], laidTests := true, laidLooks := .later }
def NatKnownUptoCardSaid : Prop := Claim7.holds Tryd.pinned (.plain (OpenSpec.upto natKnownSpec)) natKnownUptoCard

/-- THE SECOND FORM's CARD OF 'vergelaw2.NatQuotients'. -/
def natQuotientsUptoCard : Claim7 := { stood := { row := natQuotientsUptoRow, standIns := [], harness := (true, "f23b50df794e429078abf5a66e41f366694adfef2358ec1f0945b28470b1f4ce"), looks := false }, kinds := [], alts := [], laidByText := true, laidKinds := [.data], laidTests := true, laidLooks := .later }
def NatQuotientsUptoCardSaid : Prop := Claim7.holds Tryd.pinned (.plain (OpenSpec.upto natQuotientsSpec)) natQuotientsUptoCard

/-- THE SECOND FORM's CARD OF 'vergelaw2.NatRoots'. -/
def natRootsUptoCard : Claim7 := { stood := { row := natRootsUptoRow, standIns := [], harness := (true, "f23b50df794e429078abf5a66e41f366694adfef2358ec1f0945b28470b1f4ce"), looks := false }, kinds := [], alts := [], laidByText := true, laidKinds := [.data], laidTests := true, laidLooks := .later }
def NatRootsUptoCardSaid : Prop := Claim7.holds Tryd.pinned (.plain (OpenSpec.upto natRootsSpec)) natRootsUptoCard

/-- THE SECOND FORM's CARD OF 'vergelaw2.NatBits'. -/
def natBitsUptoCard : Claim7 := { stood := { row := natBitsUptoRow, standIns := [], harness := (true, "f23b50df794e429078abf5a66e41f366694adfef2358ec1f0945b28470b1f4ce"), looks := false }, kinds := [], alts := [], laidByText := true, laidKinds := [.data], laidTests := true, laidLooks := .later }
def NatBitsUptoCardSaid : Prop := Claim7.holds Tryd.pinned (.plain (OpenSpec.upto natBitsSpec)) natBitsUptoCard

/-- THE SECOND FORM's CARD OF 'vergelaw2.NatThere'. -/
def natThereUptoCard : Claim7 := { stood := { row := natThereUptoRow, standIns := [], harness := (true, "f23b50df794e429078abf5a66e41f366694adfef2358ec1f0945b28470b1f4ce"), looks := false }, kinds := [], alts := [], laidByText := true, laidKinds := [.data], laidTests := true, laidLooks := .later }
def NatThereUptoCardSaid : Prop := Claim7.holds Tryd.pinned (.plain (OpenSpec.upto natThereSpec)) natThereUptoCard

/-- THE SECOND FORM's CARD OF 'vergelaw2.NatPlays'. -/
def natPlaysUptoCard : Claim7 := { stood := { row := natPlaysUptoRow, standIns := [], harness := (true, "f23b50df794e429078abf5a66e41f366694adfef2358ec1f0945b28470b1f4ce"), looks := false }, kinds := [], alts := [], laidByText := true, laidKinds := [.data], laidTests := true, laidLooks := .later }
def NatPlaysUptoCardSaid : Prop := Claim7.holds Tryd.pinned (.plain (OpenSpec.upto natPlaysSpec)) natPlaysUptoCard
end Rows
end Go.Proofs.YtkjcnnjgaififaaDoor
