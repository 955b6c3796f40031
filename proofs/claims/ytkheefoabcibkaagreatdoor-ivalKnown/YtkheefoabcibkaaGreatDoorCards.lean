/-
  DERIVED. GIVEN WITH THE SEED: THE CARDS: each row of YtkheefoabcibkaaGreatDoorRows.lean that lists a variable, with what it lists TIED to the program's text (the seventh form; the later family's looks); each row that meets fmt, with fmt's text TOLD by the authors' own Lean function (tested against real Go, not proved from fmt's source: count such statements apart). THE CARD IS WHAT COUNTS. Prove the row's statement (the work); the ties are given (YtkheefoabcibkaaGreatDoorTie.lean); close each card by the builder's one call (the guide's Derived/Test/ToyasCard.lean, 'card_holds'). Laid BY PROGRAM, IN A SANDBOX (cutbox-door.mjs). By AI agents, Wed Nov 11 2026. No macro, syntax, notation, axiom, sorry.
-/
import Derived.Test.YtkheefoabcibkaaGreatDoorRows
import GoSem.ClaimSeven
namespace Go.Proofs.YtkheefoabcibkaaGreatDoor
namespace Rows

/-- THE TIED CARD OF 'vergelaw6.IvalKnown'. -/
def ivalKnownCard : Claim7 := { stood := { row := ivalKnownRow, standIns := [], harness := (true, "68781678fb948e9ab79c8c97716d2400e075a3ecc597b4beec3da62acd420077"), looks := false }, kinds := [], alts := [], laidByText := true, laidKinds := [.data, .data], laidTests := true, laidLooks := .later }
def IvalKnownCardSaid : Prop := Claim7.holds Tryz.pinned (.plain (OpenSpec.ofChange ivalKnownSpec)) ivalKnownCard

/-- THE TIED CARD OF 'vergelaw6.IvalGrows'. -/
def ivalGrowsCard : Claim7 := { stood := { row := ivalGrowsRow, standIns := [], harness := (true, "68781678fb948e9ab79c8c97716d2400e075a3ecc597b4beec3da62acd420077"), looks := false }, kinds := [], alts := [], laidByText := true, laidKinds := [.data, .data], laidTests := true, laidLooks := .later }
def IvalGrowsCardSaid : Prop := Claim7.holds Tryz.pinned (.plain (OpenSpec.ofChange ivalGrowsSpec)) ivalGrowsCard

/-- THE TIED CARD OF 'vergelaw6.IvalTurns'. -/
def ivalTurnsCard : Claim7 := { stood := { row := ivalTurnsRow, standIns := [], harness := (true, "68781678fb948e9ab79c8c97716d2400e075a3ecc597b4beec3da62acd420077"), looks := false }, kinds := [], alts := [], laidByText := true, laidKinds := [.data, .data], laidTests := true, laidLooks := .later }
def IvalTurnsCardSaid : Prop := Claim7.holds Tryz.pinned (.plain (OpenSpec.ofChange ivalTurnsSpec)) ivalTurnsCard

/-- THE TIED CARD OF 'vergelaw6.IvalRereads'. -/
def ivalRereadsCard : Claim7 := { stood := { row := ivalRereadsRow, standIns := [], harness := (true, "68781678fb948e9ab79c8c97716d2400e075a3ecc597b4beec3da62acd420077"), looks := false }, kinds := [], alts := [], laidByText := true, laidKinds := [.data, .data], laidTests := true, laidLooks := .later }
def IvalRereadsCardSaid : Prop := Claim7.holds Tryz.pinned (.plain (OpenSpec.ofChange ivalRereadsSpec)) ivalRereadsCard

/-- THE SECOND FORM's CARD OF 'vergelaw6.IvalKnown'. -/
def ivalKnownUptoCard : Claim7 := { stood := { row := ivalKnownUptoRow, standIns := [], harness := (true, "68781678fb948e9ab79c8c97716d2400e075a3ecc597b4beec3da62acd420077"), looks := false }, kinds := [], alts := [], laidByText := true, laidKinds := [.data, .data], laidTests := true, laidLooks := .later }
def IvalKnownUptoCardSaid : Prop := Claim7.holds Tryz.pinned (.plain (OpenSpec.upto ivalKnownSpec)) ivalKnownUptoCard

/-- THE SECOND FORM's CARD OF 'vergelaw6.IvalGrows'. -/
def ivalGrowsUptoCard : Claim7 := { stood := { row := ivalGrowsUptoRow, standIns := [], harness := (true, "68781678fb948e9ab79c8c97716d2400e075a3ecc597b4beec3da62acd420077"), looks := false }, kinds := [], alts := [], laidByText := true, laidKinds := [.data, .data], laidTests := true, laidLooks := .later }
def IvalGrowsUptoCardSaid : Prop := Claim7.holds Tryz.pinned (.plain (OpenSpec.upto ivalGrowsSpec)) ivalGrowsUptoCard

/-- THE SECOND FORM's CARD OF 'vergelaw6.IvalTurns'. -/
def ivalTurnsUptoCard : Claim7 := { stood := { row := ivalTurnsUptoRow, standIns := [], harness := (true, "68781678fb948e9ab79c8c97716d2400e075a3ecc597b4beec3da62acd420077"), looks := false }, kinds := [], alts := [], laidByText := true, laidKinds := [.data, .data], laidTests := true, laidLooks := .later }
def IvalTurnsUptoCardSaid : Prop := Claim7.holds Tryz.pinned (.plain (OpenSpec.upto ivalTurnsSpec)) ivalTurnsUptoCard

/-- THE SECOND FORM's CARD OF 'vergelaw6.IvalRereads'. -/
def ivalRereadsUptoCard : Claim7 := { stood := { row := ivalRereadsUptoRow, standIns := [], harness := (true, "68781678fb948e9ab79c8c97716d2400e075a3ecc597b4beec3da62acd420077"), looks := false }, kinds := [], alts := [], laidByText := true, laidKinds := [.data, .data], laidTests := true, laidLooks := .later }
def IvalRereadsUptoCardSaid : Prop := Claim7.holds Tryz.pinned (.plain (OpenSpec.upto ivalRereadsSpec)) ivalRereadsUptoCard
end Rows
end Go.Proofs.YtkheefoabcibkaaGreatDoor
