/-
  DERIVED. GIVEN WITH THE SEED: THE CARDS: each row of YtngglmnhjjlgkaaGreatDoorRows.lean that lists a variable, with what it lists TIED to the program's text (the seventh form; the later family's looks); each row that meets fmt, with fmt's text TOLD by the authors' own Lean function (tested against real Go, not proved from fmt's source: count such statements apart). THE CARD IS WHAT COUNTS. Prove the row's statement (the work); the ties are given (YtngglmnhjjlgkaaGreatDoorTie.lean); close each card by the builder's one call (the guide's Derived/Test/ToyasCard.lean, 'card_holds'). Laid BY PROGRAM, IN A SANDBOX (cutbox-door.mjs). By AI agents, Wed Nov 11 2026. No macro, syntax, notation, axiom, sorry.
-/
import Derived.Test.YtngglmnhjjlgkaaGreatDoorRows
import GoSem.ClaimSeven
namespace Go.Proofs.YtngglmnhjjlgkaaGreatDoor
namespace Rows

/-- THE TIED CARD OF 'vergelaw6.IvalDivides'. -/
def ivalDividesCard : Claim7 := { stood := { row := ivalDividesRow, standIns := [], harness := (true, "bd2b7fef614ffa968d96bd7ba6783076fcdcfef149b03207b75abbb0ec4b67f1"), looks := false }, kinds := [], alts := [], laidByText := true, laidKinds := [.data], laidTests := true, laidLooks := .later }
def IvalDividesCardSaid : Prop := Claim7.holds Tryz.pinned (.plain (OpenSpec.ofChange ivalDividesSpec)) ivalDividesCard

/-- THE TIED CARD OF 'vergelaw6.IvalInverts'. -/
def ivalInvertsCard : Claim7 := { stood := { row := ivalInvertsRow, standIns := [], harness := (true, "bd2b7fef614ffa968d96bd7ba6783076fcdcfef149b03207b75abbb0ec4b67f1"), looks := false }, kinds := [], alts := [], laidByText := true, laidKinds := [.data], laidTests := true, laidLooks := .later }
def IvalInvertsCardSaid : Prop := Claim7.holds Tryz.pinned (.plain (OpenSpec.ofChange ivalInvertsSpec)) ivalInvertsCard

/-- THE TIED CARD OF 'vergelaw6.IvalFuses'. -/
def ivalFusesCard : Claim7 := { stood := { row := ivalFusesRow, standIns := [], harness := (true, "bd2b7fef614ffa968d96bd7ba6783076fcdcfef149b03207b75abbb0ec4b67f1"), looks := false }, kinds := [], alts := [], laidByText := true, laidKinds := [.data, .data], laidTests := true, laidLooks := .later }
def IvalFusesCardSaid : Prop := Claim7.holds Tryz.pinned (.plain (OpenSpec.ofChange ivalFusesSpec)) ivalFusesCard

/-- THE SECOND FORM's CARD OF 'vergelaw6.IvalDivides'. -/
def ivalDividesUptoCard : Claim7 := { stood := { row := ivalDividesUptoRow, standIns := [], harness := (true, "bd2b7fef614ffa968d96bd7ba6783076fcdcfef149b03207b75abbb0ec4b67f1"), looks := false }, kinds := [], alts := [], laidByText := true, laidKinds := [.data], laidTests := true, laidLooks := .later }
def IvalDividesUptoCardSaid : Prop := Claim7.holds Tryz.pinned (.plain (OpenSpec.upto ivalDividesSpec)) ivalDividesUptoCard

/-- THE SECOND FORM's CARD OF 'vergelaw6.IvalInverts'. -/
def ivalInvertsUptoCard : Claim7 := { stood := { row := ivalInvertsUptoRow, standIns := [], harness := (true, "bd2b7fef614ffa968d96bd7ba6783076fcdcfef149b03207b75abbb0ec4b67f1"), looks := false }, kinds := [], alts := [], laidByText := true, laidKinds := [.data], laidTests := true, laidLooks := .later }
def IvalInvertsUptoCardSaid : Prop := Claim7.holds Tryz.pinned (.plain (OpenSpec.upto ivalInvertsSpec)) ivalInvertsUptoCard

/-- THE SECOND FORM's CARD OF 'vergelaw6.IvalFuses'. -/
def ivalFusesUptoCard : Claim7 := { stood := { row := ivalFusesUptoRow, standIns := [], harness := (true, "bd2b7fef614ffa968d96bd7ba6783076fcdcfef149b03207b75abbb0ec4b67f1"), looks := false }, kinds := [], alts := [], laidByText := true, laidKinds := [.data, .data], laidTests := true, laidLooks := .later }
def IvalFusesUptoCardSaid : Prop := Claim7.holds Tryz.pinned (.plain (OpenSpec.upto ivalFusesSpec)) ivalFusesUptoCard
end Rows
end Go.Proofs.YtngglmnhjjlgkaaGreatDoor
