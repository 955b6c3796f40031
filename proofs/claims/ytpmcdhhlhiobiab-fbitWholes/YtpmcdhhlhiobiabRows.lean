/-
  No cell of these rows narrows 'for every input' (looked for: loops, veiled, ifaces, maps, wideKeys, modest, calm, conditions, laid).
  DERIVED. THE GIVEN ROWS OF THIS SEAT. 5 by the template 'for every input the law returns true; each argument reads behind the call as it read before'; 0 by the template 'total and deterministic' (their statements: YtpmcdhhlhiobiabTotals.lean).
  GIVEN WITH THE SEED: the statements are not yours to turn. If you find one false, say at which input.
  Laid BY PROGRAM, IN A SANDBOX (cutbox-rows.mjs): the forced cells as the released guide's own fill.sh prints them over the translation 3608bc47eebdcf97… (all of the seat's roots in one cut). By AI agents, Wed Nov 11 2026. No macro, syntax, notation, axiom, sorry.
-/
import Derived.Test.YtpmcdhhlhiobiabChecked
import GoSem.Claim
import GoSem.ClaimJoined
import GoSem.ClaimMapViews
import Derived.JoinedTies
import Derived.KernelRfl
namespace Go.Proofs.Ytpmcdhhlhiobiab
/- THE CELL 'sum', in the pinned program and in every row, IS THE sha256 OF THE DUMP (.gsa) THAT YtpmcdhhlhiobiabProg.lean LOADS. Nothing in Lean hashes anything: it is a label: what it is worth is what the hold of that sum in a sandbox is worth. -/
noncomputable def Try.pinned : Pinned := { name := "ytpmcdhhlhiobiab", sum := "3608bc47eebdcf97e1d22e69706ade338be4c8d595d21066085a3d6fe262bfd4", checked := Try.checked }
namespace Rows
def none {H : Type} : Left H := { results := [], args := [] }

/-- 'vergelaw1.FbitPlaces': WHATEVER THE INPUT: true; the input reads as it did. -/
def fbitPlacesSpec : ChangeSpec := { name := "fbitPlaces", fn := fun _ => fun
  | [d1, d2] => { results := [.lit (.bool true)], args := [d1, d2] }
  | _ => none }
def fbitPlacesRow : OpenClaim := { program := "ytpmcdhhlhiobiab", sum := "3608bc47eebdcf97e1d22e69706ade338be4c8d595d21066085a3d6fe262bfd4", func := "verge/vergelaw1.FbitPlaces", spec := "fbitPlaces", inPlace := ["math.Float64frombits", "math.Float64bits", "math.Float32bits", "math.Float32frombits"], apart := false }
def FbitPlacesSaid : Prop := fbitPlacesRow.holds Try.pinned (OpenSpec.ofChange fbitPlacesSpec)

/-- ITS FALSE NEIGHBOUR: 'it returns false'. Refute it at one input. -/
def fbitPlacesWrong : ChangeSpec := { name := "fbitPlaces", fn := fun _ => fun
  | [d1, d2] => { results := [.lit (.bool false)], args := [d1, d2] }
  | _ => none }
def FbitPlacesWrongFalsely : Prop := fbitPlacesRow.holds Try.pinned (OpenSpec.ofChange fbitPlacesWrong)

/-- 'vergelaw1.FbitAts': WHATEVER THE INPUT: true; the input reads as it did. -/
def fbitAtsSpec : ChangeSpec := { name := "fbitAts", fn := fun _ => fun
  | [d] => { results := [.lit (.bool true)], args := [d] }
  | _ => none }
def fbitAtsRow : OpenClaim := { program := "ytpmcdhhlhiobiab", sum := "3608bc47eebdcf97e1d22e69706ade338be4c8d595d21066085a3d6fe262bfd4", func := "verge/vergelaw1.FbitAts", spec := "fbitAts", inPlace := ["math.Float64frombits", "math.Float32frombits", "math.Float64bits", "math.Float32bits"], apart := false }
def FbitAtsSaid : Prop := fbitAtsRow.holds Try.pinned (OpenSpec.ofChange fbitAtsSpec)

/-- ITS FALSE NEIGHBOUR: 'it returns false'. Refute it at one input. -/
def fbitAtsWrong : ChangeSpec := { name := "fbitAts", fn := fun _ => fun
  | [d] => { results := [.lit (.bool false)], args := [d] }
  | _ => none }
def FbitAtsWrongFalsely : Prop := fbitAtsRow.holds Try.pinned (OpenSpec.ofChange fbitAtsWrong)

/-- 'vergelaw1.FbitSteps': WHATEVER THE INPUT: true; the input reads as it did. -/
def fbitStepsSpec : ChangeSpec := { name := "fbitSteps", fn := fun _ => fun
  | [d] => { results := [.lit (.bool true)], args := [d] }
  | _ => none }
def fbitStepsRow : OpenClaim := { program := "ytpmcdhhlhiobiab", sum := "3608bc47eebdcf97e1d22e69706ade338be4c8d595d21066085a3d6fe262bfd4", func := "verge/vergelaw1.FbitSteps", spec := "fbitSteps", inPlace := ["math.Float64frombits", "math.Float64bits", "math.Float32bits", "math.Float32frombits"], apart := false }
def FbitStepsSaid : Prop := fbitStepsRow.holds Try.pinned (OpenSpec.ofChange fbitStepsSpec)

/-- ITS FALSE NEIGHBOUR: 'it returns false'. Refute it at one input. -/
def fbitStepsWrong : ChangeSpec := { name := "fbitSteps", fn := fun _ => fun
  | [d] => { results := [.lit (.bool false)], args := [d] }
  | _ => none }
def FbitStepsWrongFalsely : Prop := fbitStepsRow.holds Try.pinned (OpenSpec.ofChange fbitStepsWrong)

/-- 'vergelaw1.FbitSplits': WHATEVER THE INPUT: true; the input reads as it did. -/
def fbitSplitsSpec : ChangeSpec := { name := "fbitSplits", fn := fun _ => fun
  | [d1, d2] => { results := [.lit (.bool true)], args := [d1, d2] }
  | _ => none }
def fbitSplitsRow : OpenClaim := { program := "ytpmcdhhlhiobiab", sum := "3608bc47eebdcf97e1d22e69706ade338be4c8d595d21066085a3d6fe262bfd4", func := "verge/vergelaw1.FbitSplits", spec := "fbitSplits", inPlace := ["math.Float64frombits", "math.Float64bits", "math.Float32bits", "math.Float32frombits"], apart := false }
def FbitSplitsSaid : Prop := fbitSplitsRow.holds Try.pinned (OpenSpec.ofChange fbitSplitsSpec)

/-- ITS FALSE NEIGHBOUR: 'it returns false'. Refute it at one input. -/
def fbitSplitsWrong : ChangeSpec := { name := "fbitSplits", fn := fun _ => fun
  | [d1, d2] => { results := [.lit (.bool false)], args := [d1, d2] }
  | _ => none }
def FbitSplitsWrongFalsely : Prop := fbitSplitsRow.holds Try.pinned (OpenSpec.ofChange fbitSplitsWrong)

/-- 'vergelaw1.FbitWholes': WHATEVER THE INPUT: true; the input reads as it did. -/
def fbitWholesSpec : ChangeSpec := { name := "fbitWholes", fn := fun _ => fun
  | [d1, d2] => { results := [.lit (.bool true)], args := [d1, d2] }
  | _ => none }
def fbitWholesRow : OpenClaim := { program := "ytpmcdhhlhiobiab", sum := "3608bc47eebdcf97e1d22e69706ade338be4c8d595d21066085a3d6fe262bfd4", func := "verge/vergelaw1.FbitWholes", spec := "fbitWholes", inPlace := ["math.Float64frombits", "math.Float32frombits"], apart := false }
def FbitWholesSaid : Prop := fbitWholesRow.holds Try.pinned (OpenSpec.ofChange fbitWholesSpec)

/-- ITS FALSE NEIGHBOUR: 'it returns false'. Refute it at one input. -/
def fbitWholesWrong : ChangeSpec := { name := "fbitWholes", fn := fun _ => fun
  | [d1, d2] => { results := [.lit (.bool false)], args := [d1, d2] }
  | _ => none }
def FbitWholesWrongFalsely : Prop := fbitWholesRow.holds Try.pinned (OpenSpec.ofChange fbitWholesWrong)

/- THE SECOND FORM. 'bulk': how many values and letters a reading holds, each counted each time it is reached (what is shared counts as often as it is met; a slice's spare places count too). A statement '..UptoSaid' is the law's where the arguments, and the package variables that the reading takes, are together of bulk at most 1048576: NARROWER than '..Said'. Prove '..Said' where nothing that the law and all that it calls make is longer than what came in: it says more and counts as full. Else prove '..UptoSaid'. A law counts once. -/
mutual
def uptoBulk {H : Type} : DataW H → Nat
  | .lit (.string bytes) => bytes.length + 1
  | .lit _ => 1
  | .nil => 1
  | .ptr d => uptoBulk d + 1
  | .slice elems spare => uptoBulkAll elems + uptoBulkAll spare + 1
  | .agg parts => uptoBulkAll parts + 1
  | .iface _ d => uptoBulk d + 1
  | .map entries => uptoBulkEntries entries + 1
  | .held _ => 1
def uptoBulkAll {H : Type} : List (DataW H) → Nat
  | [] => 0
  | d :: r => uptoBulk d + uptoBulkAll r
def uptoBulkEntries {H : Type} : List (Lit × DataW H) → Nat
  | [] => 0
  | x :: r => uptoBulkEntry x + uptoBulkEntries r
def uptoBulkEntry {H : Type} : Lit × DataW H → Nat
  | (.string bytes, d) => bytes.length + uptoBulk d + 1
  | (_, d) => uptoBulk d + 1
 end
def uptoSmall : (H : Type) → List (DataW H) → Bool := fun _ ds => decide (uptoBulkAll ds ≤ 1048576)
def OpenSpec.upto (s : _root_.Go.ChangeSpec) : _root_.Go.OpenSpec := { _root_.Go.OpenSpec.ofChange s with cond := some uptoSmall }

/-- 'vergelaw1.FbitPlaces', WHERE WHAT IT READS IS OF BULK AT MOST 1048576: true; the input reads as it did. -/
def fbitPlacesUptoRow : OpenClaim := { program := "ytpmcdhhlhiobiab", sum := "3608bc47eebdcf97e1d22e69706ade338be4c8d595d21066085a3d6fe262bfd4", func := "verge/vergelaw1.FbitPlaces", spec := "fbitPlaces", inPlace := ["math.Float64frombits", "math.Float64bits", "math.Float32bits", "math.Float32frombits"], apart := false, narrowed := true }
def FbitPlacesUptoSaid : Prop := fbitPlacesUptoRow.holds Try.pinned (OpenSpec.upto fbitPlacesSpec)

/-- 'vergelaw1.FbitAts', WHERE WHAT IT READS IS OF BULK AT MOST 1048576: true; the input reads as it did. -/
def fbitAtsUptoRow : OpenClaim := { program := "ytpmcdhhlhiobiab", sum := "3608bc47eebdcf97e1d22e69706ade338be4c8d595d21066085a3d6fe262bfd4", func := "verge/vergelaw1.FbitAts", spec := "fbitAts", inPlace := ["math.Float64frombits", "math.Float32frombits", "math.Float64bits", "math.Float32bits"], apart := false, narrowed := true }
def FbitAtsUptoSaid : Prop := fbitAtsUptoRow.holds Try.pinned (OpenSpec.upto fbitAtsSpec)

/-- 'vergelaw1.FbitSteps', WHERE WHAT IT READS IS OF BULK AT MOST 1048576: true; the input reads as it did. -/
def fbitStepsUptoRow : OpenClaim := { program := "ytpmcdhhlhiobiab", sum := "3608bc47eebdcf97e1d22e69706ade338be4c8d595d21066085a3d6fe262bfd4", func := "verge/vergelaw1.FbitSteps", spec := "fbitSteps", inPlace := ["math.Float64frombits", "math.Float64bits", "math.Float32bits", "math.Float32frombits"], apart := false, narrowed := true }
def FbitStepsUptoSaid : Prop := fbitStepsUptoRow.holds Try.pinned (OpenSpec.upto fbitStepsSpec)

/-- 'vergelaw1.FbitSplits', WHERE WHAT IT READS IS OF BULK AT MOST 1048576: true; the input reads as it did. -/
def fbitSplitsUptoRow : OpenClaim := { program := "ytpmcdhhlhiobiab", sum := "3608bc47eebdcf97e1d22e69706ade338be4c8d595d21066085a3d6fe262bfd4", func := "verge/vergelaw1.FbitSplits", spec := "fbitSplits", inPlace := ["math.Float64frombits", "math.Float64bits", "math.Float32bits", "math.Float32frombits"], apart := false, narrowed := true }
def FbitSplitsUptoSaid : Prop := fbitSplitsUptoRow.holds Try.pinned (OpenSpec.upto fbitSplitsSpec)

/-- 'vergelaw1.FbitWholes', WHERE WHAT IT READS IS OF BULK AT MOST 1048576: true; the input reads as it did. -/
def fbitWholesUptoRow : OpenClaim := { program := "ytpmcdhhlhiobiab", sum := "3608bc47eebdcf97e1d22e69706ade338be4c8d595d21066085a3d6fe262bfd4", func := "verge/vergelaw1.FbitWholes", spec := "fbitWholes", inPlace := ["math.Float64frombits", "math.Float32frombits"], apart := false, narrowed := true }
def FbitWholesUptoSaid : Prop := fbitWholesUptoRow.holds Try.pinned (OpenSpec.upto fbitWholesSpec)

end Rows
end Go.Proofs.Ytpmcdhhlhiobiab
