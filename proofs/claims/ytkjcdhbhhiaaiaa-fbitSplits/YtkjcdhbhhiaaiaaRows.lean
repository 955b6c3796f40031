/-
  No cell of these rows narrows 'for every input' (looked for: loops, veiled, ifaces, maps, wideKeys, modest, calm, conditions, laid).
  DERIVED. THE GIVEN ROWS OF THIS SEAT. 3 by the template 'for every input the law returns true; each argument reads behind the call as it read before'; 0 by the template 'total and deterministic' (their statements: YtkjcdhbhhiaaiaaTotals.lean).
  GIVEN WITH THE SEED: the statements are not yours to turn. If you find one false, say at which input.
  Laid BY PROGRAM, IN A SANDBOX (cutbox-rows.mjs): the forced cells as the released guide's own fill.sh prints them over the translation 219af38e23a023a2… (all of the seat's roots in one cut). By AI agents, Wed Nov 11 2026. No macro, syntax, notation, axiom, sorry.
-/
import Derived.Test.YtkjcdhbhhiaaiaaChecked
import GoSem.Claim
import GoSem.ClaimJoined
import GoSem.ClaimMapViews
import Derived.JoinedTies
import Derived.KernelRfl
namespace Go.Proofs.Ytkjcdhbhhiaaiaa
/- THE CELL 'sum', in the pinned program and in every row, IS THE sha256 OF THE DUMP (.gsa) THAT YtkjcdhbhhiaaiaaProg.lean LOADS. Nothing in Lean hashes anything: it is a label: what it is worth is what the hold of that sum in a sandbox is worth. -/
noncomputable def Try.pinned : Pinned := { name := "ytkjcdhbhhiaaiaa", sum := "219af38e23a023a25b7af1cf9bbccfcf1472063b75a01e9bd57a22828352ab6c", checked := Try.checked }
namespace Rows
def none {H : Type} : Left H := { results := [], args := [] }

/-- 'vergelaw1.FbitSplits': WHATEVER THE INPUT: true; the input reads as it did. -/
def fbitSplitsSpec : ChangeSpec := { name := "fbitSplits", fn := fun _ => fun
  | [d1, d2] => { results := [.lit (.bool true)], args := [d1, d2] }
  | _ => none }
def fbitSplitsRow : OpenClaim := { program := "ytkjcdhbhhiaaiaa", sum := "219af38e23a023a25b7af1cf9bbccfcf1472063b75a01e9bd57a22828352ab6c", func := "verge/vergelaw1.FbitSplits", spec := "fbitSplits", inPlace := ["math.Float64frombits", "math.Float64bits", "math.Float32bits", "math.Float32frombits"], apart := false }
def FbitSplitsSaid : Prop := fbitSplitsRow.holds Try.pinned (OpenSpec.ofChange fbitSplitsSpec)

/-- ITS FALSE NEIGHBOUR: 'it returns false'. Refute it at one input. -/
def fbitSplitsWrong : ChangeSpec := { name := "fbitSplits", fn := fun _ => fun
  | [d1, d2] => { results := [.lit (.bool false)], args := [d1, d2] }
  | _ => none }
def FbitSplitsWrongFalsely : Prop := fbitSplitsRow.holds Try.pinned (OpenSpec.ofChange fbitSplitsWrong)

/-- 'vergelaw1.FbitOfs': WHATEVER THE INPUT: true; the input reads as it did. -/
def fbitOfsSpec : ChangeSpec := { name := "fbitOfs", fn := fun _ => fun
  | [d] => { results := [.lit (.bool true)], args := [d] }
  | _ => none }
def fbitOfsRow : OpenClaim := { program := "ytkjcdhbhhiaaiaa", sum := "219af38e23a023a25b7af1cf9bbccfcf1472063b75a01e9bd57a22828352ab6c", func := "verge/vergelaw1.FbitOfs", spec := "fbitOfs", inPlace := ["math.Float64bits", "math.Float32bits"], apart := false }
def FbitOfsSaid : Prop := fbitOfsRow.holds Try.pinned (OpenSpec.ofChange fbitOfsSpec)

/-- ITS FALSE NEIGHBOUR: 'it returns false'. Refute it at one input. -/
def fbitOfsWrong : ChangeSpec := { name := "fbitOfs", fn := fun _ => fun
  | [d] => { results := [.lit (.bool false)], args := [d] }
  | _ => none }
def FbitOfsWrongFalsely : Prop := fbitOfsRow.holds Try.pinned (OpenSpec.ofChange fbitOfsWrong)

/-- 'vergelaw1.FbitNearest': WHATEVER THE INPUT: true; the input reads as it did. -/
def fbitNearestSpec : ChangeSpec := { name := "fbitNearest", fn := fun _ => fun
  | [d1, d2] => { results := [.lit (.bool true)], args := [d1, d2] }
  | _ => none }
def fbitNearestRow : OpenClaim := { program := "ytkjcdhbhhiaaiaa", sum := "219af38e23a023a25b7af1cf9bbccfcf1472063b75a01e9bd57a22828352ab6c", func := "verge/vergelaw1.FbitNearest", spec := "fbitNearest", inPlace := ["math.Float64bits", "math.Float32bits", "math.Float64frombits", "math.Float32frombits"], apart := false }
def FbitNearestSaid : Prop := fbitNearestRow.holds Try.pinned (OpenSpec.ofChange fbitNearestSpec)

/-- ITS FALSE NEIGHBOUR: 'it returns false'. Refute it at one input. -/
def fbitNearestWrong : ChangeSpec := { name := "fbitNearest", fn := fun _ => fun
  | [d1, d2] => { results := [.lit (.bool false)], args := [d1, d2] }
  | _ => none }
def FbitNearestWrongFalsely : Prop := fbitNearestRow.holds Try.pinned (OpenSpec.ofChange fbitNearestWrong)

/- THE SECOND FORM. 'bulk': how many values and letters a reading holds, each counted each time it is reached (what is shared counts as often as it is met; a slice's spare places count too). A statement '..UptoSaid' is the law's where the arguments, and the package variables that the reading takes, are together of bulk at most 1048576: NARROWER than '..Said'. Prove '..Said' where nothing that the law and all that it calls make is longer than what came in: it says more and counts as full. Else prove '..UptoSaid'. A law counts once. -/
mutual
def uptoBulk {H : Type} : DataW H → Nat
  | .lit (.string bytes) => bytes.length + 1
  | .lit _ => 1
  | .nil => 1
  | .ptr d => uptoBulk d + 1
  | .slice elems spare => uptoBulkAll elems + uptoBulkAll spare + 1
  | .agg parts => uptoBulkAll parts + 1
  | .iface _ d => uptoBulk d + 1
  | .map entries => uptoBulkEntries entries + 1
  | .held _ => 1
def uptoBulkAll {H : Type} : List (DataW H) → Nat
  | [] => 0
  | d :: r => uptoBulk d + uptoBulkAll r
def uptoBulkEntries {H : Type} : List (Lit × DataW H) → Nat
  | [] => 0
  | x :: r => uptoBulkEntry x + uptoBulkEntries r
def uptoBulkEntry {H : Type} : Lit × DataW H → Nat
  | (.string bytes, d) => bytes.length + uptoBulk d + 1
  | (_, d) => uptoBulk d + 1
 end
def uptoSmall : (H : Type) → List (DataW H) → Bool := fun _ ds => decide (uptoBulkAll ds ≤ 1048576)
def OpenSpec.upto (s : _root_.Go.ChangeSpec) : _root_.Go.OpenSpec := { _root_.Go.OpenSpec.ofChange s with cond := some uptoSmall }

/-- 'vergelaw1.FbitSplits', WHERE WHAT IT READS IS OF BULK AT MOST 1048576: true; the input reads as it did. -/
def fbitSplitsUptoRow : OpenClaim := { program := "ytkjcdhbhhiaaiaa", sum := "219af38e23a023a25b7af1cf9bbccfcf1472063b75a01e9bd57a22828352ab6c", func := "verge/vergelaw1.FbitSplits", spec := "fbitSplits", inPlace := ["math.Float64frombits", "math.Float64bits", "math.Float32bits", "math.Float32frombits"], apart := false, narrowed := true }
def FbitSplitsUptoSaid : Prop := fbitSplitsUptoRow.holds Try.pinned (OpenSpec.upto fbitSplitsSpec)

/-- 'vergelaw1.FbitOfs', WHERE WHAT IT READS IS OF BULK AT MOST 1048576: true; the input reads as it did. -/
def fbitOfsUptoRow : OpenClaim := { program := "ytkjcdhbhhiaaiaa", sum := "219af38e23a023a25b7af1cf9bbccfcf1472063b75a01e9bd57a22828352ab6c", func := "verge/vergelaw1.FbitOfs", spec := "fbitOfs", inPlace := ["math.Float64bits", "math.Float32bits"], apart := false, narrowed := true }
def FbitOfsUptoSaid : Prop := fbitOfsUptoRow.holds Try.pinned (OpenSpec.upto fbitOfsSpec)

/-- 'vergelaw1.FbitNearest', WHERE WHAT IT READS IS OF BULK AT MOST 1048576: true; the input reads as it did. -/
def fbitNearestUptoRow : OpenClaim := { program := "ytkjcdhbhhiaaiaa", sum := "219af38e23a023a25b7af1cf9bbccfcf1472063b75a01e9bd57a22828352ab6c", func := "verge/vergelaw1.FbitNearest", spec := "fbitNearest", inPlace := ["math.Float64bits", "math.Float32bits", "math.Float64frombits", "math.Float32frombits"], apart := false, narrowed := true }
def FbitNearestUptoSaid : Prop := fbitNearestUptoRow.holds Try.pinned (OpenSpec.upto fbitNearestSpec)

end Rows
end Go.Proofs.Ytkjcdhbhhiaaiaa
