/-
  No cell of these rows narrows 'for every input' (looked for: loops, veiled, ifaces, maps, wideKeys, modest, calm, conditions, laid).
  DERIVED. THE GIVEN ROWS OF THIS SEAT. 4 by the template 'for every input the law returns true; each argument reads behind the call as it read before'; 0 by the template 'total and deterministic' (their statements: YtnjbheammpdjfaaTotals.lean).
  GIVEN WITH THE SEED: the statements are not yours to turn. If you find one false, say at which input.
  Laid BY PROGRAM, IN A SANDBOX (cutbox-rows.mjs): the forced cells as the released guide's own fill.sh prints them over the translation 85c0b7bdf0d1fb2f… (all of the seat's roots in one cut). By AI agents, Wed Nov 11 2026. No macro, syntax, notation, axiom, sorry.
-/
import Derived.Test.YtnjbheammpdjfaaChecked
import GoSem.Claim
import GoSem.ClaimJoined
import GoSem.ClaimMapViews
import Derived.JoinedTies
import Derived.KernelRfl
namespace Go.Proofs.Ytnjbheammpdjfaa
/- THE CELL 'sum', in the pinned program and in every row, IS THE sha256 OF THE DUMP (.gsa) THAT YtnjbheammpdjfaaProg.lean LOADS. Nothing in Lean hashes anything: it is a label: what it is worth is what the hold of that sum in a sandbox is worth. -/
noncomputable def Try.pinned : Pinned := { name := "ytnjbheammpdjfaa", sum := "85c0b7bdf0d1fb2f43cf5cb00932f88b73f7d2c85ed6a3cdf5f277843bc82788", checked := Try.checked }
namespace Rows
def none {H : Type} : Left H := { results := [], args := [] }

/-- 'vergelaw9.RelKnown': WHATEVER THE INPUT: true; the input reads as it did. -/
def relKnownSpec : ChangeSpec := { name := "relKnown", fn := fun _ => fun
  | [] => { results := [.lit (.bool true)], args := [] }
  | _ => none }
def relKnownRow : OpenClaim := { program := "ytnjbheammpdjfaa", sum := "85c0b7bdf0d1fb2f43cf5cb00932f88b73f7d2c85ed6a3cdf5f277843bc82788", func := "verge/vergelaw9.RelKnown", spec := "relKnown", inPlace := ["math.Float64frombits", "math.Float64bits", "math.Float32bits", "math.Float32frombits"], apart := false }
def RelKnownSaid : Prop := relKnownRow.holds Try.pinned (OpenSpec.ofChange relKnownSpec)

/-- ITS FALSE NEIGHBOUR: 'it returns false'. Refute it at one input. -/
def relKnownWrong : ChangeSpec := { name := "relKnown", fn := fun _ => fun
  | [] => { results := [.lit (.bool false)], args := [] }
  | _ => none }
def RelKnownWrongFalsely : Prop := relKnownRow.holds Try.pinned (OpenSpec.ofChange relKnownWrong)

/-- 'vergelaw9.RelHulls': WHATEVER THE INPUT: true; the input reads as it did. -/
def relHullsSpec : ChangeSpec := { name := "relHulls", fn := fun _ => fun
  | [d1, d2] => { results := [.lit (.bool true)], args := [d1, d2] }
  | _ => none }
def relHullsRow : OpenClaim := { program := "ytnjbheammpdjfaa", sum := "85c0b7bdf0d1fb2f43cf5cb00932f88b73f7d2c85ed6a3cdf5f277843bc82788", func := "verge/vergelaw9.RelHulls", spec := "relHulls", inPlace := ["math.Float64frombits", "math.Float64bits"], apart := false }
def RelHullsSaid : Prop := relHullsRow.holds Try.pinned (OpenSpec.ofChange relHullsSpec)

/-- ITS FALSE NEIGHBOUR: 'it returns false'. Refute it at one input. -/
def relHullsWrong : ChangeSpec := { name := "relHulls", fn := fun _ => fun
  | [d1, d2] => { results := [.lit (.bool false)], args := [d1, d2] }
  | _ => none }
def RelHullsWrongFalsely : Prop := relHullsRow.holds Try.pinned (OpenSpec.ofChange relHullsWrong)

/-- 'vergelaw9.RelHalves': WHATEVER THE INPUT: true; the input reads as it did. -/
def relHalvesSpec : ChangeSpec := { name := "relHalves", fn := fun _ => fun
  | [d] => { results := [.lit (.bool true)], args := [d] }
  | _ => none }
def relHalvesRow : OpenClaim := { program := "ytnjbheammpdjfaa", sum := "85c0b7bdf0d1fb2f43cf5cb00932f88b73f7d2c85ed6a3cdf5f277843bc82788", func := "verge/vergelaw9.RelHalves", spec := "relHalves", inPlace := ["math.Float64frombits", "math.Float64bits", "math.Float32bits", "math.Float32frombits"], apart := false }
def RelHalvesSaid : Prop := relHalvesRow.holds Try.pinned (OpenSpec.ofChange relHalvesSpec)

/-- ITS FALSE NEIGHBOUR: 'it returns false'. Refute it at one input. -/
def relHalvesWrong : ChangeSpec := { name := "relHalves", fn := fun _ => fun
  | [d] => { results := [.lit (.bool false)], args := [d] }
  | _ => none }
def RelHalvesWrongFalsely : Prop := relHalvesRow.holds Try.pinned (OpenSpec.ofChange relHalvesWrong)

/-- 'vergelaw9.RelCuts': WHATEVER THE INPUT: true; the input reads as it did. -/
def relCutsSpec : ChangeSpec := { name := "relCuts", fn := fun _ => fun
  | [d] => { results := [.lit (.bool true)], args := [d] }
  | _ => none }
def relCutsRow : OpenClaim := { program := "ytnjbheammpdjfaa", sum := "85c0b7bdf0d1fb2f43cf5cb00932f88b73f7d2c85ed6a3cdf5f277843bc82788", func := "verge/vergelaw9.RelCuts", spec := "relCuts", inPlace := ["math.Float64frombits", "math.Float64bits", "math.Float32bits", "math.Float32frombits"], apart := false }
def RelCutsSaid : Prop := relCutsRow.holds Try.pinned (OpenSpec.ofChange relCutsSpec)

/-- ITS FALSE NEIGHBOUR: 'it returns false'. Refute it at one input. -/
def relCutsWrong : ChangeSpec := { name := "relCuts", fn := fun _ => fun
  | [d] => { results := [.lit (.bool false)], args := [d] }
  | _ => none }
def RelCutsWrongFalsely : Prop := relCutsRow.holds Try.pinned (OpenSpec.ofChange relCutsWrong)

/- THE SECOND FORM. 'bulk': how many values and letters a reading holds, each counted each time it is reached (what is shared counts as often as it is met; a slice's spare places count too). A statement '..UptoSaid' is the law's where the arguments, and the package variables that the reading takes, are together of bulk at most 1048576: NARROWER than '..Said'. Prove '..Said' where nothing that the law and all that it calls make is longer than what came in: it says more and counts as full. Else prove '..UptoSaid'. A law counts once. -/
mutual
def uptoBulk {H : Type} : DataW H → Nat
  | .lit (.string bytes) => bytes.length + 1
  | .lit _ => 1
  | .nil => 1
  | .ptr d => uptoBulk d + 1
  | .slice elems spare => uptoBulkAll elems + uptoBulkAll spare + 1
  | .agg parts => uptoBulkAll parts + 1
  | .iface _ d => uptoBulk d + 1
  | .map entries => uptoBulkEntries entries + 1
  | .held _ => 1
def uptoBulkAll {H : Type} : List (DataW H) → Nat
  | [] => 0
  | d :: r => uptoBulk d + uptoBulkAll r
def uptoBulkEntries {H : Type} : List (Lit × DataW H) → Nat
  | [] => 0
  | x :: r => uptoBulkEntry x + uptoBulkEntries r
def uptoBulkEntry {H : Type} : Lit × DataW H → Nat
  | (.string bytes, d) => bytes.length + uptoBulk d + 1
  | (_, d) => uptoBulk d + 1
 end
def uptoSmall : (H : Type) → List (DataW H) → Bool := fun _ ds => decide (uptoBulkAll ds ≤ 1048576)
def OpenSpec.upto (s : _root_.Go.ChangeSpec) : _root_.Go.OpenSpec := { _root_.Go.OpenSpec.ofChange s with cond := some uptoSmall }

/-- 'vergelaw9.RelKnown', WHERE WHAT IT READS IS OF BULK AT MOST 1048576: true; the input reads as it did. -/
def relKnownUptoRow : OpenClaim := { program := "ytnjbheammpdjfaa", sum := "85c0b7bdf0d1fb2f43cf5cb00932f88b73f7d2c85ed6a3cdf5f277843bc82788", func := "verge/vergelaw9.RelKnown", spec := "relKnown", inPlace := ["math.Float64frombits", "math.Float64bits", "math.Float32bits", "math.Float32frombits"], apart := false, narrowed := true }
def RelKnownUptoSaid : Prop := relKnownUptoRow.holds Try.pinned (OpenSpec.upto relKnownSpec)

/-- 'vergelaw9.RelHulls', WHERE WHAT IT READS IS OF BULK AT MOST 1048576: true; the input reads as it did. -/
def relHullsUptoRow : OpenClaim := { program := "ytnjbheammpdjfaa", sum := "85c0b7bdf0d1fb2f43cf5cb00932f88b73f7d2c85ed6a3cdf5f277843bc82788", func := "verge/vergelaw9.RelHulls", spec := "relHulls", inPlace := ["math.Float64frombits", "math.Float64bits"], apart := false, narrowed := true }
def RelHullsUptoSaid : Prop := relHullsUptoRow.holds Try.pinned (OpenSpec.upto relHullsSpec)

/-- 'vergelaw9.RelHalves', WHERE WHAT IT READS IS OF BULK AT MOST 1048576: true; the input reads as it did. -/
def relHalvesUptoRow : OpenClaim := { program := "ytnjbheammpdjfaa", sum := "85c0b7bdf0d1fb2f43cf5cb00932f88b73f7d2c85ed6a3cdf5f277843bc82788", func := "verge/vergelaw9.RelHalves", spec := "relHalves", inPlace := ["math.Float64frombits", "math.Float64bits", "math.Float32bits", "math.Float32frombits"], apart := false, narrowed := true }
def RelHalvesUptoSaid : Prop := relHalvesUptoRow.holds Try.pinned (OpenSpec.upto relHalvesSpec)

/-- 'vergelaw9.RelCuts', WHERE WHAT IT READS IS OF BULK AT MOST 1048576: true; the input reads as it did. -/
def relCutsUptoRow : OpenClaim := { program := "ytnjbheammpdjfaa", sum := "85c0b7bdf0d1fb2f43cf5cb00932f88b73f7d2c85ed6a3cdf5f277843bc82788", func := "verge/vergelaw9.RelCuts", spec := "relCuts", inPlace := ["math.Float64frombits", "math.Float64bits", "math.Float32bits", "math.Float32frombits"], apart := false, narrowed := true }
def RelCutsUptoSaid : Prop := relCutsUptoRow.holds Try.pinned (OpenSpec.upto relCutsSpec)

end Rows
end Go.Proofs.Ytnjbheammpdjfaa
