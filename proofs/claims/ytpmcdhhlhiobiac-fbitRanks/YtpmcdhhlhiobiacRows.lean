/-
  No cell of these rows narrows 'for every input' (looked for: loops, veiled, ifaces, maps, wideKeys, modest, calm, conditions, laid).
  DERIVED. THE GIVEN ROWS OF THIS SEAT. 4 by the template 'for every input the law returns true; each argument reads behind the call as it read before'; 0 by the template 'total and deterministic' (their statements: YtpmcdhhlhiobiacTotals.lean).
  GIVEN WITH THE SEED: the statements are not yours to turn. If you find one false, say at which input.
  Laid BY PROGRAM, IN A SANDBOX (cutbox-rows.mjs): the forced cells as the released guide's own fill.sh prints them over the translation 631f16ddaad8fef1… (all of the seat's roots in one cut). By AI agents, Wed Nov 11 2026. No macro, syntax, notation, axiom, sorry.
-/
import Derived.Test.YtpmcdhhlhiobiacChecked
import GoSem.Claim
import GoSem.ClaimJoined
import GoSem.ClaimMapViews
import Derived.JoinedTies
import Derived.KernelRfl
namespace Go.Proofs.Ytpmcdhhlhiobiac
/- THE CELL 'sum', in the pinned program and in every row, IS THE sha256 OF THE DUMP (.gsa) THAT YtpmcdhhlhiobiacProg.lean LOADS. Nothing in Lean hashes anything: it is a label: what it is worth is what the hold of that sum in a sandbox is worth. -/
noncomputable def Try.pinned : Pinned := { name := "ytpmcdhhlhiobiac", sum := "631f16ddaad8fef19d9778f7803f29abe3c0c8937e383ff9ad40a769273edb32", checked := Try.checked }
namespace Rows
def none {H : Type} : Left H := { results := [], args := [] }

/-- 'vergelaw1.FbitOfs': WHATEVER THE INPUT: true; the input reads as it did. -/
def fbitOfsSpec : ChangeSpec := { name := "fbitOfs", fn := fun _ => fun
  | [d] => { results := [.lit (.bool true)], args := [d] }
  | _ => none }
def fbitOfsRow : OpenClaim := { program := "ytpmcdhhlhiobiac", sum := "631f16ddaad8fef19d9778f7803f29abe3c0c8937e383ff9ad40a769273edb32", func := "verge/vergelaw1.FbitOfs", spec := "fbitOfs", inPlace := ["math.Float64bits", "math.Float32bits"], apart := false }
def FbitOfsSaid : Prop := fbitOfsRow.holds Try.pinned (OpenSpec.ofChange fbitOfsSpec)

/-- ITS FALSE NEIGHBOUR: 'it returns false'. Refute it at one input. -/
def fbitOfsWrong : ChangeSpec := { name := "fbitOfs", fn := fun _ => fun
  | [d] => { results := [.lit (.bool false)], args := [d] }
  | _ => none }
def FbitOfsWrongFalsely : Prop := fbitOfsRow.holds Try.pinned (OpenSpec.ofChange fbitOfsWrong)

/-- 'vergelaw1.FbitNeighbours': WHATEVER THE INPUT: true; the input reads as it did. -/
def fbitNeighboursSpec : ChangeSpec := { name := "fbitNeighbours", fn := fun _ => fun
  | [d] => { results := [.lit (.bool true)], args := [d] }
  | _ => none }
def fbitNeighboursRow : OpenClaim := { program := "ytpmcdhhlhiobiac", sum := "631f16ddaad8fef19d9778f7803f29abe3c0c8937e383ff9ad40a769273edb32", func := "verge/vergelaw1.FbitNeighbours", spec := "fbitNeighbours", inPlace := ["math.Float64bits", "math.Float32bits", "math.Float64frombits", "math.Float32frombits"], apart := false }
def FbitNeighboursSaid : Prop := fbitNeighboursRow.holds Try.pinned (OpenSpec.ofChange fbitNeighboursSpec)

/-- ITS FALSE NEIGHBOUR: 'it returns false'. Refute it at one input. -/
def fbitNeighboursWrong : ChangeSpec := { name := "fbitNeighbours", fn := fun _ => fun
  | [d] => { results := [.lit (.bool false)], args := [d] }
  | _ => none }
def FbitNeighboursWrongFalsely : Prop := fbitNeighboursRow.holds Try.pinned (OpenSpec.ofChange fbitNeighboursWrong)

/-- 'vergelaw1.FbitCounts': WHATEVER THE INPUT: true; the input reads as it did. -/
def fbitCountsSpec : ChangeSpec := { name := "fbitCounts", fn := fun _ => fun
  | [d] => { results := [.lit (.bool true)], args := [d] }
  | _ => none }
def fbitCountsRow : OpenClaim := { program := "ytpmcdhhlhiobiac", sum := "631f16ddaad8fef19d9778f7803f29abe3c0c8937e383ff9ad40a769273edb32", func := "verge/vergelaw1.FbitCounts", spec := "fbitCounts", inPlace := ["math.Float64bits", "math.Float32bits", "math.Float64frombits", "math.Float32frombits"], apart := false }
def FbitCountsSaid : Prop := fbitCountsRow.holds Try.pinned (OpenSpec.ofChange fbitCountsSpec)

/-- ITS FALSE NEIGHBOUR: 'it returns false'. Refute it at one input. -/
def fbitCountsWrong : ChangeSpec := { name := "fbitCounts", fn := fun _ => fun
  | [d] => { results := [.lit (.bool false)], args := [d] }
  | _ => none }
def FbitCountsWrongFalsely : Prop := fbitCountsRow.holds Try.pinned (OpenSpec.ofChange fbitCountsWrong)

/-- 'vergelaw1.FbitRanks': WHATEVER THE INPUT: true; the input reads as it did. -/
def fbitRanksSpec : ChangeSpec := { name := "fbitRanks", fn := fun _ => fun
  | [d1, d2] => { results := [.lit (.bool true)], args := [d1, d2] }
  | _ => none }
def fbitRanksRow : OpenClaim := { program := "ytpmcdhhlhiobiac", sum := "631f16ddaad8fef19d9778f7803f29abe3c0c8937e383ff9ad40a769273edb32", func := "verge/vergelaw1.FbitRanks", spec := "fbitRanks", inPlace := ["math.Float64bits", "math.Float32bits", "math.Float64frombits", "math.Float32frombits"], apart := false }
def FbitRanksSaid : Prop := fbitRanksRow.holds Try.pinned (OpenSpec.ofChange fbitRanksSpec)

/-- ITS FALSE NEIGHBOUR: 'it returns false'. Refute it at one input. -/
def fbitRanksWrong : ChangeSpec := { name := "fbitRanks", fn := fun _ => fun
  | [d1, d2] => { results := [.lit (.bool false)], args := [d1, d2] }
  | _ => none }
def FbitRanksWrongFalsely : Prop := fbitRanksRow.holds Try.pinned (OpenSpec.ofChange fbitRanksWrong)

/- THE SECOND FORM. 'bulk': how many values and letters a reading holds, each counted each time it is reached (what is shared counts as often as it is met; a slice's spare places count too). A statement '..UptoSaid' is the law's where the arguments, and the package variables that the reading takes, are together of bulk at most 1048576: NARROWER than '..Said'. Prove '..Said' where nothing that the law and all that it calls make is longer than what came in: it says more and counts as full. Else prove '..UptoSaid'. A law counts once. -/
mutual
def uptoBulk {H : Type} : DataW H → Nat
  | .lit (.string bytes) => bytes.length + 1
  | .lit _ => 1
  | .nil => 1
  | .ptr d => uptoBulk d + 1
  | .slice elems spare => uptoBulkAll elems + uptoBulkAll spare + 1
  | .agg parts => uptoBulkAll parts + 1
  | .iface _ d => uptoBulk d + 1
  | .map entries => uptoBulkEntries entries + 1
  | .held _ => 1
def uptoBulkAll {H : Type} : List (DataW H) → Nat
  | [] => 0
  | d :: r => uptoBulk d + uptoBulkAll r
def uptoBulkEntries {H : Type} : List (Lit × DataW H) → Nat
  | [] => 0
  | x :: r => uptoBulkEntry x + uptoBulkEntries r
def uptoBulkEntry {H : Type} : Lit × DataW H → Nat
  | (.string bytes, d) => bytes.length + uptoBulk d + 1
  | (_, d) => uptoBulk d + 1
 end
def uptoSmall : (H : Type) → List (DataW H) → Bool := fun _ ds => decide (uptoBulkAll ds ≤ 1048576)
def OpenSpec.upto (s : _root_.Go.ChangeSpec) : _root_.Go.OpenSpec := { _root_.Go.OpenSpec.ofChange s with cond := some uptoSmall }

/-- 'vergelaw1.FbitOfs', WHERE WHAT IT READS IS OF BULK AT MOST 1048576: true; the input reads as it did. -/
def fbitOfsUptoRow : OpenClaim := { program := "ytpmcdhhlhiobiac", sum := "631f16ddaad8fef19d9778f7803f29abe3c0c8937e383ff9ad40a769273edb32", func := "verge/vergelaw1.FbitOfs", spec := "fbitOfs", inPlace := ["math.Float64bits", "math.Float32bits"], apart := false, narrowed := true }
def FbitOfsUptoSaid : Prop := fbitOfsUptoRow.holds Try.pinned (OpenSpec.upto fbitOfsSpec)

/-- 'vergelaw1.FbitNeighbours', WHERE WHAT IT READS IS OF BULK AT MOST 1048576: true; the input reads as it did. -/
def fbitNeighboursUptoRow : OpenClaim := { program := "ytpmcdhhlhiobiac", sum := "631f16ddaad8fef19d9778f7803f29abe3c0c8937e383ff9ad40a769273edb32", func := "verge/vergelaw1.FbitNeighbours", spec := "fbitNeighbours", inPlace := ["math.Float64bits", "math.Float32bits", "math.Float64frombits", "math.Float32frombits"], apart := false, narrowed := true }
def FbitNeighboursUptoSaid : Prop := fbitNeighboursUptoRow.holds Try.pinned (OpenSpec.upto fbitNeighboursSpec)

/-- 'vergelaw1.FbitCounts', WHERE WHAT IT READS IS OF BULK AT MOST 1048576: true; the input reads as it did. -/
def fbitCountsUptoRow : OpenClaim := { program := "ytpmcdhhlhiobiac", sum := "631f16ddaad8fef19d9778f7803f29abe3c0c8937e383ff9ad40a769273edb32", func := "verge/vergelaw1.FbitCounts", spec := "fbitCounts", inPlace := ["math.Float64bits", "math.Float32bits", "math.Float64frombits", "math.Float32frombits"], apart := false, narrowed := true }
def FbitCountsUptoSaid : Prop := fbitCountsUptoRow.holds Try.pinned (OpenSpec.upto fbitCountsSpec)

/-- 'vergelaw1.FbitRanks', WHERE WHAT IT READS IS OF BULK AT MOST 1048576: true; the input reads as it did. -/
def fbitRanksUptoRow : OpenClaim := { program := "ytpmcdhhlhiobiac", sum := "631f16ddaad8fef19d9778f7803f29abe3c0c8937e383ff9ad40a769273edb32", func := "verge/vergelaw1.FbitRanks", spec := "fbitRanks", inPlace := ["math.Float64bits", "math.Float32bits", "math.Float64frombits", "math.Float32frombits"], apart := false, narrowed := true }
def FbitRanksUptoSaid : Prop := fbitRanksUptoRow.holds Try.pinned (OpenSpec.upto fbitRanksSpec)

end Rows
end Go.Proofs.Ytpmcdhhlhiobiac
