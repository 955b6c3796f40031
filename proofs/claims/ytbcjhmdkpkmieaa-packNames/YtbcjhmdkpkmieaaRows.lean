/-
  No cell of these rows narrows 'for every input' (looked for: loops, veiled, ifaces, maps, wideKeys, modest, calm, conditions, laid).
  DERIVED. THE GIVEN ROWS OF THIS SEAT. 6 by the template 'for every input the law returns true; each argument reads behind the call as it read before'; 0 by the template 'total and deterministic' (their statements: YtbcjhmdkpkmieaaTotals.lean).
  GIVEN WITH THE SEED: the statements are not yours to turn. If you find one false, say at which input.
  Laid BY PROGRAM, IN A SANDBOX (cutbox-rows.mjs): the forced cells as the released guide's own fill.sh prints them over the translation 7ade4647f877c93a… (all of the seat's roots in one cut). By AI agents, Wed Nov 11 2026. No macro, syntax, notation, axiom, sorry.
-/
import Derived.Test.YtbcjhmdkpkmieaaChecked
import GoSem.Claim
import GoSem.ClaimJoined
import GoSem.ClaimMapViews
import Derived.JoinedTies
import Derived.KernelRfl
namespace Go.Proofs.Ytbcjhmdkpkmieaa
/- THE CELL 'sum', in the pinned program and in every row, IS THE sha256 OF THE DUMP (.gsa) THAT YtbcjhmdkpkmieaaProg.lean LOADS. Nothing in Lean hashes anything: it is a label: what it is worth is what the hold of that sum in a sandbox is worth. -/
noncomputable def Try.pinned : Pinned := { name := "ytbcjhmdkpkmieaa", sum := "7ade4647f877c93a9aa7b923aa56b669a99faba0a7c4cf012d32ffb8b2dc4f9d", checked := Try.checked }
namespace Rows
def none {H : Type} : Left H := { results := [], args := [] }

/-- 'vergelaw13.PackNames': WHATEVER THE INPUT: true; the input reads as it did. -/
def packNamesSpec : ChangeSpec := { name := "packNames", fn := fun _ => fun
  | [] => { results := [.lit (.bool true)], args := [] }
  | _ => none }
def packNamesRow : OpenClaim := { program := "ytbcjhmdkpkmieaa", sum := "7ade4647f877c93a9aa7b923aa56b669a99faba0a7c4cf012d32ffb8b2dc4f9d", func := "verge/vergelaw13.PackNames", spec := "packNames", inPlace := ["math.Float64frombits", "math.Float64bits"], apart := false }
def PackNamesSaid : Prop := packNamesRow.holds Try.pinned (OpenSpec.ofChange packNamesSpec)

/-- ITS FALSE NEIGHBOUR: 'it returns false'. Refute it at one input. -/
def packNamesWrong : ChangeSpec := { name := "packNames", fn := fun _ => fun
  | [] => { results := [.lit (.bool false)], args := [] }
  | _ => none }
def PackNamesWrongFalsely : Prop := packNamesRow.holds Try.pinned (OpenSpec.ofChange packNamesWrong)

/-- 'vergelaw13.PackPuts': WHATEVER THE INPUT: true; the input reads as it did. -/
def packPutsSpec : ChangeSpec := { name := "packPuts", fn := fun _ => fun
  | [d] => { results := [.lit (.bool true)], args := [d] }
  | _ => none }
def packPutsRow : OpenClaim := { program := "ytbcjhmdkpkmieaa", sum := "7ade4647f877c93a9aa7b923aa56b669a99faba0a7c4cf012d32ffb8b2dc4f9d", func := "verge/vergelaw13.PackPuts", spec := "packPuts", inPlace := ["math.Float64frombits", "math.Float64bits"], apart := false }
def PackPutsSaid : Prop := packPutsRow.holds Try.pinned (OpenSpec.ofChange packPutsSpec)

/-- ITS FALSE NEIGHBOUR: 'it returns false'. Refute it at one input. -/
def packPutsWrong : ChangeSpec := { name := "packPuts", fn := fun _ => fun
  | [d] => { results := [.lit (.bool false)], args := [d] }
  | _ => none }
def PackPutsWrongFalsely : Prop := packPutsRow.holds Try.pinned (OpenSpec.ofChange packPutsWrong)

/-- 'vergelaw13.PackDecos': WHATEVER THE INPUT: true; the input reads as it did. -/
def packDecosSpec : ChangeSpec := { name := "packDecos", fn := fun _ => fun
  | [d] => { results := [.lit (.bool true)], args := [d] }
  | _ => none }
def packDecosRow : OpenClaim := { program := "ytbcjhmdkpkmieaa", sum := "7ade4647f877c93a9aa7b923aa56b669a99faba0a7c4cf012d32ffb8b2dc4f9d", func := "verge/vergelaw13.PackDecos", spec := "packDecos", inPlace := ["math.Float64frombits", "math.Float64bits"], apart := false }
def PackDecosSaid : Prop := packDecosRow.holds Try.pinned (OpenSpec.ofChange packDecosSpec)

/-- ITS FALSE NEIGHBOUR: 'it returns false'. Refute it at one input. -/
def packDecosWrong : ChangeSpec := { name := "packDecos", fn := fun _ => fun
  | [d] => { results := [.lit (.bool false)], args := [d] }
  | _ => none }
def PackDecosWrongFalsely : Prop := packDecosRow.holds Try.pinned (OpenSpec.ofChange packDecosWrong)

/-- 'vergelaw13.PackGets': WHATEVER THE INPUT: true; the input reads as it did. -/
def packGetsSpec : ChangeSpec := { name := "packGets", fn := fun _ => fun
  | [d] => { results := [.lit (.bool true)], args := [d] }
  | _ => none }
def packGetsRow : OpenClaim := { program := "ytbcjhmdkpkmieaa", sum := "7ade4647f877c93a9aa7b923aa56b669a99faba0a7c4cf012d32ffb8b2dc4f9d", func := "verge/vergelaw13.PackGets", spec := "packGets", inPlace := ["math.Float64frombits", "math.Float64bits"], apart := false }
def PackGetsSaid : Prop := packGetsRow.holds Try.pinned (OpenSpec.ofChange packGetsSpec)

/-- ITS FALSE NEIGHBOUR: 'it returns false'. Refute it at one input. -/
def packGetsWrong : ChangeSpec := { name := "packGets", fn := fun _ => fun
  | [d] => { results := [.lit (.bool false)], args := [d] }
  | _ => none }
def PackGetsWrongFalsely : Prop := packGetsRow.holds Try.pinned (OpenSpec.ofChange packGetsWrong)

/-- 'vergelaw13.PackBoxes': WHATEVER THE INPUT: true; the input reads as it did. -/
def packBoxesSpec : ChangeSpec := { name := "packBoxes", fn := fun _ => fun
  | [d] => { results := [.lit (.bool true)], args := [d] }
  | _ => none }
def packBoxesRow : OpenClaim := { program := "ytbcjhmdkpkmieaa", sum := "7ade4647f877c93a9aa7b923aa56b669a99faba0a7c4cf012d32ffb8b2dc4f9d", func := "verge/vergelaw13.PackBoxes", spec := "packBoxes", inPlace := ["math.Float64frombits", "math.Float64bits"], apart := false }
def PackBoxesSaid : Prop := packBoxesRow.holds Try.pinned (OpenSpec.ofChange packBoxesSpec)

/-- ITS FALSE NEIGHBOUR: 'it returns false'. Refute it at one input. -/
def packBoxesWrong : ChangeSpec := { name := "packBoxes", fn := fun _ => fun
  | [d] => { results := [.lit (.bool false)], args := [d] }
  | _ => none }
def PackBoxesWrongFalsely : Prop := packBoxesRow.holds Try.pinned (OpenSpec.ofChange packBoxesWrong)

/-- 'vergelaw13.PackOpens': WHATEVER THE INPUT: true; the input reads as it did. -/
def packOpensSpec : ChangeSpec := { name := "packOpens", fn := fun _ => fun
  | [d] => { results := [.lit (.bool true)], args := [d] }
  | _ => none }
def packOpensRow : OpenClaim := { program := "ytbcjhmdkpkmieaa", sum := "7ade4647f877c93a9aa7b923aa56b669a99faba0a7c4cf012d32ffb8b2dc4f9d", func := "verge/vergelaw13.PackOpens", spec := "packOpens", inPlace := ["math.Float64frombits", "math.Float64bits"], apart := false }
def PackOpensSaid : Prop := packOpensRow.holds Try.pinned (OpenSpec.ofChange packOpensSpec)

/-- ITS FALSE NEIGHBOUR: 'it returns false'. Refute it at one input. -/
def packOpensWrong : ChangeSpec := { name := "packOpens", fn := fun _ => fun
  | [d] => { results := [.lit (.bool false)], args := [d] }
  | _ => none }
def PackOpensWrongFalsely : Prop := packOpensRow.holds Try.pinned (OpenSpec.ofChange packOpensWrong)

/- THE SECOND FORM. 'bulk': how many values and letters a reading holds, each counted each time it is reached (what is shared counts as often as it is met; a slice's spare places count too). A statement '..UptoSaid' is the law's where the arguments, and the package variables that the reading takes, are together of bulk at most 1048576: NARROWER than '..Said'. Prove '..Said' where nothing that the law and all that it calls make is longer than what came in: it says more and counts as full. Else prove '..UptoSaid'. A law counts once. -/
mutual
def uptoBulk {H : Type} : DataW H → Nat
  | .lit (.string bytes) => bytes.length + 1
  | .lit _ => 1
  | .nil => 1
  | .ptr d => uptoBulk d + 1
  | .slice elems spare => uptoBulkAll elems + uptoBulkAll spare + 1
  | .agg parts => uptoBulkAll parts + 1
  | .iface _ d => uptoBulk d + 1
  | .map entries => uptoBulkEntries entries + 1
  | .held _ => 1
def uptoBulkAll {H : Type} : List (DataW H) → Nat
  | [] => 0
  | d :: r => uptoBulk d + uptoBulkAll r
def uptoBulkEntries {H : Type} : List (Lit × DataW H) → Nat
  | [] => 0
  | x :: r => uptoBulkEntry x + uptoBulkEntries r
def uptoBulkEntry {H : Type} : Lit × DataW H → Nat
  | (.string bytes, d) => bytes.length + uptoBulk d + 1
  | (_, d) => uptoBulk d + 1
 end
def uptoSmall : (H : Type) → List (DataW H) → Bool := fun _ ds => decide (uptoBulkAll ds ≤ 1048576)
def OpenSpec.upto (s : _root_.Go.ChangeSpec) : _root_.Go.OpenSpec := { _root_.Go.OpenSpec.ofChange s with cond := some uptoSmall }

/-- 'vergelaw13.PackNames', WHERE WHAT IT READS IS OF BULK AT MOST 1048576: true; the input reads as it did. -/
def packNamesUptoRow : OpenClaim := { program := "ytbcjhmdkpkmieaa", sum := "7ade4647f877c93a9aa7b923aa56b669a99faba0a7c4cf012d32ffb8b2dc4f9d", func := "verge/vergelaw13.PackNames", spec := "packNames", inPlace := ["math.Float64frombits", "math.Float64bits"], apart := false, narrowed := true }
def PackNamesUptoSaid : Prop := packNamesUptoRow.holds Try.pinned (OpenSpec.upto packNamesSpec)

/-- 'vergelaw13.PackPuts', WHERE WHAT IT READS IS OF BULK AT MOST 1048576: true; the input reads as it did. -/
def packPutsUptoRow : OpenClaim := { program := "ytbcjhmdkpkmieaa", sum := "7ade4647f877c93a9aa7b923aa56b669a99faba0a7c4cf012d32ffb8b2dc4f9d", func := "verge/vergelaw13.PackPuts", spec := "packPuts", inPlace := ["math.Float64frombits", "math.Float64bits"], apart := false, narrowed := true }
def PackPutsUptoSaid : Prop := packPutsUptoRow.holds Try.pinned (OpenSpec.upto packPutsSpec)

/-- 'vergelaw13.PackDecos', WHERE WHAT IT READS IS OF BULK AT MOST 1048576: true; the input reads as it did. -/
def packDecosUptoRow : OpenClaim := { program := "ytbcjhmdkpkmieaa", sum := "7ade4647f877c93a9aa7b923aa56b669a99faba0a7c4cf012d32ffb8b2dc4f9d", func := "verge/vergelaw13.PackDecos", spec := "packDecos", inPlace := ["math.Float64frombits", "math.Float64bits"], apart := false, narrowed := true }
def PackDecosUptoSaid : Prop := packDecosUptoRow.holds Try.pinned (OpenSpec.upto packDecosSpec)

/-- 'vergelaw13.PackGets', WHERE WHAT IT READS IS OF BULK AT MOST 1048576: true; the input reads as it did. -/
def packGetsUptoRow : OpenClaim := { program := "ytbcjhmdkpkmieaa", sum := "7ade4647f877c93a9aa7b923aa56b669a99faba0a7c4cf012d32ffb8b2dc4f9d", func := "verge/vergelaw13.PackGets", spec := "packGets", inPlace := ["math.Float64frombits", "math.Float64bits"], apart := false, narrowed := true }
def PackGetsUptoSaid : Prop := packGetsUptoRow.holds Try.pinned (OpenSpec.upto packGetsSpec)

/-- 'vergelaw13.PackBoxes', WHERE WHAT IT READS IS OF BULK AT MOST 1048576: true; the input reads as it did. -/
def packBoxesUptoRow : OpenClaim := { program := "ytbcjhmdkpkmieaa", sum := "7ade4647f877c93a9aa7b923aa56b669a99faba0a7c4cf012d32ffb8b2dc4f9d", func := "verge/vergelaw13.PackBoxes", spec := "packBoxes", inPlace := ["math.Float64frombits", "math.Float64bits"], apart := false, narrowed := true }
def PackBoxesUptoSaid : Prop := packBoxesUptoRow.holds Try.pinned (OpenSpec.upto packBoxesSpec)

/-- 'vergelaw13.PackOpens', WHERE WHAT IT READS IS OF BULK AT MOST 1048576: true; the input reads as it did. -/
def packOpensUptoRow : OpenClaim := { program := "ytbcjhmdkpkmieaa", sum := "7ade4647f877c93a9aa7b923aa56b669a99faba0a7c4cf012d32ffb8b2dc4f9d", func := "verge/vergelaw13.PackOpens", spec := "packOpens", inPlace := ["math.Float64frombits", "math.Float64bits"], apart := false, narrowed := true }
def PackOpensUptoSaid : Prop := packOpensUptoRow.holds Try.pinned (OpenSpec.upto packOpensSpec)

end Rows
end Go.Proofs.Ytbcjhmdkpkmieaa
