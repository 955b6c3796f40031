/-
  No cell of these rows narrows 'for every input' (looked for: loops, veiled, ifaces, maps, wideKeys, modest, calm, conditions, laid).
  DERIVED. THE GIVEN ROWS OF THIS SEAT. 5 by the template 'for every input the law returns true; each argument reads behind the call as it read before'; 0 by the template 'total and deterministic' (their statements: YtcckdceijgdgoaaTotals.lean).
  GIVEN WITH THE SEED: the statements are not yours to turn. If you find one false, say at which input.
  Laid BY PROGRAM, IN A SANDBOX (cutbox-rows.mjs): the forced cells as the released guide's own fill.sh prints them over the translation 79faa7b84bbe20a0… (all of the seat's roots in one cut). By AI agents, Wed Nov 11 2026. No macro, syntax, notation, axiom, sorry.
-/
import Derived.Test.YtcckdceijgdgoaaChecked
import GoSem.Claim
import GoSem.ClaimJoined
import GoSem.ClaimMapViews
import Derived.JoinedTies
import Derived.KernelRfl
namespace Go.Proofs.Ytcckdceijgdgoaa
/- THE CELL 'sum', in the pinned program and in every row, IS THE sha256 OF THE DUMP (.gsa) THAT YtcckdceijgdgoaaProg.lean LOADS. Nothing in Lean hashes anything: it is a label: what it is worth is what the hold of that sum in a sandbox is worth. -/
noncomputable def Try.pinned : Pinned := { name := "ytcckdceijgdgoaa", sum := "79faa7b84bbe20a0d6b024afb5f321f15c34baf11a12233a61fb673165e84fe1", checked := Try.checked }
namespace Rows
def none {H : Type} : Left H := { results := [], args := [] }

/-- 'vergelaw13.PackBack': WHATEVER THE INPUT: true; the input reads as it did. -/
def packBackSpec : ChangeSpec := { name := "packBack", fn := fun _ => fun
  | [d1, d2] => { results := [.lit (.bool true)], args := [d1, d2] }
  | _ => none }
def packBackRow : OpenClaim := { program := "ytcckdceijgdgoaa", sum := "79faa7b84bbe20a0d6b024afb5f321f15c34baf11a12233a61fb673165e84fe1", func := "verge/vergelaw13.PackBack", spec := "packBack", inPlace := ["math.Float64frombits", "math.Float64bits"], apart := false }
def PackBackSaid : Prop := packBackRow.holds Try.pinned (OpenSpec.ofChange packBackSpec)

/-- ITS FALSE NEIGHBOUR: 'it returns false'. Refute it at one input. -/
def packBackWrong : ChangeSpec := { name := "packBack", fn := fun _ => fun
  | [d1, d2] => { results := [.lit (.bool false)], args := [d1, d2] }
  | _ => none }
def PackBackWrongFalsely : Prop := packBackRow.holds Try.pinned (OpenSpec.ofChange packBackWrong)

/-- 'vergelaw13.PackOnce': WHATEVER THE INPUT: true; the input reads as it did. -/
def packOnceSpec : ChangeSpec := { name := "packOnce", fn := fun _ => fun
  | [d1, d2] => { results := [.lit (.bool true)], args := [d1, d2] }
  | _ => none }
def packOnceRow : OpenClaim := { program := "ytcckdceijgdgoaa", sum := "79faa7b84bbe20a0d6b024afb5f321f15c34baf11a12233a61fb673165e84fe1", func := "verge/vergelaw13.PackOnce", spec := "packOnce", inPlace := ["math.Float64frombits", "math.Float64bits"], apart := false }
def PackOnceSaid : Prop := packOnceRow.holds Try.pinned (OpenSpec.ofChange packOnceSpec)

/-- ITS FALSE NEIGHBOUR: 'it returns false'. Refute it at one input. -/
def packOnceWrong : ChangeSpec := { name := "packOnce", fn := fun _ => fun
  | [d1, d2] => { results := [.lit (.bool false)], args := [d1, d2] }
  | _ => none }
def PackOnceWrongFalsely : Prop := packOnceRow.holds Try.pinned (OpenSpec.ofChange packOnceWrong)

/-- 'vergelaw13.PackApart': WHATEVER THE INPUT: true; the input reads as it did. -/
def packApartSpec : ChangeSpec := { name := "packApart", fn := fun _ => fun
  | [d1, d2] => { results := [.lit (.bool true)], args := [d1, d2] }
  | _ => none }
def packApartRow : OpenClaim := { program := "ytcckdceijgdgoaa", sum := "79faa7b84bbe20a0d6b024afb5f321f15c34baf11a12233a61fb673165e84fe1", func := "verge/vergelaw13.PackApart", spec := "packApart", inPlace := ["math.Float64frombits", "math.Float64bits"], apart := false }
def PackApartSaid : Prop := packApartRow.holds Try.pinned (OpenSpec.ofChange packApartSpec)

/-- ITS FALSE NEIGHBOUR: 'it returns false'. Refute it at one input. -/
def packApartWrong : ChangeSpec := { name := "packApart", fn := fun _ => fun
  | [d1, d2] => { results := [.lit (.bool false)], args := [d1, d2] }
  | _ => none }
def PackApartWrongFalsely : Prop := packApartRow.holds Try.pinned (OpenSpec.ofChange packApartWrong)

/-- 'vergelaw13.PackKept': WHATEVER THE INPUT: true; the input reads as it did. -/
def packKeptSpec : ChangeSpec := { name := "packKept", fn := fun _ => fun
  | [d] => { results := [.lit (.bool true)], args := [d] }
  | _ => none }
def packKeptRow : OpenClaim := { program := "ytcckdceijgdgoaa", sum := "79faa7b84bbe20a0d6b024afb5f321f15c34baf11a12233a61fb673165e84fe1", func := "verge/vergelaw13.PackKept", spec := "packKept", inPlace := ["math.Float64frombits", "math.Float64bits"], apart := false }
def PackKeptSaid : Prop := packKeptRow.holds Try.pinned (OpenSpec.ofChange packKeptSpec)

/-- ITS FALSE NEIGHBOUR: 'it returns false'. Refute it at one input. -/
def packKeptWrong : ChangeSpec := { name := "packKept", fn := fun _ => fun
  | [d] => { results := [.lit (.bool false)], args := [d] }
  | _ => none }
def PackKeptWrongFalsely : Prop := packKeptRow.holds Try.pinned (OpenSpec.ofChange packKeptWrong)

/-- 'vergelaw13.PackParts': WHATEVER THE INPUT: true; the input reads as it did. -/
def packPartsSpec : ChangeSpec := { name := "packParts", fn := fun _ => fun
  | [d] => { results := [.lit (.bool true)], args := [d] }
  | _ => none }
def packPartsRow : OpenClaim := { program := "ytcckdceijgdgoaa", sum := "79faa7b84bbe20a0d6b024afb5f321f15c34baf11a12233a61fb673165e84fe1", func := "verge/vergelaw13.PackParts", spec := "packParts", inPlace := ["math.Float64frombits", "math.Float64bits"], apart := false }
def PackPartsSaid : Prop := packPartsRow.holds Try.pinned (OpenSpec.ofChange packPartsSpec)

/-- ITS FALSE NEIGHBOUR: 'it returns false'. Refute it at one input. -/
def packPartsWrong : ChangeSpec := { name := "packParts", fn := fun _ => fun
  | [d] => { results := [.lit (.bool false)], args := [d] }
  | _ => none }
def PackPartsWrongFalsely : Prop := packPartsRow.holds Try.pinned (OpenSpec.ofChange packPartsWrong)

/- THE SECOND FORM. 'bulk': how many values and letters a reading holds, each counted each time it is reached (what is shared counts as often as it is met; a slice's spare places count too). A statement '..UptoSaid' is the law's where the arguments, and the package variables that the reading takes, are together of bulk at most 1048576: NARROWER than '..Said'. Prove '..Said' where nothing that the law and all that it calls make is longer than what came in: it says more and counts as full. Else prove '..UptoSaid'. A law counts once. -/
mutual
def uptoBulk {H : Type} : DataW H → Nat
  | .lit (.string bytes) => bytes.length + 1
  | .lit _ => 1
  | .nil => 1
  | .ptr d => uptoBulk d + 1
  | .slice elems spare => uptoBulkAll elems + uptoBulkAll spare + 1
  | .agg parts => uptoBulkAll parts + 1
  | .iface _ d => uptoBulk d + 1
  | .map entries => uptoBulkEntries entries + 1
  | .held _ => 1
def uptoBulkAll {H : Type} : List (DataW H) → Nat
  | [] => 0
  | d :: r => uptoBulk d + uptoBulkAll r
def uptoBulkEntries {H : Type} : List (Lit × DataW H) → Nat
  | [] => 0
  | x :: r => uptoBulkEntry x + uptoBulkEntries r
def uptoBulkEntry {H : Type} : Lit × DataW H → Nat
  | (.string bytes, d) => bytes.length + uptoBulk d + 1
  | (_, d) => uptoBulk d + 1
 end
def uptoSmall : (H : Type) → List (DataW H) → Bool := fun _ ds => decide (uptoBulkAll ds ≤ 1048576)
def OpenSpec.upto (s : _root_.Go.ChangeSpec) : _root_.Go.OpenSpec := { _root_.Go.OpenSpec.ofChange s with cond := some uptoSmall }

/-- 'vergelaw13.PackBack', WHERE WHAT IT READS IS OF BULK AT MOST 1048576: true; the input reads as it did. -/
def packBackUptoRow : OpenClaim := { program := "ytcckdceijgdgoaa", sum := "79faa7b84bbe20a0d6b024afb5f321f15c34baf11a12233a61fb673165e84fe1", func := "verge/vergelaw13.PackBack", spec := "packBack", inPlace := ["math.Float64frombits", "math.Float64bits"], apart := false, narrowed := true }
def PackBackUptoSaid : Prop := packBackUptoRow.holds Try.pinned (OpenSpec.upto packBackSpec)

/-- 'vergelaw13.PackOnce', WHERE WHAT IT READS IS OF BULK AT MOST 1048576: true; the input reads as it did. -/
def packOnceUptoRow : OpenClaim := { program := "ytcckdceijgdgoaa", sum := "79faa7b84bbe20a0d6b024afb5f321f15c34baf11a12233a61fb673165e84fe1", func := "verge/vergelaw13.PackOnce", spec := "packOnce", inPlace := ["math.Float64frombits", "math.Float64bits"], apart := false, narrowed := true }
def PackOnceUptoSaid : Prop := packOnceUptoRow.holds Try.pinned (OpenSpec.upto packOnceSpec)

/-- 'vergelaw13.PackApart', WHERE WHAT IT READS IS OF BULK AT MOST 1048576: true; the input reads as it did. -/
def packApartUptoRow : OpenClaim := { program := "ytcckdceijgdgoaa", sum := "79faa7b84bbe20a0d6b024afb5f321f15c34baf11a12233a61fb673165e84fe1", func := "verge/vergelaw13.PackApart", spec := "packApart", inPlace := ["math.Float64frombits", "math.Float64bits"], apart := false, narrowed := true }
def PackApartUptoSaid : Prop := packApartUptoRow.holds Try.pinned (OpenSpec.upto packApartSpec)

/-- 'vergelaw13.PackKept', WHERE WHAT IT READS IS OF BULK AT MOST 1048576: true; the input reads as it did. -/
def packKeptUptoRow : OpenClaim := { program := "ytcckdceijgdgoaa", sum := "79faa7b84bbe20a0d6b024afb5f321f15c34baf11a12233a61fb673165e84fe1", func := "verge/vergelaw13.PackKept", spec := "packKept", inPlace := ["math.Float64frombits", "math.Float64bits"], apart := false, narrowed := true }
def PackKeptUptoSaid : Prop := packKeptUptoRow.holds Try.pinned (OpenSpec.upto packKeptSpec)

/-- 'vergelaw13.PackParts', WHERE WHAT IT READS IS OF BULK AT MOST 1048576: true; the input reads as it did. -/
def packPartsUptoRow : OpenClaim := { program := "ytcckdceijgdgoaa", sum := "79faa7b84bbe20a0d6b024afb5f321f15c34baf11a12233a61fb673165e84fe1", func := "verge/vergelaw13.PackParts", spec := "packParts", inPlace := ["math.Float64frombits", "math.Float64bits"], apart := false, narrowed := true }
def PackPartsUptoSaid : Prop := packPartsUptoRow.holds Try.pinned (OpenSpec.upto packPartsSpec)

end Rows
end Go.Proofs.Ytcckdceijgdgoaa
