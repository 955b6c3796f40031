/-
  No cell of these rows narrows 'for every input' (looked for: loops, veiled, ifaces, maps, wideKeys, modest, calm, conditions, laid).
  DERIVED. THE GIVEN ROWS OF THIS SEAT. 4 by the template 'for every input the law returns true; each argument reads behind the call as it read before'; 0 by the template 'total and deterministic' (their statements: YtponjofoenmbhaaTotals.lean).
  GIVEN WITH THE SEED: the statements are not yours to turn. If you find one false, say at which input.
  Laid BY PROGRAM, IN A SANDBOX (cutbox-rows.mjs): the forced cells as the released guide's own fill.sh prints them over the translation 56aab921899c1142… (all of the seat's roots in one cut). By AI agents, Wed Nov 11 2026. No macro, syntax, notation, axiom, sorry.
-/
import Derived.Test.YtponjofoenmbhaaChecked
import GoSem.Claim
import GoSem.ClaimJoined
import GoSem.ClaimMapViews
import Derived.JoinedTies
import Derived.KernelRfl
namespace Go.Proofs.Ytponjofoenmbhaa
/- THE CELL 'sum', in the pinned program and in every row, IS THE sha256 OF THE DUMP (.gsa) THAT YtponjofoenmbhaaProg.lean LOADS. Nothing in Lean hashes anything: it is a label: what it is worth is what the hold of that sum in a sandbox is worth. -/
noncomputable def Try.pinned : Pinned := { name := "ytponjofoenmbhaa", sum := "56aab921899c114225f9af7b8bd1077645a5d71fc9626f3452984c4857f3eccc", checked := Try.checked }
namespace Rows
def none {H : Type} : Left H := { results := [], args := [] }

/-- 'vergelaw9.RelMeets': WHATEVER THE INPUT: true; the input reads as it did. -/
def relMeetsSpec : ChangeSpec := { name := "relMeets", fn := fun _ => fun
  | [d1, d2] => { results := [.lit (.bool true)], args := [d1, d2] }
  | _ => none }
def relMeetsRow : OpenClaim := { program := "ytponjofoenmbhaa", sum := "56aab921899c114225f9af7b8bd1077645a5d71fc9626f3452984c4857f3eccc", func := "verge/vergelaw9.RelMeets", spec := "relMeets", inPlace := ["math.Float64frombits", "math.Float64bits"], apart := false }
def RelMeetsSaid : Prop := relMeetsRow.holds Try.pinned (OpenSpec.ofChange relMeetsSpec)

/-- ITS FALSE NEIGHBOUR: 'it returns false'. Refute it at one input. -/
def relMeetsWrong : ChangeSpec := { name := "relMeets", fn := fun _ => fun
  | [d1, d2] => { results := [.lit (.bool false)], args := [d1, d2] }
  | _ => none }
def RelMeetsWrongFalsely : Prop := relMeetsRow.holds Try.pinned (OpenSpec.ofChange relMeetsWrong)

/-- 'vergelaw9.RelLattice': WHATEVER THE INPUT: true; the input reads as it did. -/
def relLatticeSpec : ChangeSpec := { name := "relLattice", fn := fun _ => fun
  | [d1, d2, d3] => { results := [.lit (.bool true)], args := [d1, d2, d3] }
  | _ => none }
def relLatticeRow : OpenClaim := { program := "ytponjofoenmbhaa", sum := "56aab921899c114225f9af7b8bd1077645a5d71fc9626f3452984c4857f3eccc", func := "verge/vergelaw9.RelLattice", spec := "relLattice", inPlace := ["math.Float64frombits"], apart := false }
def RelLatticeSaid : Prop := relLatticeRow.holds Try.pinned (OpenSpec.ofChange relLatticeSpec)

/-- ITS FALSE NEIGHBOUR: 'it returns false'. Refute it at one input. -/
def relLatticeWrong : ChangeSpec := { name := "relLattice", fn := fun _ => fun
  | [d1, d2, d3] => { results := [.lit (.bool false)], args := [d1, d2, d3] }
  | _ => none }
def RelLatticeWrongFalsely : Prop := relLatticeRow.holds Try.pinned (OpenSpec.ofChange relLatticeWrong)

/-- 'vergelaw9.RelChains': WHATEVER THE INPUT: true; the input reads as it did. -/
def relChainsSpec : ChangeSpec := { name := "relChains", fn := fun _ => fun
  | [d1, d2, d3] => { results := [.lit (.bool true)], args := [d1, d2, d3] }
  | _ => none }
def relChainsRow : OpenClaim := { program := "ytponjofoenmbhaa", sum := "56aab921899c114225f9af7b8bd1077645a5d71fc9626f3452984c4857f3eccc", func := "verge/vergelaw9.RelChains", spec := "relChains", inPlace := ["math.Float64frombits"], apart := false }
def RelChainsSaid : Prop := relChainsRow.holds Try.pinned (OpenSpec.ofChange relChainsSpec)

/-- ITS FALSE NEIGHBOUR: 'it returns false'. Refute it at one input. -/
def relChainsWrong : ChangeSpec := { name := "relChains", fn := fun _ => fun
  | [d1, d2, d3] => { results := [.lit (.bool false)], args := [d1, d2, d3] }
  | _ => none }
def RelChainsWrongFalsely : Prop := relChainsRow.holds Try.pinned (OpenSpec.ofChange relChainsWrong)

/-- 'vergelaw9.RelAcross': WHATEVER THE INPUT: true; the input reads as it did. -/
def relAcrossSpec : ChangeSpec := { name := "relAcross", fn := fun _ => fun
  | [d1, d2] => { results := [.lit (.bool true)], args := [d1, d2] }
  | _ => none }
def relAcrossRow : OpenClaim := { program := "ytponjofoenmbhaa", sum := "56aab921899c114225f9af7b8bd1077645a5d71fc9626f3452984c4857f3eccc", func := "verge/vergelaw9.RelAcross", spec := "relAcross", inPlace := ["math.Float64frombits"], apart := false }
def RelAcrossSaid : Prop := relAcrossRow.holds Try.pinned (OpenSpec.ofChange relAcrossSpec)

/-- ITS FALSE NEIGHBOUR: 'it returns false'. Refute it at one input. -/
def relAcrossWrong : ChangeSpec := { name := "relAcross", fn := fun _ => fun
  | [d1, d2] => { results := [.lit (.bool false)], args := [d1, d2] }
  | _ => none }
def RelAcrossWrongFalsely : Prop := relAcrossRow.holds Try.pinned (OpenSpec.ofChange relAcrossWrong)

/- THE SECOND FORM. 'bulk': how many values and letters a reading holds, each counted each time it is reached (what is shared counts as often as it is met; a slice's spare places count too). A statement '..UptoSaid' is the law's where the arguments, and the package variables that the reading takes, are together of bulk at most 1048576: NARROWER than '..Said'. Prove '..Said' where nothing that the law and all that it calls make is longer than what came in: it says more and counts as full. Else prove '..UptoSaid'. A law counts once. -/
mutual
def uptoBulk {H : Type} : DataW H → Nat
  | .lit (.string bytes) => bytes.length + 1
  | .lit _ => 1
  | .nil => 1
  | .ptr d => uptoBulk d + 1
  | .slice elems spare => uptoBulkAll elems + uptoBulkAll spare + 1
  | .agg parts => uptoBulkAll parts + 1
  | .iface _ d => uptoBulk d + 1
  | .map entries => uptoBulkEntries entries + 1
  | .held _ => 1
def uptoBulkAll {H : Type} : List (DataW H) → Nat
  | [] => 0
  | d :: r => uptoBulk d + uptoBulkAll r
def uptoBulkEntries {H : Type} : List (Lit × DataW H) → Nat
  | [] => 0
  | x :: r => uptoBulkEntry x + uptoBulkEntries r
def uptoBulkEntry {H : Type} : Lit × DataW H → Nat
  | (.string bytes, d) => bytes.length + uptoBulk d + 1
  | (_, d) => uptoBulk d + 1
 end
def uptoSmall : (H : Type) → List (DataW H) → Bool := fun _ ds => decide (uptoBulkAll ds ≤ 1048576)
def OpenSpec.upto (s : _root_.Go.ChangeSpec) : _root_.Go.OpenSpec := { _root_.Go.OpenSpec.ofChange s with cond := some uptoSmall }

/-- 'vergelaw9.RelMeets', WHERE WHAT IT READS IS OF BULK AT MOST 1048576: true; the input reads as it did. -/
def relMeetsUptoRow : OpenClaim := { program := "ytponjofoenmbhaa", sum := "56aab921899c114225f9af7b8bd1077645a5d71fc9626f3452984c4857f3eccc", func := "verge/vergelaw9.RelMeets", spec := "relMeets", inPlace := ["math.Float64frombits", "math.Float64bits"], apart := false, narrowed := true }
def RelMeetsUptoSaid : Prop := relMeetsUptoRow.holds Try.pinned (OpenSpec.upto relMeetsSpec)

/-- 'vergelaw9.RelLattice', WHERE WHAT IT READS IS OF BULK AT MOST 1048576: true; the input reads as it did. -/
def relLatticeUptoRow : OpenClaim := { program := "ytponjofoenmbhaa", sum := "56aab921899c114225f9af7b8bd1077645a5d71fc9626f3452984c4857f3eccc", func := "verge/vergelaw9.RelLattice", spec := "relLattice", inPlace := ["math.Float64frombits"], apart := false, narrowed := true }
def RelLatticeUptoSaid : Prop := relLatticeUptoRow.holds Try.pinned (OpenSpec.upto relLatticeSpec)

/-- 'vergelaw9.RelChains', WHERE WHAT IT READS IS OF BULK AT MOST 1048576: true; the input reads as it did. -/
def relChainsUptoRow : OpenClaim := { program := "ytponjofoenmbhaa", sum := "56aab921899c114225f9af7b8bd1077645a5d71fc9626f3452984c4857f3eccc", func := "verge/vergelaw9.RelChains", spec := "relChains", inPlace := ["math.Float64frombits"], apart := false, narrowed := true }
def RelChainsUptoSaid : Prop := relChainsUptoRow.holds Try.pinned (OpenSpec.upto relChainsSpec)

/-- 'vergelaw9.RelAcross', WHERE WHAT IT READS IS OF BULK AT MOST 1048576: true; the input reads as it did. -/
def relAcrossUptoRow : OpenClaim := { program := "ytponjofoenmbhaa", sum := "56aab921899c114225f9af7b8bd1077645a5d71fc9626f3452984c4857f3eccc", func := "verge/vergelaw9.RelAcross", spec := "relAcross", inPlace := ["math.Float64frombits"], apart := false, narrowed := true }
def RelAcrossUptoSaid : Prop := relAcrossUptoRow.holds Try.pinned (OpenSpec.upto relAcrossSpec)

end Rows
end Go.Proofs.Ytponjofoenmbhaa
