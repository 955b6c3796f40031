/-
  No cell of these rows narrows 'for every input' (looked for: loops, veiled, ifaces, maps, wideKeys, modest, calm, conditions, laid).
  DERIVED. THE GIVEN ROWS OF THIS SEAT. 6 by the template 'for every input the law returns true; each argument reads behind the call as it read before'; 0 by the template 'total and deterministic' (their statements: YthajkngngdnidaaTotals.lean).
  GIVEN WITH THE SEED: the statements are not yours to turn. If you find one false, say at which input.
  Laid BY PROGRAM, IN A SANDBOX (cutbox-rows.mjs): the forced cells as the released guide's own fill.sh prints them over the translation 62d3b4688b22ac0e… (all of the seat's roots in one cut). By AI agents, Wed Nov 11 2026. No macro, syntax, notation, axiom, sorry.
-/
import Derived.Test.YthajkngngdnidaaChecked
import GoSem.Claim
import GoSem.ClaimJoined
import GoSem.ClaimMapViews
import Derived.JoinedTies
import Derived.KernelRfl
namespace Go.Proofs.Ythajkngngdnidaa
/- THE CELL 'sum', in the pinned program and in every row, IS THE sha256 OF THE DUMP (.gsa) THAT YthajkngngdnidaaProg.lean LOADS. Nothing in Lean hashes anything: it is a label: what it is worth is what the hold of that sum in a sandbox is worth. -/
noncomputable def Try.pinned : Pinned := { name := "ythajkngngdnidaa", sum := "62d3b4688b22ac0e37c284849dd5afb102501b08199d5153722c20de8eb42c77", checked := Try.checked }
namespace Rows
def none {H : Type} : Left H := { results := [], args := [] }

/-- 'vergelaw9.RelNames': WHATEVER THE INPUT: true; the input reads as it did. -/
def relNamesSpec : ChangeSpec := { name := "relNames", fn := fun _ => fun
  | [] => { results := [.lit (.bool true)], args := [] }
  | _ => none }
def relNamesRow : OpenClaim := { program := "ythajkngngdnidaa", sum := "62d3b4688b22ac0e37c284849dd5afb102501b08199d5153722c20de8eb42c77", func := "verge/vergelaw9.RelNames", spec := "relNames", inPlace := ["math.Float64frombits"], apart := false }
def RelNamesSaid : Prop := relNamesRow.holds Try.pinned (OpenSpec.ofChange relNamesSpec)

/-- ITS FALSE NEIGHBOUR: 'it returns false'. Refute it at one input. -/
def relNamesWrong : ChangeSpec := { name := "relNames", fn := fun _ => fun
  | [] => { results := [.lit (.bool false)], args := [] }
  | _ => none }
def RelNamesWrongFalsely : Prop := relNamesRow.holds Try.pinned (OpenSpec.ofChange relNamesWrong)

/-- 'vergelaw9.RelKinds': WHATEVER THE INPUT: true; the input reads as it did. -/
def relKindsSpec : ChangeSpec := { name := "relKinds", fn := fun _ => fun
  | [d] => { results := [.lit (.bool true)], args := [d] }
  | _ => none }
def relKindsRow : OpenClaim := { program := "ythajkngngdnidaa", sum := "62d3b4688b22ac0e37c284849dd5afb102501b08199d5153722c20de8eb42c77", func := "verge/vergelaw9.RelKinds", spec := "relKinds", inPlace := ["math.Float64frombits", "math.Float64bits"], apart := false }
def RelKindsSaid : Prop := relKindsRow.holds Try.pinned (OpenSpec.ofChange relKindsSpec)

/-- ITS FALSE NEIGHBOUR: 'it returns false'. Refute it at one input. -/
def relKindsWrong : ChangeSpec := { name := "relKinds", fn := fun _ => fun
  | [d] => { results := [.lit (.bool false)], args := [d] }
  | _ => none }
def RelKindsWrongFalsely : Prop := relKindsRow.holds Try.pinned (OpenSpec.ofChange relKindsWrong)

/-- 'vergelaw9.RelMembers': WHATEVER THE INPUT: true; the input reads as it did. -/
def relMembersSpec : ChangeSpec := { name := "relMembers", fn := fun _ => fun
  | [d1, d2] => { results := [.lit (.bool true)], args := [d1, d2] }
  | _ => none }
def relMembersRow : OpenClaim := { program := "ythajkngngdnidaa", sum := "62d3b4688b22ac0e37c284849dd5afb102501b08199d5153722c20de8eb42c77", func := "verge/vergelaw9.RelMembers", spec := "relMembers", inPlace := ["math.Float64frombits", "math.Float64bits"], apart := false }
def RelMembersSaid : Prop := relMembersRow.holds Try.pinned (OpenSpec.ofChange relMembersSpec)

/-- ITS FALSE NEIGHBOUR: 'it returns false'. Refute it at one input. -/
def relMembersWrong : ChangeSpec := { name := "relMembers", fn := fun _ => fun
  | [d1, d2] => { results := [.lit (.bool false)], args := [d1, d2] }
  | _ => none }
def RelMembersWrongFalsely : Prop := relMembersRow.holds Try.pinned (OpenSpec.ofChange relMembersWrong)

/-- 'vergelaw9.RelSets': WHATEVER THE INPUT: true; the input reads as it did. -/
def relSetsSpec : ChangeSpec := { name := "relSets", fn := fun _ => fun
  | [d1, d2] => { results := [.lit (.bool true)], args := [d1, d2] }
  | _ => none }
def relSetsRow : OpenClaim := { program := "ythajkngngdnidaa", sum := "62d3b4688b22ac0e37c284849dd5afb102501b08199d5153722c20de8eb42c77", func := "verge/vergelaw9.RelSets", spec := "relSets", inPlace := ["math.Float64frombits"], apart := false }
def RelSetsSaid : Prop := relSetsRow.holds Try.pinned (OpenSpec.ofChange relSetsSpec)

/-- ITS FALSE NEIGHBOUR: 'it returns false'. Refute it at one input. -/
def relSetsWrong : ChangeSpec := { name := "relSets", fn := fun _ => fun
  | [d1, d2] => { results := [.lit (.bool false)], args := [d1, d2] }
  | _ => none }
def RelSetsWrongFalsely : Prop := relSetsRow.holds Try.pinned (OpenSpec.ofChange relSetsWrong)

/-- 'vergelaw9.RelOrders': WHATEVER THE INPUT: true; the input reads as it did. -/
def relOrdersSpec : ChangeSpec := { name := "relOrders", fn := fun _ => fun
  | [d1, d2] => { results := [.lit (.bool true)], args := [d1, d2] }
  | _ => none }
def relOrdersRow : OpenClaim := { program := "ythajkngngdnidaa", sum := "62d3b4688b22ac0e37c284849dd5afb102501b08199d5153722c20de8eb42c77", func := "verge/vergelaw9.RelOrders", spec := "relOrders", inPlace := ["math.Float64frombits"], apart := false }
def RelOrdersSaid : Prop := relOrdersRow.holds Try.pinned (OpenSpec.ofChange relOrdersSpec)

/-- ITS FALSE NEIGHBOUR: 'it returns false'. Refute it at one input. -/
def relOrdersWrong : ChangeSpec := { name := "relOrders", fn := fun _ => fun
  | [d1, d2] => { results := [.lit (.bool false)], args := [d1, d2] }
  | _ => none }
def RelOrdersWrongFalsely : Prop := relOrdersRow.holds Try.pinned (OpenSpec.ofChange relOrdersWrong)

/-- 'vergelaw9.RelStates': WHATEVER THE INPUT: true; the input reads as it did. -/
def relStatesSpec : ChangeSpec := { name := "relStates", fn := fun _ => fun
  | [d1, d2] => { results := [.lit (.bool true)], args := [d1, d2] }
  | _ => none }
def relStatesRow : OpenClaim := { program := "ythajkngngdnidaa", sum := "62d3b4688b22ac0e37c284849dd5afb102501b08199d5153722c20de8eb42c77", func := "verge/vergelaw9.RelStates", spec := "relStates", inPlace := ["math.Float64frombits"], apart := false }
def RelStatesSaid : Prop := relStatesRow.holds Try.pinned (OpenSpec.ofChange relStatesSpec)

/-- ITS FALSE NEIGHBOUR: 'it returns false'. Refute it at one input. -/
def relStatesWrong : ChangeSpec := { name := "relStates", fn := fun _ => fun
  | [d1, d2] => { results := [.lit (.bool false)], args := [d1, d2] }
  | _ => none }
def RelStatesWrongFalsely : Prop := relStatesRow.holds Try.pinned (OpenSpec.ofChange relStatesWrong)

/- THE SECOND FORM. 'bulk': how many values and letters a reading holds, each counted each time it is reached (what is shared counts as often as it is met; a slice's spare places count too). A statement '..UptoSaid' is the law's where the arguments, and the package variables that the reading takes, are together of bulk at most 1048576: NARROWER than '..Said'. Prove '..Said' where nothing that the law and all that it calls make is longer than what came in: it says more and counts as full. Else prove '..UptoSaid'. A law counts once. -/
mutual
def uptoBulk {H : Type} : DataW H → Nat
  | .lit (.string bytes) => bytes.length + 1
  | .lit _ => 1
  | .nil => 1
  | .ptr d => uptoBulk d + 1
  | .slice elems spare => uptoBulkAll elems + uptoBulkAll spare + 1
  | .agg parts => uptoBulkAll parts + 1
  | .iface _ d => uptoBulk d + 1
  | .map entries => uptoBulkEntries entries + 1
  | .held _ => 1
def uptoBulkAll {H : Type} : List (DataW H) → Nat
  | [] => 0
  | d :: r => uptoBulk d + uptoBulkAll r
def uptoBulkEntries {H : Type} : List (Lit × DataW H) → Nat
  | [] => 0
  | x :: r => uptoBulkEntry x + uptoBulkEntries r
def uptoBulkEntry {H : Type} : Lit × DataW H → Nat
  | (.string bytes, d) => bytes.length + uptoBulk d + 1
  | (_, d) => uptoBulk d + 1
 end
def uptoSmall : (H : Type) → List (DataW H) → Bool := fun _ ds => decide (uptoBulkAll ds ≤ 1048576)
def OpenSpec.upto (s : _root_.Go.ChangeSpec) : _root_.Go.OpenSpec := { _root_.Go.OpenSpec.ofChange s with cond := some uptoSmall }

/-- 'vergelaw9.RelNames', WHERE WHAT IT READS IS OF BULK AT MOST 1048576: true; the input reads as it did. -/
def relNamesUptoRow : OpenClaim := { program := "ythajkngngdnidaa", sum := "62d3b4688b22ac0e37c284849dd5afb102501b08199d5153722c20de8eb42c77", func := "verge/vergelaw9.RelNames", spec := "relNames", inPlace := ["math.Float64frombits"], apart := false, narrowed := true }
def RelNamesUptoSaid : Prop := relNamesUptoRow.holds Try.pinned (OpenSpec.upto relNamesSpec)

/-- 'vergelaw9.RelKinds', WHERE WHAT IT READS IS OF BULK AT MOST 1048576: true; the input reads as it did. -/
def relKindsUptoRow : OpenClaim := { program := "ythajkngngdnidaa", sum := "62d3b4688b22ac0e37c284849dd5afb102501b08199d5153722c20de8eb42c77", func := "verge/vergelaw9.RelKinds", spec := "relKinds", inPlace := ["math.Float64frombits", "math.Float64bits"], apart := false, narrowed := true }
def RelKindsUptoSaid : Prop := relKindsUptoRow.holds Try.pinned (OpenSpec.upto relKindsSpec)

/-- 'vergelaw9.RelMembers', WHERE WHAT IT READS IS OF BULK AT MOST 1048576: true; the input reads as it did. -/
def relMembersUptoRow : OpenClaim := { program := "ythajkngngdnidaa", sum := "62d3b4688b22ac0e37c284849dd5afb102501b08199d5153722c20de8eb42c77", func := "verge/vergelaw9.RelMembers", spec := "relMembers", inPlace := ["math.Float64frombits", "math.Float64bits"], apart := false, narrowed := true }
def RelMembersUptoSaid : Prop := relMembersUptoRow.holds Try.pinned (OpenSpec.upto relMembersSpec)

/-- 'vergelaw9.RelSets', WHERE WHAT IT READS IS OF BULK AT MOST 1048576: true; the input reads as it did. -/
def relSetsUptoRow : OpenClaim := { program := "ythajkngngdnidaa", sum := "62d3b4688b22ac0e37c284849dd5afb102501b08199d5153722c20de8eb42c77", func := "verge/vergelaw9.RelSets", spec := "relSets", inPlace := ["math.Float64frombits"], apart := false, narrowed := true }
def RelSetsUptoSaid : Prop := relSetsUptoRow.holds Try.pinned (OpenSpec.upto relSetsSpec)

/-- 'vergelaw9.RelOrders', WHERE WHAT IT READS IS OF BULK AT MOST 1048576: true; the input reads as it did. -/
def relOrdersUptoRow : OpenClaim := { program := "ythajkngngdnidaa", sum := "62d3b4688b22ac0e37c284849dd5afb102501b08199d5153722c20de8eb42c77", func := "verge/vergelaw9.RelOrders", spec := "relOrders", inPlace := ["math.Float64frombits"], apart := false, narrowed := true }
def RelOrdersUptoSaid : Prop := relOrdersUptoRow.holds Try.pinned (OpenSpec.upto relOrdersSpec)

/-- 'vergelaw9.RelStates', WHERE WHAT IT READS IS OF BULK AT MOST 1048576: true; the input reads as it did. -/
def relStatesUptoRow : OpenClaim := { program := "ythajkngngdnidaa", sum := "62d3b4688b22ac0e37c284849dd5afb102501b08199d5153722c20de8eb42c77", func := "verge/vergelaw9.RelStates", spec := "relStates", inPlace := ["math.Float64frombits"], apart := false, narrowed := true }
def RelStatesUptoSaid : Prop := relStatesUptoRow.holds Try.pinned (OpenSpec.upto relStatesSpec)

end Rows
end Go.Proofs.Ythajkngngdnidaa
