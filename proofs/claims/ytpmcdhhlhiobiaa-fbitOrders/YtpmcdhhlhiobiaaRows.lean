/-
  No cell of these rows narrows 'for every input' (looked for: loops, veiled, ifaces, maps, wideKeys, modest, calm, conditions, laid).
  DERIVED. THE GIVEN ROWS OF THIS SEAT. 5 by the template 'for every input the law returns true; each argument reads behind the call as it read before'; 0 by the template 'total and deterministic' (their statements: YtpmcdhhlhiobiaaTotals.lean).
  GIVEN WITH THE SEED: the statements are not yours to turn. If you find one false, say at which input.
  Laid BY PROGRAM, IN A SANDBOX (cutbox-rows.mjs): the forced cells as the released guide's own fill.sh prints them over the translation 155e3ca0bbb0506a… (all of the seat's roots in one cut). By AI agents, Wed Nov 11 2026. No macro, syntax, notation, axiom, sorry.
-/
import Derived.Test.YtpmcdhhlhiobiaaChecked
import GoSem.Claim
import GoSem.ClaimJoined
import GoSem.ClaimMapViews
import Derived.JoinedTies
import Derived.KernelRfl
namespace Go.Proofs.Ytpmcdhhlhiobiaa
/- THE CELL 'sum', in the pinned program and in every row, IS THE sha256 OF THE DUMP (.gsa) THAT YtpmcdhhlhiobiaaProg.lean LOADS. Nothing in Lean hashes anything: it is a label: what it is worth is what the hold of that sum in a sandbox is worth. -/
noncomputable def Try.pinned : Pinned := { name := "ytpmcdhhlhiobiaa", sum := "155e3ca0bbb0506abb19f486ae23f43e178f64f3b817779d4338b413eeb65a64", checked := Try.checked }
namespace Rows
def none {H : Type} : Left H := { results := [], args := [] }

/-- 'vergelaw1.FbitNames': WHATEVER THE INPUT: true; the input reads as it did. -/
def fbitNamesSpec : ChangeSpec := { name := "fbitNames", fn := fun _ => fun
  | [] => { results := [.lit (.bool true)], args := [] }
  | _ => none }
def fbitNamesRow : OpenClaim := { program := "ytpmcdhhlhiobiaa", sum := "155e3ca0bbb0506abb19f486ae23f43e178f64f3b817779d4338b413eeb65a64", func := "verge/vergelaw1.FbitNames", spec := "fbitNames", inPlace := ["math.Float64bits", "math.Float32bits"], apart := false }
def FbitNamesSaid : Prop := fbitNamesRow.holds Try.pinned (OpenSpec.ofChange fbitNamesSpec)

/-- ITS FALSE NEIGHBOUR: 'it returns false'. Refute it at one input. -/
def fbitNamesWrong : ChangeSpec := { name := "fbitNames", fn := fun _ => fun
  | [] => { results := [.lit (.bool false)], args := [] }
  | _ => none }
def FbitNamesWrongFalsely : Prop := fbitNamesRow.holds Try.pinned (OpenSpec.ofChange fbitNamesWrong)

/-- 'vergelaw1.FbitClasses': WHATEVER THE INPUT: true; the input reads as it did. -/
def fbitClassesSpec : ChangeSpec := { name := "fbitClasses", fn := fun _ => fun
  | [d1, d2] => { results := [.lit (.bool true)], args := [d1, d2] }
  | _ => none }
def fbitClassesRow : OpenClaim := { program := "ytpmcdhhlhiobiaa", sum := "155e3ca0bbb0506abb19f486ae23f43e178f64f3b817779d4338b413eeb65a64", func := "verge/vergelaw1.FbitClasses", spec := "fbitClasses", inPlace := ["math.Float64frombits", "math.Float64bits", "math.Float32bits", "math.Float32frombits"], apart := false }
def FbitClassesSaid : Prop := fbitClassesRow.holds Try.pinned (OpenSpec.ofChange fbitClassesSpec)

/-- ITS FALSE NEIGHBOUR: 'it returns false'. Refute it at one input. -/
def fbitClassesWrong : ChangeSpec := { name := "fbitClasses", fn := fun _ => fun
  | [d1, d2] => { results := [.lit (.bool false)], args := [d1, d2] }
  | _ => none }
def FbitClassesWrongFalsely : Prop := fbitClassesRow.holds Try.pinned (OpenSpec.ofChange fbitClassesWrong)

/-- 'vergelaw1.FbitPlain': WHATEVER THE INPUT: true; the input reads as it did. -/
def fbitPlainSpec : ChangeSpec := { name := "fbitPlain", fn := fun _ => fun
  | [d1, d2] => { results := [.lit (.bool true)], args := [d1, d2] }
  | _ => none }
def fbitPlainRow : OpenClaim := { program := "ytpmcdhhlhiobiaa", sum := "155e3ca0bbb0506abb19f486ae23f43e178f64f3b817779d4338b413eeb65a64", func := "verge/vergelaw1.FbitPlain", spec := "fbitPlain", inPlace := ["math.Float64frombits", "math.Float64bits", "math.Float32frombits", "math.Float32bits"], apart := false }
def FbitPlainSaid : Prop := fbitPlainRow.holds Try.pinned (OpenSpec.ofChange fbitPlainSpec)

/-- ITS FALSE NEIGHBOUR: 'it returns false'. Refute it at one input. -/
def fbitPlainWrong : ChangeSpec := { name := "fbitPlain", fn := fun _ => fun
  | [d1, d2] => { results := [.lit (.bool false)], args := [d1, d2] }
  | _ => none }
def FbitPlainWrongFalsely : Prop := fbitPlainRow.holds Try.pinned (OpenSpec.ofChange fbitPlainWrong)

/-- 'vergelaw1.FbitNexts': WHATEVER THE INPUT: true; the input reads as it did. -/
def fbitNextsSpec : ChangeSpec := { name := "fbitNexts", fn := fun _ => fun
  | [d1, d2] => { results := [.lit (.bool true)], args := [d1, d2] }
  | _ => none }
def fbitNextsRow : OpenClaim := { program := "ytpmcdhhlhiobiaa", sum := "155e3ca0bbb0506abb19f486ae23f43e178f64f3b817779d4338b413eeb65a64", func := "verge/vergelaw1.FbitNexts", spec := "fbitNexts", inPlace := ["math.Float64frombits", "math.Float64bits", "math.Float32bits", "math.Float32frombits"], apart := false }
def FbitNextsSaid : Prop := fbitNextsRow.holds Try.pinned (OpenSpec.ofChange fbitNextsSpec)

/-- ITS FALSE NEIGHBOUR: 'it returns false'. Refute it at one input. -/
def fbitNextsWrong : ChangeSpec := { name := "fbitNexts", fn := fun _ => fun
  | [d1, d2] => { results := [.lit (.bool false)], args := [d1, d2] }
  | _ => none }
def FbitNextsWrongFalsely : Prop := fbitNextsRow.holds Try.pinned (OpenSpec.ofChange fbitNextsWrong)

/-- 'vergelaw1.FbitOrders': WHATEVER THE INPUT: true; the input reads as it did. -/
def fbitOrdersSpec : ChangeSpec := { name := "fbitOrders", fn := fun _ => fun
  | [d] => { results := [.lit (.bool true)], args := [d] }
  | _ => none }
def fbitOrdersRow : OpenClaim := { program := "ytpmcdhhlhiobiaa", sum := "155e3ca0bbb0506abb19f486ae23f43e178f64f3b817779d4338b413eeb65a64", func := "verge/vergelaw1.FbitOrders", spec := "fbitOrders", inPlace := ["math.Float64frombits", "math.Float64bits", "math.Float32bits", "math.Float32frombits"], apart := false }
def FbitOrdersSaid : Prop := fbitOrdersRow.holds Try.pinned (OpenSpec.ofChange fbitOrdersSpec)

/-- ITS FALSE NEIGHBOUR: 'it returns false'. Refute it at one input. -/
def fbitOrdersWrong : ChangeSpec := { name := "fbitOrders", fn := fun _ => fun
  | [d] => { results := [.lit (.bool false)], args := [d] }
  | _ => none }
def FbitOrdersWrongFalsely : Prop := fbitOrdersRow.holds Try.pinned (OpenSpec.ofChange fbitOrdersWrong)

/- THE SECOND FORM. 'bulk': how many values and letters a reading holds, each counted each time it is reached (what is shared counts as often as it is met; a slice's spare places count too). A statement '..UptoSaid' is the law's where the arguments, and the package variables that the reading takes, are together of bulk at most 1048576: NARROWER than '..Said'. Prove '..Said' where nothing that the law and all that it calls make is longer than what came in: it says more and counts as full. Else prove '..UptoSaid'. A law counts once. -/
mutual
def uptoBulk {H : Type} : DataW H → Nat
  | .lit (.string bytes) => bytes.length + 1
  | .lit _ => 1
  | .nil => 1
  | .ptr d => uptoBulk d + 1
  | .slice elems spare => uptoBulkAll elems + uptoBulkAll spare + 1
  | .agg parts => uptoBulkAll parts + 1
  | .iface _ d => uptoBulk d + 1
  | .map entries => uptoBulkEntries entries + 1
  | .held _ => 1
def uptoBulkAll {H : Type} : List (DataW H) → Nat
  | [] => 0
  | d :: r => uptoBulk d + uptoBulkAll r
def uptoBulkEntries {H : Type} : List (Lit × DataW H) → Nat
  | [] => 0
  | x :: r => uptoBulkEntry x + uptoBulkEntries r
def uptoBulkEntry {H : Type} : Lit × DataW H → Nat
  | (.string bytes, d) => bytes.length + uptoBulk d + 1
  | (_, d) => uptoBulk d + 1
 end
def uptoSmall : (H : Type) → List (DataW H) → Bool := fun _ ds => decide (uptoBulkAll ds ≤ 1048576)
def OpenSpec.upto (s : _root_.Go.ChangeSpec) : _root_.Go.OpenSpec := { _root_.Go.OpenSpec.ofChange s with cond := some uptoSmall }

/-- 'vergelaw1.FbitNames', WHERE WHAT IT READS IS OF BULK AT MOST 1048576: true; the input reads as it did. -/
def fbitNamesUptoRow : OpenClaim := { program := "ytpmcdhhlhiobiaa", sum := "155e3ca0bbb0506abb19f486ae23f43e178f64f3b817779d4338b413eeb65a64", func := "verge/vergelaw1.FbitNames", spec := "fbitNames", inPlace := ["math.Float64bits", "math.Float32bits"], apart := false, narrowed := true }
def FbitNamesUptoSaid : Prop := fbitNamesUptoRow.holds Try.pinned (OpenSpec.upto fbitNamesSpec)

/-- 'vergelaw1.FbitClasses', WHERE WHAT IT READS IS OF BULK AT MOST 1048576: true; the input reads as it did. -/
def fbitClassesUptoRow : OpenClaim := { program := "ytpmcdhhlhiobiaa", sum := "155e3ca0bbb0506abb19f486ae23f43e178f64f3b817779d4338b413eeb65a64", func := "verge/vergelaw1.FbitClasses", spec := "fbitClasses", inPlace := ["math.Float64frombits", "math.Float64bits", "math.Float32bits", "math.Float32frombits"], apart := false, narrowed := true }
def FbitClassesUptoSaid : Prop := fbitClassesUptoRow.holds Try.pinned (OpenSpec.upto fbitClassesSpec)

/-- 'vergelaw1.FbitPlain', WHERE WHAT IT READS IS OF BULK AT MOST 1048576: true; the input reads as it did. -/
def fbitPlainUptoRow : OpenClaim := { program := "ytpmcdhhlhiobiaa", sum := "155e3ca0bbb0506abb19f486ae23f43e178f64f3b817779d4338b413eeb65a64", func := "verge/vergelaw1.FbitPlain", spec := "fbitPlain", inPlace := ["math.Float64frombits", "math.Float64bits", "math.Float32frombits", "math.Float32bits"], apart := false, narrowed := true }
def FbitPlainUptoSaid : Prop := fbitPlainUptoRow.holds Try.pinned (OpenSpec.upto fbitPlainSpec)

/-- 'vergelaw1.FbitNexts', WHERE WHAT IT READS IS OF BULK AT MOST 1048576: true; the input reads as it did. -/
def fbitNextsUptoRow : OpenClaim := { program := "ytpmcdhhlhiobiaa", sum := "155e3ca0bbb0506abb19f486ae23f43e178f64f3b817779d4338b413eeb65a64", func := "verge/vergelaw1.FbitNexts", spec := "fbitNexts", inPlace := ["math.Float64frombits", "math.Float64bits", "math.Float32bits", "math.Float32frombits"], apart := false, narrowed := true }
def FbitNextsUptoSaid : Prop := fbitNextsUptoRow.holds Try.pinned (OpenSpec.upto fbitNextsSpec)

/-- 'vergelaw1.FbitOrders', WHERE WHAT IT READS IS OF BULK AT MOST 1048576: true; the input reads as it did. -/
def fbitOrdersUptoRow : OpenClaim := { program := "ytpmcdhhlhiobiaa", sum := "155e3ca0bbb0506abb19f486ae23f43e178f64f3b817779d4338b413eeb65a64", func := "verge/vergelaw1.FbitOrders", spec := "fbitOrders", inPlace := ["math.Float64frombits", "math.Float64bits", "math.Float32bits", "math.Float32frombits"], apart := false, narrowed := true }
def FbitOrdersUptoSaid : Prop := fbitOrdersUptoRow.holds Try.pinned (OpenSpec.upto fbitOrdersSpec)

end Rows
end Go.Proofs.Ytpmcdhhlhiobiaa
