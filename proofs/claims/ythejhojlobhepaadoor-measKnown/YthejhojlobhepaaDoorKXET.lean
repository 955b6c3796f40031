import Derived.Test.YthejhojlobhepaaDoorProg
import Derived.Test.YthejhojlobhepaaDoorKXA0
import Derived.Test.YthejhojlobhepaaDoorKXM
import Derived.Test.YthejhojlobhepaaDoorKXY
import Derived.Test.YthejhojlobhepaaDoorKXQF
import Derived.Test.YthejhojlobhepaaDoorKQA
import Derived.Test.YthejhojlobhepaaDoorKQP
import Derived.Test.YthejhojlobhepaaDoorKXQU
import Derived.Test.YthejhojlobhepaaDoorKQB
import Derived.Test.YthejhojlobhepaaDoorKQBT
import Derived.Test.YthejhojlobhepaaDoorKQJd
import Derived.Test.YthejhojlobhepaaDoorKXEA
import Derived.Test.YthejhojlobhepaaDoorKXEE
import Derived.Test.YthejhojlobhepaaDoorKMR7Q
import Derived.Test.YthejhojlobhepaaDoorKXMR
import Derived.Test.YthejhojlobhepaaDoorKXM3
import Derived.Test.YthejhojlobhepaaDoorKXO
import Derived.Test.YthejhojlobhepaaDoorKXT
import Derived.Test.YthejhojlobhepaaDoorKHB
import Derived.Test.YthejhojlobhepaaDoorKLX
import Derived.Test.YthejhojlobhepaaDoorKLN
import Derived.Test.YthejhojlobhepaaDoorKW4
import Derived.Test.YthejhojlobhepaaDoorKXBY
import Derived.Test.YthejhojlobhepaaDoorKXTZ
import Derived.Test.YthejhojlobhepaaDoorKXG1
import Derived.Test.YthejhojlobhepaaDoorKNSm
import Derived.Test.YthejhojlobhepaaDoorKXH2Q
import Derived.Test.YthejhojlobhepaaDoorKXS1
import Derived.WalkKit
import Derived.ProofKit
import Derived.RowKit3
import Derived.WalkSpells
import Derived.StillTactics
import Derived.Deep.QuietTactic
import Derived.BigQuiet
import Derived.Below
import Derived.Deep.OwnRows
import Derived.OwnWalk
import Derived.Laws.BitsAllLaws
import Derived.Laws.Slices
import Derived.Laws.Bits64b
import Derived.Laws.FloatArith
import Derived.Deep.RegionHeld3
namespace Go.Proofs.YthejhojlobhepaaDoor
open Go.RowKit

/-- what a ratio's parts tell of a number -/
def RF (s : Bool) (a b : Nat) (n : Bool) (m : Nat) : Prop := ∀ K : Nat, K = 1074 → b ≠ 0 ∧ a * 2 ^ K = Fq.vV Ieee.double m * b ∧ Iv n m = (if s then -((Fq.vV Ieee.double m : Nat) : Int) else ((Fq.vV Ieee.double m : Nat) : Int)) ∧ blen a ≤ 1500 ∧ blen b ≤ 1500
/-- a ratio that is the number n m, with rows of its own from 'base' on -/
def RP (base : Nat) (w : World) (s : Bool) (p : Option Addr) (l c : Nat) (q : Option Addr) (k d : Nat) (n : Bool) (m : Nat) : Prop := ∃ a b, Own w base (.slice p l c) (dig a) ∧ Own w base (.slice q k d) (dig b) ∧ RF s a b n m
theorem RP.kp {base : Nat} {w w' : World} {s : Bool} {p : Option Addr} {l c : Nat} {q : Option Addr} {k d : Nat} {n : Bool} {m : Nat} (h : RP base w s p l c q k d n m) (g : Kp w w') : RP base w' s p l c q k d n m := by
  obtain ⟨a, b, h1, h2, h3⟩ := h
  exact ⟨a, b, h1.kp g, h2.kp g, h3⟩
theorem RP.mono {base base' : Nat} {w : World} {s : Bool} {p : Option Addr} {l c : Nat} {q : Option Addr} {k d : Nat} {n : Bool} {m : Nat} (h : RP base w s p l c q k d n m) (g : base' ≤ base) : RP base' w s p l c q k d n m := by
  obtain ⟨a, b, h1, h2, h3⟩ := h
  exact ⟨a, b, h1.mono g, h2.mono g, h3⟩
theorem RP.set {base : Nat} {w : World} {s : Bool} {p : Option Addr} {l c : Nat} {q : Option Addr} {k d : Nat} {n : Bool} {m : Nat} (h : RP base w s p l c q k d n m) {x : Addr} (hx : x.block < base) (u : Value) : RP base (w.setCell x u) s p l c q k d n m := by
  obtain ⟨a, b, h1, h2, h3⟩ := h
  exact ⟨a, b, h1.setOther hx u, h2.setOther hx u, h3⟩
theorem dig_zero6 : dig 0 = [] := by decide +kernel
theorem dig_one6 : dig 1 = [1] := by decide +kernel
/-- an end's infinity, and the number beside it -/
def infS (n : Bool) (m : Nat) : Int := if m = 9218868437227405312 then (if n then -1 else 1) else 0
def fN (n : Bool) (m : Nat) : Bool := if m = 9218868437227405312 then false else n
def fM (m : Nat) : Nat := if m = 9218868437227405312 then 0 else m
end Go.Proofs.YthejhojlobhepaaDoor
