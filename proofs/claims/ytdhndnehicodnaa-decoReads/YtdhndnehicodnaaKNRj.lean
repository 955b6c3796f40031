import Derived.Test.YtdhndnehicodnaaProg
import Derived.Test.YtdhndnehicodnaaKXA0
import Derived.Test.YtdhndnehicodnaaKQM
import Derived.Test.YtdhndnehicodnaaKQA
import Derived.Test.YtdhndnehicodnaaKXQU
import Derived.Test.YtdhndnehicodnaaKEM
import Derived.Test.YtdhndnehicodnaaKEN
import Derived.Test.YtdhndnehicodnaaKEA
import Derived.Test.YtdhndnehicodnaaKEB
import Derived.Test.YtdhndnehicodnaaKEH
import Derived.Test.YtdhndnehicodnaaKEK
import Derived.Test.YtdhndnehicodnaaKEO
import Derived.Test.YtdhndnehicodnaaKER
import Derived.Test.YtdhndnehicodnaaKES
import Derived.Test.YtdhndnehicodnaaKNRv
import Derived.Test.YtdhndnehicodnaaKNRm
import Derived.Test.YtdhndnehicodnaaKNRa
import Derived.WalkKit
import Derived.ProofKit
import Derived.RowKit3
import Derived.WalkSpells
import Derived.StillTactics
import Derived.Deep.QuietTactic
import Derived.BigQuiet
import Derived.Below
import Derived.Deep.OwnRows
import Derived.OwnWalk
import Derived.Laws.BitsAllLaws
import Derived.Laws.Slices
import Derived.Laws.Bits64b
import Derived.Laws.FloatArith
import Derived.Deep.RegionHeld3
import Derived.Deep.CutRange
import Derived.Deep.DeepCutAuto
namespace Go.Proofs.Ytdhndnehicodnaa
open Go.RowKit

def pI (x : Int) : Int := ((pw x : Nat) : Int)
theorem pI_inj (x y : Int) (hx : BdZ x) (hy : BdZ y) : pI x = pI y ↔ x = y := by
  unfold pI
  rw [← pw_inj x y hx hy]
  omega
theorem pI_bd (x : Int) (hx : BdZ x) : 0 ≤ pI x ∧ pI x < 18446744073709551616 := by
  have := pw_lt x hx
  unfold pI
  omega
theorem rabove9_ (x y : Int) (hx : BdZ x) (hy : BdZ y) (w : World) : Calls Try.prog 32 #[.int .u64 (pI x), .int .u64 (pI y)] w fun e w' => e = .returned (.bool (decide (y < x))) ∧ w' = w := by
  have h1 := abs_pw x hx
  have h2 := abs_pw y hy
  have g := Fq.above6_ (decide (x < 0)) (decide (y < 0)) x.natAbs y.natAbs (by omega) (by omega) w
  rw [plz_pw, plz_pw, show decide (x.natAbs ≤ 9218868437227405312 ∧ y.natAbs ≤ 9218868437227405312 ∧ y < x) = decide (y < x) from by congr 1; apply propext; exact ⟨fun h => h.2.2, fun h => ⟨h1, h2, h⟩⟩] at g
  exact g
theorem rread9_ (a b : Nat) (L H : Int) (h : Rd a b L H) (w : World) : Calls Try.prog 22 #[.agg #[.int .u64 ((a : Nat) : Int), .int .u64 ((b : Nat) : Int)]] w fun e w' => e = .returned (.agg #[.int .u64 (pI L), .int .u64 (pI H)]) ∧ Kp w w' := by
  have e1 := h.2.2.2.1
  have e2 := h.2.2.2.2
  unfold pI
  rw [← e1, ← e2]
  obtain ⟨n, m, hm, rfl⟩ := Fq.exD a h.1
  obtain ⟨n', m', hm', rfl⟩ := Fq.exD b h.2.1
  exact Fq.rread_ n n' m m' hm hm' w
theorem rempty9_ (w : World) : Calls Try.prog 20 #[] w fun e w' => e = .returned (.agg #[.int .u64 9218868437227405312, .int .u64 18442240474082181120]) ∧ Kp w w' := by
  refine (Fq.rempty_ w).mono ?_
  rintro e w' ⟨rfl, rfl⟩
  exact ⟨rfl, (Kp.refl w).alloc _⟩
end Go.Proofs.Ytdhndnehicodnaa
