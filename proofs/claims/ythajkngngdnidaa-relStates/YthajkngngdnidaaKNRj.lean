import Derived.Test.YthajkngngdnidaaProg
import Derived.Test.YthajkngngdnidaaKXA0
import Derived.Test.YthajkngngdnidaaKQM
import Derived.Test.YthajkngngdnidaaKQA
import Derived.Test.YthajkngngdnidaaKXQU
import Derived.Test.YthajkngngdnidaaKEM
import Derived.Test.YthajkngngdnidaaKEN
import Derived.Test.YthajkngngdnidaaKEA
import Derived.Test.YthajkngngdnidaaKEB
import Derived.Test.YthajkngngdnidaaKEH
import Derived.Test.YthajkngngdnidaaKEK
import Derived.Test.YthajkngngdnidaaKEO
import Derived.Test.YthajkngngdnidaaKER
import Derived.Test.YthajkngngdnidaaKES
import Derived.Test.YthajkngngdnidaaKNRv
import Derived.Test.YthajkngngdnidaaKNRm
import Derived.Test.YthajkngngdnidaaKNRa
import Derived.WalkKit
import Derived.ProofKit
import Derived.RowKit3
import Derived.WalkSpells
import Derived.StillTactics
import Derived.Deep.QuietTactic
import Derived.BigQuiet
import Derived.Below
import Derived.Deep.OwnRows
import Derived.OwnWalk
import Derived.Laws.BitsAllLaws
import Derived.Laws.Slices
import Derived.Laws.Bits64b
import Derived.Laws.FloatArith
import Derived.Deep.RegionHeld3
import Derived.Deep.CutRange
import Derived.Deep.DeepCutAuto
namespace Go.Proofs.Ythajkngngdnidaa
open Go.RowKit

def pI (x : Int) : Int := ((pw x : Nat) : Int)
theorem pI_inj (x y : Int) (hx : BdZ x) (hy : BdZ y) : pI x = pI y ↔ x = y := by
  unfold pI
  rw [← pw_inj x y hx hy]
  omega
theorem pI_bd (x : Int) (hx : BdZ x) : 0 ≤ pI x ∧ pI x < 18446744073709551616 := by
  have := pw_lt x hx
  unfold pI
  omega
set_option maxRecDepth 20000 in
set_option maxHeartbeats 400000 in
theorem isinf6_ (n : Bool) (m : Nat) (hm : m < 9223372036854775808) (w : World) : Calls Try.prog 12 #[.int .u64 ((Fq.wD n m : Nat) : Int)] w fun e w' => e = .returned (.bool (decide (m = 9218868437227405312))) ∧ w' = w := by
  obtain ⟨X, hX⟩ : ∃ X, X = Fq.wD n m := ⟨_, rfl⟩
  have f1 := (Fq.noTop6 n m X hm hX).1
  rw [← hX]
  clear hX hm
  by_cases c : m = 9218868437227405312
  · have t1 : ((m : Int) == 9218868437227405312) = true := by rw [c]; rfl
    rw [decide_eq_true c]
    clear c
    go_enter Try.func12, Try.ntmps12
    go_wp2
    exact bodyPost_ret (v := .bool true) (by simp [results, Try.results12, go_sem] <;> simpa using t1) rfl ⟨rfl, rfl⟩
  · have t1 : ((m : Int) == 9218868437227405312) = false := by simp; omega
    rw [decide_eq_false c]
    clear c
    go_enter Try.func12, Try.ntmps12
    go_wp2
    exact bodyPost_ret (v := .bool false) (by simp [results, Try.results12, go_sem] <;> simpa using t1) rfl ⟨rfl, rfl⟩
theorem isinf9_ (x : Int) (h : BdZ x) (w : World) : Calls Try.prog 12 #[.int .u64 (pI x)] w fun e w' => e = .returned (.bool (decide (x = 9218868437227405312 ∨ x = -9218868437227405312))) ∧ w' = w := by
  have g := isinf6_ (decide (x < 0)) x.natAbs (by have := abs_pw x h; omega) w
  rw [show decide (x.natAbs = 9218868437227405312) = decide (x = 9218868437227405312 ∨ x = -9218868437227405312) from by congr 1; apply propext; omega] at g
  exact g
theorem rabove9_ (x y : Int) (hx : BdZ x) (hy : BdZ y) (w : World) : Calls Try.prog 55 #[.int .u64 (pI x), .int .u64 (pI y)] w fun e w' => e = .returned (.bool (decide (y < x))) ∧ w' = w := by
  have h1 := abs_pw x hx
  have h2 := abs_pw y hy
  have g := Fq.above6_ (decide (x < 0)) (decide (y < 0)) x.natAbs y.natAbs (by omega) (by omega) w
  rw [plz_pw, plz_pw, show decide (x.natAbs ≤ 9218868437227405312 ∧ y.natAbs ≤ 9218868437227405312 ∧ y < x) = decide (y < x) from by congr 1; apply propext; exact ⟨fun h => h.2.2, fun h => ⟨h1, h2, h⟩⟩] at g
  exact g
theorem rread9_ (a b : Nat) (L H : Int) (h : Rd a b L H) (w : World) : Calls Try.prog 10 #[.agg #[.int .u64 ((a : Nat) : Int), .int .u64 ((b : Nat) : Int)]] w fun e w' => e = .returned (.agg #[.int .u64 (pI L), .int .u64 (pI H)]) ∧ Kp w w' := by
  have e1 := h.2.2.2.1
  have e2 := h.2.2.2.2
  unfold pI
  rw [← e1, ← e2]
  obtain ⟨n, m, hm, rfl⟩ := Fq.exD a h.1
  obtain ⟨n', m', hm', rfl⟩ := Fq.exD b h.2.1
  exact Fq.rread_ n n' m m' hm hm' w
theorem rempty9_ (w : World) : Calls Try.prog 14 #[] w fun e w' => e = .returned (.agg #[.int .u64 9218868437227405312, .int .u64 18442240474082181120]) ∧ Kp w w' := by
  refine (Fq.rempty_ w).mono ?_
  rintro e w' ⟨rfl, rfl⟩
  exact ⟨rfl, (Kp.refl w).alloc _⟩
end Go.Proofs.Ythajkngngdnidaa
