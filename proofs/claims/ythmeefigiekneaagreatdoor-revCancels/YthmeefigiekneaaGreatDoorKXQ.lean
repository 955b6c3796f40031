import Derived.Test.YthmeefigiekneaaGreatDoorProg
import Derived.Test.YthmeefigiekneaaGreatDoorKXA0
import Derived.Test.YthmeefigiekneaaGreatDoorKXM
import Derived.WalkKit
import Derived.ProofKit
import Derived.RowKit3
import Derived.WalkSpells
import Derived.StillTactics
import Derived.Deep.QuietTactic
import Derived.BigQuiet
import Derived.Below
import Derived.Deep.OwnRows
import Derived.Laws.BitsAllLaws
namespace Go.Proofs.YthmeefigiekneaaGreatDoor
open Go.RowKit
set_option maxRecDepth 20000 in
set_option maxHeartbeats 1000000 in
theorem sub32_ (x y b : Nat) (hx : x < 4294967296) (hy : y < 4294967296) (hb : b ≤ 1) (w : World) :
    Calls Tryz.prog 94 #[.int .u32 (x : Int), .int .u32 (y : Int), .int .u32 (b : Int)] w fun e w' => e = .returned (.tuple #[.int .u32 (((x + 8589934592 - y - b) % 4294967296 : Nat) : Int), .int .u32 ((if x < y + b then 1 else 0 : Nat) : Int)]) ∧ w' = w := by
  obtain ⟨d, hd⟩ : ∃ d, d = (x + 8589934592 - y - b) % 4294967296 := ⟨_, rfl⟩
  have hs := sub_borrow x y b d hx hy hb hd
  have hz : x ^^^ y < 4294967296 := Nat.xor_lt_two_pow (n := 32) hx hy
  obtain ⟨B, hB⟩ : ∃ B : Nat, B = if x < y + b then 1 else 0 := ⟨_, rfl⟩
  rw [← hd, ← hB]
  rw [← hB] at hs
  obtain ⟨d1, hd1⟩ : ∃ d1 : Nat, d1 = (x + 4294967296 - y) % 4294967296 := ⟨_, rfl⟩
  have f1 : IntKind.u32.wrap ((x : Int) - (y : Int)) = (d1 : Int) := by rw [IntKind.wrap_u32]; omega
  have f2 : IntKind.u32.wrap ((d1 : Int) - (b : Int)) = (d : Int) := by rw [IntKind.wrap_u32]; omega
  have g1 := u32_xor_nat x y hx hy
  have g2 := u32_and_nat (4294967295 - x) y (by omega) hy
  have g3 := u32_and_nat (4294967295 - (x ^^^ y)) d (by omega) (by omega)
  have l1 : (4294967295 - x) &&& y < 4294967296 := Nat.and_lt_two_pow (n := 32) _ hy
  have l2 : (4294967295 - (x ^^^ y)) &&& d < 4294967296 := Nat.and_lt_two_pow (n := 32) _ (by omega)
  have g4 := u32_or_nat _ _ l1 l2
  obtain ⟨z, hzz⟩ : ∃ z, z = x ^^^ y := ⟨_, rfl⟩
  rw [← hzz] at g1 g3 g4 hs hz l2
  obtain ⟨nx, hnx⟩ : ∃ nx, nx = 4294967295 - x := ⟨_, rfl⟩
  obtain ⟨nz', hnz⟩ : ∃ nz', nz' = 4294967295 - z := ⟨_, rfl⟩
  rw [← hnx] at g2 g4 hs l1
  rw [← hnz] at g3 g4 hs l2
  have n1 : bits BinOp.xor IntKind.u32 IntKind.u32.max (x : Int) = (nx : Int) := by
    have := u32_xor_nat 4294967295 x (by omega) hx
    rw [not32 x hx, ← hnx] at this
    exact this
  have n2 : bits BinOp.xor IntKind.u32 IntKind.u32.max (z : Int) = (nz' : Int) := by
    have := u32_xor_nat 4294967295 z (by omega) hz
    rw [not32 z hz, ← hnz] at this
    exact this
  obtain ⟨u1, hu1⟩ : ∃ u1, u1 = nx &&& y := ⟨_, rfl⟩
  obtain ⟨u2, hu2⟩ : ∃ u2, u2 = nz' &&& d := ⟨_, rfl⟩
  rw [← hu1] at g2 g4 hs
  rw [← hu2] at g3 g4 hs
  obtain ⟨u3, hu3⟩ : ∃ u3, u3 = u1 ||| u2 := ⟨_, rfl⟩
  rw [← hu3] at g4 hs
  have f3 : (u3 : Int) / 2147483648 = (B : Int) := by omega
  clear hd hB hd1 hzz hnx hnz hu1 hu2 hu3 hs hx hy hb hz l1 l2
  go_enter Tryz.func94, Tryz.ntmps94
  go_wp2
  exact bodyPost_ret (v := .tuple #[.int .u32 (d : Int), .int .u32 (B : Int)]) (by simp [results, Tryz.results94, go_sem] <;> simp only [*]) rfl ⟨rfl, rfl⟩
end Go.Proofs.YthmeefigiekneaaGreatDoor
