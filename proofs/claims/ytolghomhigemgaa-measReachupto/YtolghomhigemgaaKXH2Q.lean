import Derived.Test.YtolghomhigemgaaProg
import Derived.Test.YtolghomhigemgaaKXA0
import Derived.Test.YtolghomhigemgaaKXM
import Derived.Test.YtolghomhigemgaaKXY
import Derived.Test.YtolghomhigemgaaKXQF
import Derived.Test.YtolghomhigemgaaKQA
import Derived.Test.YtolghomhigemgaaKMR7Q
import Derived.Test.YtolghomhigemgaaKXG1
import Derived.WalkKit
import Derived.ProofKit
import Derived.RowKit3
import Derived.WalkSpells
import Derived.StillTactics
import Derived.Deep.QuietTactic
import Derived.BigQuiet
import Derived.Below
import Derived.Deep.OwnRows
import Derived.Laws.BitsAllLaws
import Derived.Laws.Slices
import Derived.Laws.Bits64b
import Derived.Laws.FloatArith
namespace Go.Proofs.Ytolghomhigemgaa
open Go.RowKit
set_option maxRecDepth 20000 in
set_option maxHeartbeats 400000 in
theorem minf_ (neg : Bool) (w : World) : Calls Try.prog 30 #[.int .i64 (if neg = true then -1 else 1)] w fun e w' => e = .returned (.float .f64 (Fq.wD neg 9218868437227405312)) ∧ w' = w := by
  have h1 : ∀ w : World, (callFunc 23 #[.int .u64 18442240474082181120]).run Try.prog w = .ok (.value (.float .f64 18442240474082181120)) w := fun w => Fq.ff64 18442240474082181120 w
  have h2 : ∀ w : World, (callFunc 23 #[.int .u64 9218868437227405312]).run Try.prog w = .ok (.value (.float .f64 9218868437227405312)) w := fun w => Fq.ff64 9218868437227405312 w
  cases neg
  · go_enter Try.func30, Try.ntmps30
    go_wp2
    exact bodyPost_ret (v := .float .f64 9218868437227405312) (by simp [results, Try.results30, go_sem]) rfl ⟨rfl, rfl⟩
  · go_enter Try.func30, Try.ntmps30
    go_wp2
    exact bodyPost_ret (v := .float .f64 18442240474082181120) (by simp [results, Try.results30, go_sem]) rfl ⟨rfl, rfl⟩
theorem noTop (n : Bool) (m X : Nat) (hm : m < 9223372036854775808) (hX : X = Fq.wD n m) : bits BinOp.andNot IntKind.u64 (X : Int) 9223372036854775808 = (m : Int) ∧ X < 18446744073709551616 := by
  have hX9 : X < 18446744073709551616 := by rw [hX]; unfold Fq.wD; split <;> omega
  have h := u64_andNot_nat X 9223372036854775808 hX9 (by decide)
  have e : X % 9223372036854775808 = m := by rw [hX]; unfold Fq.wD; split <;> omega
  rw [show 18446744073709551615 - 9223372036854775808 = 2 ^ 63 - 1 from by decide, Nat.and_two_pow_sub_one_eq_mod, show (2 : Nat) ^ 63 = 9223372036854775808 from by decide, e] at h
  exact ⟨h, hX9⟩
set_option maxRecDepth 20000 in
set_option maxHeartbeats 400000 in
theorem isnan_ (n : Bool) (m : Nat) (hm : m < 9223372036854775808) (w : World) : Calls Try.prog 33 #[.int .u64 ((Fq.wD n m : Nat) : Int)] w fun e w' => e = .returned (.bool (decide (9218868437227405312 < m))) ∧ w' = w := by
  obtain ⟨X, hX⟩ : ∃ X, X = Fq.wD n m := ⟨_, rfl⟩
  have f1 := (noTop n m X hm hX).1
  rw [← hX]
  clear hX hm
  by_cases c : 9218868437227405312 < m
  · have t1 : 9218868437227405312 < (m : Int) := by omega
    rw [decide_eq_true c]
    clear c
    go_enter Try.func33, Try.ntmps33
    go_wp2
    exact bodyPost_ret (v := .bool true) (by simp [results, Try.results33, go_sem] <;> omega) rfl ⟨rfl, rfl⟩
  · have t1 : ¬ (9218868437227405312 < (m : Int)) := by omega
    rw [decide_eq_false c]
    clear c
    go_enter Try.func33, Try.ntmps33
    go_wp2
    exact bodyPost_ret (v := .bool false) (by simp [results, Try.results33, go_sem] <;> omega) rfl ⟨rfl, rfl⟩
set_option maxRecDepth 20000 in
set_option maxHeartbeats 400000 in
theorem abs_ (n : Bool) (m : Nat) (hm : m < 9223372036854775808) (w : World) : Calls Try.prog 20 #[.float .f64 (Fq.wD n m)] w fun e w' => e = .returned (.float .f64 m) ∧ w' = w := by
  obtain ⟨X, hX⟩ : ∃ X, X = Fq.wD n m := ⟨_, rfl⟩
  have f1 := (noTop n m X hm hX).1
  rw [← hX]
  clear hX hm
  have h1 := Fq.fb64 X
  have h2 := Fq.ff64 m
  go_enter Try.func20, Try.ntmps20
  go_wp2
  exact bodyPost_ret (v := .float .f64 m) (by simp [results, Try.results20, go_sem]) rfl ⟨rfl, rfl⟩
open Ieee in
theorem fin_order (m : Nat) (hm : m < 9223372036854775808) : (FloatKind.f64.format.order m 9218868437227405311 == some Ordering.lt || FloatKind.f64.format.order m 9218868437227405311 == some Ordering.eq) = decide (m < 9218868437227405312) := by
  have hf : FloatKind.f64.format = double := rfl
  have hi : double.infRung = 9218868437227405312 := by decide +kernel
  have hw : double.signWeight = 9223372036854775808 := by decide +kernel
  have hb : double.binade ≤ double.infRung := by decide +kernel
  have r1 : Fq.rg double m = m := by unfold Fq.rg; rw [hw]; exact Nat.mod_eq_of_lt hm
  have r2 : Fq.rg double 9218868437227405311 = 9218868437227405311 := by unfold Fq.rg; rw [hw]
  have p1 : Fq.pl double m = (m : Int) := by
    unfold Fq.pl Fq.ng
    rw [r1, hw, Nat.div_eq_of_lt hm]; rfl
  have p2 : Fq.pl double 9218868437227405311 = 9218868437227405311 := by
    unfold Fq.pl Fq.ng
    rw [r2, hw]; rfl
  rw [hf]
  by_cases c : m ≤ 9218868437227405312
  · rw [Fq.order_num double m 9218868437227405311 hb (by rw [r1, hi]; exact c) (by rw [r2, hi]; decide), p1, p2]
    by_cases c1 : m < 9218868437227405312
    · rw [decide_eq_true c1]
      by_cases c2 : m = 9218868437227405311
      · rw [c2]; rfl
      · rw [show compare (m : Int) 9218868437227405311 = Ordering.lt from by rw [Int.compare_eq_lt]; omega]; rfl
    · rw [decide_eq_false c1, show compare (m : Int) 9218868437227405311 = Ordering.gt from by rw [Int.compare_eq_gt]; omega]; rfl
  · rw [Fq.order_nan_left double m 9218868437227405311 hb (by rw [r1, hi]; omega), decide_eq_false (by omega)]; rfl
end Go.Proofs.Ytolghomhigemgaa
