import Derived.Test.YtlplidleeckefaaProg
import Derived.Test.YtlplidleeckefaaKXA0
import Derived.Test.YtlplidleeckefaaKXM
import Derived.Test.YtlplidleeckefaaKXY
import Derived.Test.YtlplidleeckefaaKXQF
import Derived.Test.YtlplidleeckefaaKQA
import Derived.Test.YtlplidleeckefaaKXQU
import Derived.Test.YtlplidleeckefaaKXEA
import Derived.Test.YtlplidleeckefaaKXEE
import Derived.Test.YtlplidleeckefaaKMR7Q
import Derived.Test.YtlplidleeckefaaKXMR
import Derived.Test.YtlplidleeckefaaKXM3
import Derived.Test.YtlplidleeckefaaKXO
import Derived.Test.YtlplidleeckefaaKXO3
import Derived.WalkKit
import Derived.ProofKit
import Derived.RowKit3
import Derived.WalkSpells
import Derived.StillTactics
import Derived.Deep.QuietTactic
import Derived.BigQuiet
import Derived.Below
import Derived.Deep.OwnRows
import Derived.OwnWalk
import Derived.Laws.BitsAllLaws
import Derived.Laws.Slices
import Derived.Laws.Bits64b
import Derived.Laws.FloatArith
import Derived.Deep.RegionHeld3
namespace Go.Proofs.Ytlplidleeckefaa
open Go.RowKit
theorem fldI0_ (x y : Value) (w : World) : (Instr.field 29 (.agg #[x, y]) 0).run Try.prog w = .ok x w := by kernel_rfl
theorem fldI1_ (x y : Value) (w : World) : (Instr.field 29 (.agg #[x, y]) 1).run Try.prog w = .ok y w := by kernel_rfl
theorem fldJ0_ (x y : Value) (w : World) : (Instr.field 24 (.agg #[x, y]) 0).run Try.prog w = .ok x w := by kernel_rfl
theorem fldJ1_ (x y : Value) (w : World) : (Instr.field 24 (.agg #[x, y]) 1).run Try.prog w = .ok y w := by kernel_rfl
set_option maxRecDepth 20000 in
set_option maxHeartbeats 1000000 in
theorem meinf_ (a b : Nat) (ha : a < 18446744073709551616) (hb : b < 18446744073709551616) (w : World) : Calls Try.prog 6 #[.agg #[.float .f64 a, .float .f64 b]] w fun e w' => e = .returned (.float .f64 (Fq.rlo a b)) ∧ Kp w w' := by
  have hr := Fq.read_ a b ha hb
  generalize Fq.rlo a b = LO at hr ⊢
  generalize Fq.rhi a b = HI at hr ⊢
  have hfl := fldI0_ (.float .f64 LO) (.float .f64 HI)
  clear ha hb
  go_enter Try.func6, Try.ntmps6
  go_wp2_with (first | (go_at_call 17; refine (hr _).mono ?_; rintro e w1 ⟨rfl, g1⟩; have k1 : Kp w w1 := Kp.trans ((Kp.refl w).alloc _) g1))
  exact bodyPost_ret (v := .float .f64 LO) (by simp [results, Try.results6, go_sem]) rfl ⟨rfl, k1⟩
set_option maxRecDepth 20000 in
set_option maxHeartbeats 1000000 in
theorem mesup_ (a b : Nat) (ha : a < 18446744073709551616) (hb : b < 18446744073709551616) (w : World) : Calls Try.prog 9 #[.agg #[.float .f64 a, .float .f64 b]] w fun e w' => e = .returned (.float .f64 (Fq.rhi a b)) ∧ Kp w w' := by
  have hr := Fq.read_ a b ha hb
  generalize Fq.rlo a b = LO at hr ⊢
  generalize Fq.rhi a b = HI at hr ⊢
  have hfl := fldI1_ (.float .f64 LO) (.float .f64 HI)
  clear ha hb
  go_enter Try.func9, Try.ntmps9
  go_wp2_with (first | (go_at_call 17; refine (hr _).mono ?_; rintro e w1 ⟨rfl, g1⟩; have k1 : Kp w w1 := Kp.trans ((Kp.refl w).alloc _) g1))
  exact bodyPost_ret (v := .float .f64 HI) (by simp [results, Try.results9, go_sem]) rfl ⟨rfl, k1⟩
set_option maxRecDepth 20000 in
set_option maxHeartbeats 1000000 in
theorem rinf8_ (a b : Nat) (ha : a < 18446744073709551616) (hb : b < 18446744073709551616) (w : World) : Calls Try.prog 8 #[.agg #[.int .u64 ((a : Nat) : Int), .int .u64 ((b : Nat) : Int)]] w fun e w' => e = .returned (.int .u64 ((Fq.rlo a b : Nat) : Int)) ∧ Kp w w' := by
  have hr : ∀ w : World, Calls Try.prog 19 #[.agg #[.int .u64 ((a : Nat) : Int), .int .u64 ((b : Nat) : Int)]] w fun e w' => e = .returned (.agg #[.int .u64 ((Fq.rlo a b : Nat) : Int), .int .u64 ((Fq.rhi a b : Nat) : Int)]) ∧ Kp w w' := by
    obtain ⟨n, m, hm, rfl⟩ := Fq.exD a ha
    obtain ⟨n', m', hm', rfl⟩ := Fq.exD b hb
    exact fun w => Fq.rread_ n n' m m' hm hm' w
  generalize ((Fq.rlo a b : Nat) : Int) = LO at hr ⊢
  generalize ((Fq.rhi a b : Nat) : Int) = HI at hr ⊢
  generalize (a : Int) = X at hr ⊢
  generalize (b : Int) = Y at hr ⊢
  have hfl := fldJ0_ (.int .u64 LO) (.int .u64 HI)
  clear ha hb
  go_enter Try.func8, Try.ntmps8
  go_wp2_with (first | (go_at_call 19; refine (hr _).mono ?_; rintro e w1 ⟨rfl, g1⟩; have k1 : Kp w w1 := Kp.trans ((Kp.refl w).alloc _) g1))
  exact bodyPost_ret (v := .int .u64 LO) (by simp [results, Try.results8, go_sem]) rfl ⟨rfl, k1⟩
set_option maxRecDepth 20000 in
set_option maxHeartbeats 1000000 in
theorem rsup8_ (a b : Nat) (ha : a < 18446744073709551616) (hb : b < 18446744073709551616) (w : World) : Calls Try.prog 10 #[.agg #[.int .u64 ((a : Nat) : Int), .int .u64 ((b : Nat) : Int)]] w fun e w' => e = .returned (.int .u64 ((Fq.rhi a b : Nat) : Int)) ∧ Kp w w' := by
  have hr : ∀ w : World, Calls Try.prog 19 #[.agg #[.int .u64 ((a : Nat) : Int), .int .u64 ((b : Nat) : Int)]] w fun e w' => e = .returned (.agg #[.int .u64 ((Fq.rlo a b : Nat) : Int), .int .u64 ((Fq.rhi a b : Nat) : Int)]) ∧ Kp w w' := by
    obtain ⟨n, m, hm, rfl⟩ := Fq.exD a ha
    obtain ⟨n', m', hm', rfl⟩ := Fq.exD b hb
    exact fun w => Fq.rread_ n n' m m' hm hm' w
  generalize ((Fq.rlo a b : Nat) : Int) = LO at hr ⊢
  generalize ((Fq.rhi a b : Nat) : Int) = HI at hr ⊢
  generalize (a : Int) = X at hr ⊢
  generalize (b : Int) = Y at hr ⊢
  have hfl := fldJ1_ (.int .u64 LO) (.int .u64 HI)
  clear ha hb
  go_enter Try.func10, Try.ntmps10
  go_wp2_with (first | (go_at_call 19; refine (hr _).mono ?_; rintro e w1 ⟨rfl, g1⟩; have k1 : Kp w w1 := Kp.trans ((Kp.refl w).alloc _) g1))
  exact bodyPost_ret (v := .int .u64 HI) (by simp [results, Try.results10, go_sem]) rfl ⟨rfl, k1⟩
end Go.Proofs.Ytlplidleeckefaa
