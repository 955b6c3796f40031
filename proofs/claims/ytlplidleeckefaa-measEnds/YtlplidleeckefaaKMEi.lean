import Derived.Test.YtlplidleeckefaaProg
import Derived.Test.YtlplidleeckefaaKXA0
import Derived.Test.YtlplidleeckefaaKXM
import Derived.Test.YtlplidleeckefaaKXY
import Derived.Test.YtlplidleeckefaaKXQF
import Derived.Test.YtlplidleeckefaaKQA
import Derived.Test.YtlplidleeckefaaKXQU
import Derived.Test.YtlplidleeckefaaKXEA
import Derived.Test.YtlplidleeckefaaKXEE
import Derived.Test.YtlplidleeckefaaKMR7Q
import Derived.Test.YtlplidleeckefaaKXMR
import Derived.Test.YtlplidleeckefaaKXM3
import Derived.Test.YtlplidleeckefaaKXO
import Derived.Test.YtlplidleeckefaaKXO3
import Derived.WalkKit
import Derived.ProofKit
import Derived.RowKit3
import Derived.WalkSpells
import Derived.StillTactics
import Derived.Deep.QuietTactic
import Derived.BigQuiet
import Derived.Below
import Derived.Deep.OwnRows
import Derived.OwnWalk
import Derived.Laws.BitsAllLaws
import Derived.Laws.Slices
import Derived.Laws.Bits64b
import Derived.Laws.FloatArith
import Derived.Deep.RegionHeld3
namespace Go.Proofs.Ytlplidleeckefaa
open Go.RowKit
set_option maxRecDepth 20000 in
set_option maxHeartbeats 1000000 in
theorem in8_ (a b : Nat) (w : World) : Calls Try.prog 7 #[.agg #[.int .u64 ((a : Nat) : Int), .int .u64 ((b : Nat) : Int)]] w fun e w' => e = .returned (.agg #[.float .f64 a, .float .f64 b]) ∧ Kp w w' := by
  have h1 := Fq.ff64 a
  have h2 := Fq.ff64 b
  generalize (a : Int) = X at h1 ⊢
  generalize (b : Int) = Y at h2 ⊢
  go_enter Try.func7, Try.ntmps7
  go_wp2
  go_region_held3 (fun w' => w'.cell? ⟨w.heap.size, 0, none⟩ = some (.int .u64 X) ∧ w'.cell? ⟨w.heap.size, 1, none⟩ = some (.int .u64 Y)) (simp [go_sem]) (fail)
  go_wp2
  exact bodyPost_ret (v := .agg #[.float .f64 a, .float .f64 b]) (by simp [results, Try.results7, go_sem]) rfl ⟨rfl, (by repeat (with_reducible (first | assumption | exact Kp.refl _ | apply Kp.drew | apply Kp.alloc | apply Kp.drewN | (refine Kp.setCell ?_ (by first | omega | (simp <;> omega)) _) | (refine Kp.trans ?_ (by assumption)))))⟩
set_option maxRecDepth 20000 in
set_option maxHeartbeats 1000000 in
theorem is8_ (n : Bool) (m : Nat) (hm : m ≤ 9218868437227405312) (w : World) : Calls Try.prog 5 #[.float .f64 (Fq.wD n m), .int .u64 ((Fq.wD n m : Nat) : Int)] w fun e w' => e = .returned (.bool true) ∧ w' = w := by
  have hn := Fq.isnan6_ n m (by omega)
  rw [decide_eq_false (by omega)] at hn
  have hf := Fq.fb64 (Fq.wD n m)
  generalize Fq.wD n m = X at hn hf ⊢
  clear hm
  go_enter Try.func5, Try.ntmps5
  go_wp2_with (first | (go_at_call 15; refine (hn _).mono ?_; rintro e w' ⟨rfl, rfl⟩))
  exact bodyPost_ret (v := .bool true) (by simp [results, Try.results5, go_sem]) rfl ⟨rfl, rfl⟩
set_option maxRecDepth 20000 in
set_option maxHeartbeats 1000000 in
theorem isN8_ (w : World) : Calls Try.prog 5 #[.float .f64 9221120237041090561, .int .u64 9221120237041090561] w fun e w' => e = .returned (.bool true) ∧ w' = w := by
  have hn : ∀ w : World, Calls Try.prog 15 #[.int .u64 9221120237041090561] w fun e w' => e = .returned (.bool true) ∧ w' = w := Fq.isnan6_ false 9221120237041090561 (by decide)
  have hq : (FloatKind.f64.format.order 9221120237041090561 9221120237041090561 == some Ordering.eq) = false := by
    have h := Fq.feq false false 9221120237041090561 9221120237041090561 (by decide) (by decide)
    rw [decide_eq_false (by omega)] at h
    exact h
  obtain ⟨X, hX⟩ : ∃ X : Nat, X = 9221120237041090561 := ⟨_, rfl⟩
  rw [← hX] at hq ⊢
  clear hX
  go_enter Try.func5, Try.ntmps5
  go_wp2_with (first | (go_at_call 15; refine (hn _).mono ?_; rintro e w' ⟨rfl, rfl⟩))
  exact bodyPost_ret (v := .bool true) (by simp [results, Try.results5, go_sem] <;> simpa using hq) rfl ⟨rfl, rfl⟩
end Go.Proofs.Ytlplidleeckefaa
