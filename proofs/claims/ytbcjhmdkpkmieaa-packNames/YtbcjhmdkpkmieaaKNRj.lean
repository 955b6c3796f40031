import Derived.Test.YtbcjhmdkpkmieaaKNRa
import Derived.Deep.CutRange
import Derived.Deep.DeepCutAuto
namespace Go.Proofs.Ytbcjhmdkpkmieaa
open Go.RowKit
set_option maxRecDepth 20000 in
set_option maxHeartbeats 400000 in
theorem isinf6_ (n : Bool) (m : Nat) (hm : m < 9223372036854775808) (w : World) : Calls Try.prog 64 #[.int .u64 ((Fq.wD n m : Nat) : Int)] w fun e w' => e = .returned (.bool (decide (m = 9218868437227405312))) ∧ w' = w := by
  obtain ⟨X, hX⟩ : ∃ X, X = Fq.wD n m := ⟨_, rfl⟩
  have f1 := (Fq.noTop6 n m X hm hX).1
  rw [← hX]
  clear hX hm
  by_cases c : m = 9218868437227405312
  · have t1 : ((m : Int) == 9218868437227405312) = true := by rw [c]; rfl
    rw [decide_eq_true c]
    clear c
    go_enter Try.func64, Try.ntmps64
    go_wp2
    exact bodyPost_ret (v := .bool true) (by simp [results, Try.results64, go_sem] <;> simpa using t1) rfl ⟨rfl, rfl⟩
  · have t1 : ((m : Int) == 9218868437227405312) = false := by simp; omega
    rw [decide_eq_false c]
    clear c
    go_enter Try.func64, Try.ntmps64
    go_wp2
    exact bodyPost_ret (v := .bool false) (by simp [results, Try.results64, go_sem] <;> simpa using t1) rfl ⟨rfl, rfl⟩
theorem rempty9_ (w : World) : Calls Try.prog 60 #[] w fun e w' => e = .returned (.agg #[.int .u64 9218868437227405312, .int .u64 18442240474082181120]) ∧ Kp w w' := by
  refine (Fq.rempty_ w).mono ?_
  rintro e w' ⟨rfl, rfl⟩
  exact ⟨rfl, (Kp.refl w).alloc _⟩
end Go.Proofs.Ytbcjhmdkpkmieaa
