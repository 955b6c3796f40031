import Derived.Test.YtcckdceijgdgoaaKDCc
import Derived.Test.YtcckdceijgdgoaaKPKl
namespace Go.Proofs.Ytcckdceijgdgoaa
open Go.RowKit

def dL (a b : Nat) (L : Int) (R : Int) : Nat := if R = 0 ∨ (L = 9218868437227405312 ∧ ¬ (a = 9218868437227405312 ∧ b = 18442240474082181120)) then 9218868437227405312 else pw L
def dH (a b : Nat) (L H : Int) (R : Int) : Nat := if R = 0 ∨ (L = 9218868437227405312 ∧ ¬ (a = 9218868437227405312 ∧ b = 18442240474082181120)) then 18442240474082181120 else pw H
def dR (a b : Nat) (L : Int) (R : Int) : Int := if R = 0 ∨ (L = 9218868437227405312 ∧ ¬ (a = 9218868437227405312 ∧ b = 18442240474082181120)) then 0 else R
def dN (L H D : Int) : Int := fallN D (!decide (L = 9218868437227405312)) true (!decide (L = 9218868437227405312 ∨ L = -9218868437227405312) && !decide (H = 9218868437227405312 ∨ H = -9218868437227405312))
theorem dread_ (a b : Nat) (L H D : Int) (hx : Rd a b L H) (w : World) : Calls Try.prog 38 #[.agg #[.float .f64 a, .float .f64 b, .int .i64 D]] w fun e w' => e = .returned (.agg #[.float .f64 (dL a b L (dN L H D)), .float .f64 (dH a b L H (dN L H D)), .int .i64 (dR a b L (dN L H D))]) ∧ Kp w w' := by
  have hd := hx.vd
  have r2 := Rd.of hd
  have hv := isemp9_ (pw L) (pw H) L H r2
  have hc := common9_ (pw L) (pw H) L H r2
  have hf := fall_ D (!decide (L = 9218868437227405312)) true (!decide (L = 9218868437227405312 ∨ L = -9218868437227405312) && !decide (H = 9218868437227405312 ∨ H = -9218868437227405312))
  unfold dL dH dR
  by_cases c : L = 9218868437227405312
  · have u1 : (FloatKind.f64.format.order a (pw L) == some Ordering.eq) = decide (a = 9218868437227405312) := by rw [c, pw_I]; exact Fq.feqI a hx.1
    have u2 : (FloatKind.f64.format.order b (pw H) == some Ordering.eq) = decide (b = 18442240474082181120) := by
      have e : H = -9218868437227405312 := by unfold VdZ at hd; omega
      rw [e, pw_MI]; exact Fq.feqM b hx.2.1
    by_cases e : a = 9218868437227405312 ∧ b = 18442240474082181120
    · rw [decide_eq_true e.1] at u1
      rw [decide_eq_true e.2] at u2
      rw [decide_eq_true c] at hv
      by_cases z : dN L H D = 0
      · rw [if_pos (Or.inl z), if_pos (Or.inl z), if_pos (Or.inl z)]
        unfold dN at z
        rw [z, decide_eq_true c] at hf
        rw [decide_eq_true c] at z
        exact dreadE_ a b _ _ D 0 _ hx.call hv hc hf u1 u2 rfl w
      · rw [if_neg (fun h => h.elim z (fun h => h.2 e)), if_neg (fun h => h.elim z (fun h => h.2 e)), if_neg (fun h => h.elim z (fun h => h.2 e))]
        unfold dN at z ⊢
        rw [decide_eq_true c] at hf z ⊢
        exact dreadD_ a b _ _ D _ _ hx.call hv hc hf u1 u2 (by simpa using z) w
    · rw [if_pos (Or.inr ⟨c, e⟩), if_pos (Or.inr ⟨c, e⟩), if_pos (Or.inr ⟨c, e⟩)]
      rw [decide_eq_true c] at hv
      exact dreadC_ a b _ _ D hx.call hv _ _ u1 u2 (by by_cases c1 : a = 9218868437227405312 <;> by_cases c2 : b = 18442240474082181120 <;> simp [c1, c2]; exact e ⟨c1, c2⟩) w
  · rw [decide_eq_false c] at hv
    by_cases z : dN L H D = 0
    · rw [if_pos (Or.inl z), if_pos (Or.inl z), if_pos (Or.inl z)]
      unfold dN at z
      rw [z, decide_eq_false c] at hf
      exact dreadB_ a b _ _ D 0 _ hx.call hv hc hf rfl w
    · rw [if_neg (fun h => h.elim z (fun h => c h.1)), if_neg (fun h => h.elim z (fun h => c h.1)), if_neg (fun h => h.elim z (fun h => c h.1))]
      unfold dN at z ⊢
      rw [decide_eq_false c] at hf z ⊢
      exact dreadA_ a b _ _ D _ _ hx.call hv hc hf (by simpa using z) w
open Go
namespace B8
theorem pla_lt (a : Nat) (ha : a < 18446744073709551616) : Fq.pla a < 18446744073709551616 := by unfold Fq.pla; split <;> omega
end B8
end Go.Proofs.Ytcckdceijgdgoaa
