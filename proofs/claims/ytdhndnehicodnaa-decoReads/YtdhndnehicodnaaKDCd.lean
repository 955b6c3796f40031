import Derived.Test.YtdhndnehicodnaaProg
import Derived.Test.YtdhndnehicodnaaKXA0
import Derived.Test.YtdhndnehicodnaaKQM
import Derived.Test.YtdhndnehicodnaaKQA
import Derived.Test.YtdhndnehicodnaaKXQU
import Derived.Test.YtdhndnehicodnaaKEM
import Derived.Test.YtdhndnehicodnaaKEN
import Derived.Test.YtdhndnehicodnaaKEA
import Derived.Test.YtdhndnehicodnaaKEB
import Derived.Test.YtdhndnehicodnaaKEH
import Derived.Test.YtdhndnehicodnaaKEK
import Derived.Test.YtdhndnehicodnaaKEO
import Derived.Test.YtdhndnehicodnaaKER
import Derived.Test.YtdhndnehicodnaaKES
import Derived.Test.YtdhndnehicodnaaKNRv
import Derived.Test.YtdhndnehicodnaaKNRm
import Derived.Test.YtdhndnehicodnaaKNRa
import Derived.Test.YtdhndnehicodnaaKNRb
import Derived.Test.YtdhndnehicodnaaKNRc
import Derived.Test.YtdhndnehicodnaaKNRj
import Derived.Test.YtdhndnehicodnaaKNKa
import Derived.Test.YtdhndnehicodnaaKDCa
import Derived.Test.YtdhndnehicodnaaKDCb
import Derived.Test.YtdhndnehicodnaaKDCc
import Derived.WalkKit
import Derived.ProofKit
import Derived.RowKit3
import Derived.WalkSpells
import Derived.StillTactics
import Derived.Deep.QuietTactic
import Derived.BigQuiet
import Derived.Below
import Derived.Deep.OwnRows
import Derived.OwnWalk
import Derived.Laws.BitsAllLaws
import Derived.Laws.Slices
import Derived.Laws.Bits64b
import Derived.Laws.FloatArith
import Derived.Deep.RegionHeld3
import Derived.Deep.CutRange
import Derived.Deep.DeepCutAuto
namespace Go.Proofs.Ytdhndnehicodnaa
open Go.RowKit

/-- what is read of a decorated interval: the ends' patterns and the decoration -/
def dL (a b : Nat) (L : Int) (R : Int) : Nat := if R = 0 ∨ (L = 9218868437227405312 ∧ ¬ (a = 9218868437227405312 ∧ b = 18442240474082181120)) then 9218868437227405312 else pw L
def dH (a b : Nat) (L H : Int) (R : Int) : Nat := if R = 0 ∨ (L = 9218868437227405312 ∧ ¬ (a = 9218868437227405312 ∧ b = 18442240474082181120)) then 18442240474082181120 else pw H
def dR (a b : Nat) (L : Int) (R : Int) : Int := if R = 0 ∨ (L = 9218868437227405312 ∧ ¬ (a = 9218868437227405312 ∧ b = 18442240474082181120)) then 0 else R
def dN (L H D : Int) : Int := fallN D (!decide (L = 9218868437227405312)) true (!decide (L = 9218868437227405312 ∨ L = -9218868437227405312) && !decide (H = 9218868437227405312 ∨ H = -9218868437227405312))
theorem dread_ (a b : Nat) (L H D : Int) (hx : Rd a b L H) (w : World) : Calls Try.prog 5 #[.agg #[.float .f64 a, .float .f64 b, .int .i64 D]] w fun e w' => e = .returned (.agg #[.float .f64 (dL a b L (dN L H D)), .float .f64 (dH a b L H (dN L H D)), .int .i64 (dR a b L (dN L H D))]) ∧ Kp w w' := by
  have hd := hx.vd
  have r2 := Rd.of hd
  have hv := isemp9_ (pw L) (pw H) L H r2
  have hc := common9_ (pw L) (pw H) L H r2
  have hf := fall_ D (!decide (L = 9218868437227405312)) true (!decide (L = 9218868437227405312 ∨ L = -9218868437227405312) && !decide (H = 9218868437227405312 ∨ H = -9218868437227405312))
  unfold dL dH dR
  by_cases c : L = 9218868437227405312
  · have u1 : (FloatKind.f64.format.order a (pw L) == some Ordering.eq) = decide (a = 9218868437227405312) := by rw [c, pw_I]; exact Fq.feqI a hx.1
    have u2 : (FloatKind.f64.format.order b (pw H) == some Ordering.eq) = decide (b = 18442240474082181120) := by
      have e : H = -9218868437227405312 := by unfold VdZ at hd; omega
      rw [e, pw_MI]; exact Fq.feqM b hx.2.1
    by_cases e : a = 9218868437227405312 ∧ b = 18442240474082181120
    · rw [decide_eq_true e.1] at u1
      rw [decide_eq_true e.2] at u2
      rw [decide_eq_true c] at hv
      by_cases z : dN L H D = 0
      · rw [if_pos (Or.inl z), if_pos (Or.inl z), if_pos (Or.inl z)]
        unfold dN at z
        rw [z, decide_eq_true c] at hf
        rw [decide_eq_true c] at z
        exact dreadE_ a b _ _ D 0 _ hx.call hv hc hf u1 u2 rfl w
      · rw [if_neg (fun h => h.elim z (fun h => h.2 e)), if_neg (fun h => h.elim z (fun h => h.2 e)), if_neg (fun h => h.elim z (fun h => h.2 e))]
        unfold dN at z ⊢
        rw [decide_eq_true c] at hf z ⊢
        exact dreadD_ a b _ _ D _ _ hx.call hv hc hf u1 u2 (by simpa using z) w
    · rw [if_pos (Or.inr ⟨c, e⟩), if_pos (Or.inr ⟨c, e⟩), if_pos (Or.inr ⟨c, e⟩)]
      rw [decide_eq_true c] at hv
      exact dreadC_ a b _ _ D hx.call hv _ _ u1 u2 (by by_cases c1 : a = 9218868437227405312 <;> by_cases c2 : b = 18442240474082181120 <;> simp [c1, c2]; exact e ⟨c1, c2⟩) w
  · rw [decide_eq_false c] at hv
    by_cases z : dN L H D = 0
    · rw [if_pos (Or.inl z), if_pos (Or.inl z), if_pos (Or.inl z)]
      unfold dN at z
      rw [z, decide_eq_false c] at hf
      exact dreadB_ a b _ _ D 0 _ hx.call hv hc hf rfl w
    · rw [if_neg (fun h => h.elim z (fun h => c h.1)), if_neg (fun h => h.elim z (fun h => c h.1)), if_neg (fun h => h.elim z (fun h => c h.1))]
      unfold dN at z ⊢
      rw [decide_eq_false c] at hf z ⊢
      exact dreadA_ a b _ _ D _ _ hx.call hv hc hf (by simpa using z) w
set_option maxRecDepth 20000 in
set_option maxHeartbeats 1000000 in
theorem setA_ (a b L H : Nat) (D R : Int) (hr : ∀ w : World, Calls Try.prog 5 #[.agg #[.float .f64 a, .float .f64 b, .int .i64 D]] w fun e w' => e = .returned (.agg #[.float .f64 L, .float .f64 H, .int .i64 R]) ∧ Kp w w') (w : World) : Calls Try.prog 8 #[.agg #[.float .f64 a, .float .f64 b], .int .i64 D] w fun e w' => e = .returned (.agg #[.float .f64 L, .float .f64 H, .int .i64 R]) ∧ Kp w w' := by
  go_enter Try.func8, Try.ntmps8
  go_wp2_with (first | (go_at_call 5; refine (hr _).mono ?_; rintro e w5 ⟨rfl, g5⟩; have k5 : Kp w w5 := Kp.trans (((Kp.refl w).alloc _).alloc _) g5; obtain ⟨r0, r1, r2, r3, r4, r5⟩ := H3c.keep (H3c.two w #[.float .f64 a, .float .f64 b] (.float .f64 0) (.float .f64 0) (.int .i64 0) 30 32) g5))
  exact bodyPost_ret (v := .agg #[.float .f64 L, .float .f64 H, .int .i64 R]) (by simp [results, Try.results8, go_sem, r0, r1, r2]) rfl ⟨rfl, (((k5.setCell (by simp) _).setCell (by simp) _).setCell (by simp) _)⟩
set_option maxRecDepth 20000 in
set_option maxHeartbeats 1000000 in
theorem newA_ (a b L H : Nat) (R : Int) (hr : ∀ w : World, Calls Try.prog 8 #[.agg #[.float .f64 a, .float .f64 b], .int .i64 16] w fun e w' => e = .returned (.agg #[.float .f64 L, .float .f64 H, .int .i64 R]) ∧ Kp w w') (w : World) : Calls Try.prog 10 #[.agg #[.float .f64 a, .float .f64 b]] w fun e w' => e = .returned (.agg #[.float .f64 L, .float .f64 H, .int .i64 R]) ∧ Kp w w' := by
  go_enter Try.func10, Try.ntmps10
  go_wp2_with (first | (go_at_call 8; refine (hr _).mono ?_; rintro e w5 ⟨rfl, g5⟩; have k5 : Kp w w5 := Kp.trans (((Kp.refl w).alloc _).alloc _) g5; obtain ⟨r0, r1, r2, r3, r4, r5⟩ := H3c.keep (H3c.two w #[.float .f64 a, .float .f64 b] (.float .f64 0) (.float .f64 0) (.int .i64 0) 30 32) g5))
  exact bodyPost_ret (v := .agg #[.float .f64 L, .float .f64 H, .int .i64 R]) (by simp [results, Try.results10, go_sem, r0, r1, r2]) rfl ⟨rfl, (((k5.setCell (by simp) _).setCell (by simp) _).setCell (by simp) _)⟩
theorem fldD_ (x y z : Value) (w : World) : (Instr.field 32 (.agg #[x, y, z]) 1).run Try.prog w = .ok z w := by kernel_rfl
set_option maxRecDepth 20000 in
set_option maxHeartbeats 1000000 in
theorem isnaiA_ (a b L H : Nat) (D R : Int) (Z : Bool) (hr : ∀ w : World, Calls Try.prog 5 #[.agg #[.float .f64 a, .float .f64 b, .int .i64 D]] w fun e w' => e = .returned (.agg #[.float .f64 L, .float .f64 H, .int .i64 R]) ∧ Kp w w') (t : (R == 0) = Z) (w : World) : Calls Try.prog 14 #[.agg #[.float .f64 a, .float .f64 b, .int .i64 D]] w fun e w' => e = .returned (.bool Z) ∧ Kp w w' := by
  have hfl := fldD_ (.float .f64 L) (.float .f64 H) (.int .i64 R)
  cases Z
  all_goals (
    go_enter Try.func14, Try.ntmps14
    go_wp2_with (first | (go_at_call 5; refine (hr _).mono ?_; rintro e w5 ⟨rfl, g5⟩; have k5 : Kp w w5 := Kp.trans ((Kp.refl w).alloc _) g5))
    exact bodyPost_ret (v := .bool _) (by simp [results, Try.results14, go_sem]) rfl ⟨rfl, k5⟩)
end Go.Proofs.Ytdhndnehicodnaa
