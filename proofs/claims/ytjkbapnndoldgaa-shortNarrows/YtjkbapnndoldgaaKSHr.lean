import Derived.Test.YtjkbapnndoldgaaKNRa
import Derived.Test.YtjkbapnndoldgaaKSHc
namespace Go.Proofs.Ytjkbapnndoldgaa
open Go.RowKit

set_option linter.unusedVariables false
theorem pla_wS (n : Bool) (m : Nat) (h : m < 2147483648) : Fq.wS (n && !(m == 0)) m = Sg.pla (Fq.wS n m) := by
  unfold Sg.pla Fq.wS
  cases n
  · simp <;> omega
  · by_cases c : m = 0
    · simp [c]
    · simp [c]
set_option maxRecDepth 20000 in
set_option maxHeartbeats 1000000 in
theorem empty_s_ (w : World) : Calls Try.prog 39 #[] w fun e w' => e = .returned (.agg #[.float .f32 2139095040, .float .f32 4286578688]) ∧ Kp w w' := by
  have c1 : ∀ w : World, (convert 38 26 (.float .f64 9218868437227405312)).run Try.prog w = .ok (.float .f32 2139095040) w := fun w => by kernel_rfl
  have c2 : ∀ w : World, (convert 38 26 (.float .f64 18442240474082181120)).run Try.prog w = .ok (.float .f32 4286578688) w := fun w => by kernel_rfl
  go_enter Try.func39, Try.ntmps39
  go_wp2_with (first | (go_at_call 62; (first | refine (Fq.inf1_ _).mono ?_ | refine (Fq.infm_ _).mono ?_); rintro e w' ⟨rfl, rfl⟩))
  exact bodyPost_ret (v := .agg #[.float .f32 2139095040, .float .f32 4286578688]) (by simp [results, Try.results39, go_sem]) rfl ⟨rfl, (by repeat (with_reducible (first | assumption | exact Kp.refl _ | apply Kp.drew | apply Kp.alloc | apply Kp.drewN | (refine Kp.setCell ?_ (by first | omega | (simp <;> omega)) _) | (refine Kp.trans ?_ (by assumption)))))⟩
theorem plain_s9_ (x : Nat) (h : x < 4294967296) (w : World) : Calls Try.prog 55 #[.float .f32 x] w fun e w' => e = .returned (.float .f32 (Sg.pla x)) ∧ w' = w := by
  obtain ⟨n, m, hm, rfl⟩ := Fq.exS x h
  have g := Fq.plain_s n m hm w
  rw [pla_wS n m hm] at g
  exact g

set_option linter.unusedVariables false
namespace Sg
def Rd (a b : Nat) (L H : Int) : Prop := a < 4294967296 ∧ b < 4294967296 ∧ VdZ L H ∧ rlo a b = pw L ∧ rhi a b = pw H
theorem Rd.ex (a b : Nat) (ha : a < 4294967296) (hb : b < 4294967296) : ∃ L H, Rd a b L H := by
  obtain ⟨L, H, h1, h2, h3⟩ := read_pw a b ha hb
  exact ⟨L, H, ha, hb, h1, h2, h3⟩
theorem Rd.of {L H : Int} (h : VdZ L H) : Rd (pw L) (pw H) L H := ⟨pw_lt L h.lo, pw_lt H h.hi, h, (reread9 L H h).1, (reread9 L H h).2⟩
theorem Rd.vd {a b : Nat} {L H : Int} (h : Rd a b L H) : VdZ L H := h.2.2.1
theorem min9_ (x y : Int) (hx : BdZ x) (hy : BdZ y) (ts : Array TypeId) (t : TypeId) (w : World) : (Builtin.min_ ts t #[.float .f32 (pw x), .float .f32 (pw y)]).run Try.prog w = .ok (.float .f32 (pw (min x y))) w := by
  have h := min7_ (decide (x < 0)) (decide (y < 0)) x.natAbs y.natAbs (abs_pw x hx) (abs_pw y hy) (pw_ne x hx) (pw_ne y hy) ts t w
  rw [plz_pw, plz_pw] at h
  have e : (if y < x then pw y else pw x) = pw (min x y) := by
    by_cases c : y < x
    · rw [if_pos c, show min x y = y from by omega]
    · rw [if_neg c, show min x y = x from by omega]
  exact e ▸ h
theorem max9_ (x y : Int) (hx : BdZ x) (hy : BdZ y) (ts : Array TypeId) (t : TypeId) (w : World) : (Builtin.max_ ts t #[.float .f32 (pw x), .float .f32 (pw y)]).run Try.prog w = .ok (.float .f32 (pw (max x y))) w := by
  have h := max7_ (decide (x < 0)) (decide (y < 0)) x.natAbs y.natAbs (abs_pw x hx) (abs_pw y hy) (pw_ne x hx) (pw_ne y hy) ts t w
  rw [plz_pw, plz_pw] at h
  have e : (if y > x then pw y else pw x) = pw (max x y) := by
    by_cases c : y > x
    · rw [if_pos c, show max x y = y from by omega]
    · rw [if_neg c, show max x y = x from by omega]
  exact e ▸ h
end Sg
theorem noTop (n : Bool) (m X : Nat) (hm : m < 9223372036854775808) (hX : X = Fq.wD n m) : bits BinOp.andNot IntKind.u64 (X : Int) 9223372036854775808 = (m : Int) ∧ X < 18446744073709551616 := by
  have hX9 : X < 18446744073709551616 := by rw [hX]; unfold Fq.wD; split <;> omega
  have h := u64_andNot_nat X 9223372036854775808 hX9 (by decide)
  have e : X % 9223372036854775808 = m := by rw [hX]; unfold Fq.wD; split <;> omega
  rw [show 18446744073709551615 - 9223372036854775808 = 2 ^ 63 - 1 from by decide, Nat.and_two_pow_sub_one_eq_mod, show (2 : Nat) ^ 63 = 9223372036854775808 from by decide, e] at h
  exact ⟨h, hX9⟩
set_option maxRecDepth 20000 in
set_option maxHeartbeats 400000 in
theorem isnan_ (n : Bool) (m : Nat) (hm : m < 9223372036854775808) (w : World) : Calls Try.prog 67 #[.int .u64 ((Fq.wD n m : Nat) : Int)] w fun e w' => e = .returned (.bool (decide (9218868437227405312 < m))) ∧ w' = w := by
  obtain ⟨X, hX⟩ : ∃ X, X = Fq.wD n m := ⟨_, rfl⟩
  have f1 := (noTop n m X hm hX).1
  rw [← hX]
  clear hX hm
  by_cases c : 9218868437227405312 < m
  · have t1 : 9218868437227405312 < (m : Int) := by omega
    rw [decide_eq_true c]
    clear c
    go_enter Try.func67, Try.ntmps67
    go_wp2
    exact bodyPost_ret (v := .bool true) (by simp [results, Try.results67, go_sem] <;> omega) rfl ⟨rfl, rfl⟩
  · have t1 : ¬ (9218868437227405312 < (m : Int)) := by omega
    rw [decide_eq_false c]
    clear c
    go_enter Try.func67, Try.ntmps67
    go_wp2
    exact bodyPost_ret (v := .bool false) (by simp [results, Try.results67, go_sem] <;> omega) rfl ⟨rfl, rfl⟩
set_option maxRecDepth 20000 in
set_option maxHeartbeats 400000 in
theorem isinf_ (n : Bool) (m : Nat) (hm : m < 9223372036854775808) (w : World) : Calls Try.prog 68 #[.int .u64 ((Fq.wD n m : Nat) : Int)] w fun e w' => e = .returned (.bool (decide (m = 9218868437227405312))) ∧ w' = w := by
  obtain ⟨X, hX⟩ : ∃ X, X = Fq.wD n m := ⟨_, rfl⟩
  have f1 := (noTop n m X hm hX).1
  rw [← hX]
  clear hX hm
  by_cases c : m = 9218868437227405312
  · have t1 : ((m : Int) == 9218868437227405312) = true := by rw [c]; rfl
    rw [decide_eq_true c]
    clear c
    go_enter Try.func68, Try.ntmps68
    go_wp2
    exact bodyPost_ret (v := .bool true) (by simp [results, Try.results68, go_sem]) rfl ⟨rfl, rfl⟩
  · have t1 : ((m : Int) == 9218868437227405312) = false := by simp; omega
    rw [decide_eq_false c]
    clear c
    go_enter Try.func68, Try.ntmps68
    go_wp2
    exact bodyPost_ret (v := .bool false) (by simp [results, Try.results68, go_sem]) rfl ⟨rfl, rfl⟩
end Go.Proofs.Ytjkbapnndoldgaa
