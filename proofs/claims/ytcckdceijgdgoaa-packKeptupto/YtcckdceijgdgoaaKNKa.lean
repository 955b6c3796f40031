import Derived.Test.YtcckdceijgdgoaaKPKk
namespace Go.Proofs.Ytcckdceijgdgoaa
open Go.RowKit
open Ieee in
theorem fgt8 (n n' : Bool) (m m' : Nat) (h : m < 9223372036854775808) (h' : m' < 9223372036854775808) : (FloatKind.f64.format.order (Fq.wD n m) (Fq.wD n' m') == some Ordering.gt) = decide (m ≤ 9218868437227405312 ∧ m' ≤ 9218868437227405312 ∧ Fq.plz n' m' < Fq.plz n m) := by
  by_cases c : 9218868437227405312 < m
  · rw [Fq.ordD_nanl n m _ c h, decide_eq_false (by omega)]; rfl
  by_cases c' : 9218868437227405312 < m'
  · rw [Fq.ordD_nanr n' m' _ c' h', decide_eq_false (by omega)]; rfl
  rw [Fq.ordD n n' m m' (by omega) (by omega)]
  rcases Int.lt_trichotomy (Fq.plz n m) (Fq.plz n' m') with g | g | g
  · rw [Fq.cmp_lt g, decide_eq_false (by omega)]; rfl
  · rw [Fq.cmp_eq g, decide_eq_false (by omega)]; rfl
  · rw [Fq.cmp_gt g, decide_eq_true ⟨by omega, by omega, by omega⟩]; rfl
set_option maxRecDepth 20000 in
set_option maxHeartbeats 400000 in
theorem abs_ (n : Bool) (m : Nat) (hm : m < 9223372036854775808) (w : World) : Calls Try.prog 66 #[.float .f64 (Fq.wD n m)] w fun e w' => e = .returned (.float .f64 m) ∧ w' = w := by
  obtain ⟨X, hX⟩ : ∃ X, X = Fq.wD n m := ⟨_, rfl⟩
  have f1 := (Fq.noTop6 n m X hm hX).1
  rw [← hX]
  clear hX hm
  have h1 := Fq.fb64 X
  have h2 := Fq.ff64 m
  go_enter Try.func66, Try.ntmps66
  go_wp2
  exact bodyPost_ret (v := .float .f64 m) (by simp [results, Try.results66, go_sem]) rfl ⟨rfl, rfl⟩
set_option maxRecDepth 20000 in
set_option maxHeartbeats 400000 in
theorem isInfA_ (X R : Nat) (V : Bool) (h1 : ∀ w : World, Calls Try.prog 66 #[.float .f64 X] w fun e w' => e = .returned (.float .f64 R) ∧ w' = w) (t : (FloatKind.f64.format.order R 9218868437227405311 == some Ordering.gt) = V) (w : World) : Calls Try.prog 65 #[.float .f64 X, .int .i64 0] w fun e w' => e = .returned (.bool V) ∧ w' = w := by
  go_enter Try.func65, Try.ntmps65
  go_wp2_with (first | (go_at_call 66; refine (h1 _).mono ?_; rintro e w' ⟨rfl, hw'⟩; obtain rfl := hw'.symm; clear hw'))
  exact bodyPost_ret (v := .bool V) (by simp [results, Try.results65, go_sem] <;> simpa using t) rfl ⟨rfl, rfl⟩
theorem isInf8_ (n : Bool) (m : Nat) (hm : m ≤ 9218868437227405312) (w : World) : Calls Try.prog 65 #[.float .f64 (Fq.wD n m), .int .i64 0] w fun e w' => e = .returned (.bool (decide (m = 9218868437227405312))) ∧ w' = w := by
  have t := fgt8 false false m 9218868437227405311 (by omega) (by decide)
  rw [show Fq.wD false m = m from rfl, show Fq.wD false 9218868437227405311 = 9218868437227405311 from rfl, show decide (m ≤ 9218868437227405312 ∧ 9218868437227405311 ≤ 9218868437227405312 ∧ Fq.plz false 9218868437227405311 < Fq.plz false m) = decide (m = 9218868437227405312) from by congr 1; apply propext; unfold Fq.plz; simp; omega] at t
  exact isInfA_ _ m _ (abs_ n m (by omega)) t w
theorem isInfP_ (x : Int) (h : BdZ x) (w : World) : Calls Try.prog 65 #[.float .f64 (pw x), .int .i64 0] w fun e w' => e = .returned (.bool (decide (x = 9218868437227405312 ∨ x = -9218868437227405312))) ∧ w' = w := by
  have g := isInf8_ (decide (x < 0)) x.natAbs (abs_pw x h) w
  rw [show decide (x.natAbs = 9218868437227405312) = decide (x = 9218868437227405312 ∨ x = -9218868437227405312) from by congr 1; apply propext; omega] at g
  exact g
set_option maxRecDepth 20000 in
set_option maxHeartbeats 2000000 in
theorem commonA_ (a b L H : Nat) (hx : ∀ w : World, Calls Try.prog 31 #[.agg #[.float .f64 a, .float .f64 b]] w fun e w' => e = .returned (.agg #[.float .f64 L, .float .f64 H]) ∧ Kp w w') (E1 E2 : Bool) (i1 : ∀ w : World, Calls Try.prog 65 #[.float .f64 L, .int .i64 0] w fun e w' => e = .returned (.bool E1) ∧ w' = w) (i2 : ∀ w : World, Calls Try.prog 65 #[.float .f64 H, .int .i64 0] w fun e w' => e = .returned (.bool E2) ∧ w' = w) (w : World) : Calls Try.prog 56 #[.agg #[.float .f64 a, .float .f64 b]] w fun e w' => e = .returned (.bool (!E1 && !E2)) ∧ Kp w w' := by
  cases E1 <;> cases E2
  all_goals (
    go_enter Try.func56, Try.ntmps56
    go_wp2_with (first | (go_at_call 31; refine (hx _).mono ?_; rintro e w1 ⟨rfl, g1⟩; have k1 : Kp w w1 := Kp.trans ((Kp.refl w).alloc _) g1; have q0 := Fq.H2.keep (Fq.H2.new w (.float .f64 a) (.float .f64 b) 31) g1; obtain ⟨x0, x1, x2, x3⟩ := id q0) | (go_at_call_of 65 (Value.float .f64 L); refine (i1 _).mono ?_; rintro e w3 ⟨rfl, hw3⟩; obtain rfl := hw3.symm; clear hw3) | (go_at_call_of 65 (Value.float .f64 H); refine (i2 _).mono ?_; rintro e w3 ⟨rfl, hw3⟩; obtain rfl := hw3.symm; clear hw3))
    exact bodyPost_ret (v := .bool _) (by simp [results, Try.results56, go_sem]) rfl ⟨rfl, (by repeat (with_reducible (first | assumption | exact Kp.refl _ | apply Kp.drew | apply Kp.alloc | apply Kp.drewN | (refine Kp.setCell ?_ (by first | omega | (simp <;> omega)) _) | (refine Kp.trans ?_ (by assumption)))))⟩)
theorem common9_ (a b : Nat) (L H : Int) (hx : Rd a b L H) (w : World) : Calls Try.prog 56 #[.agg #[.float .f64 a, .float .f64 b]] w fun e w' => e = .returned (.bool (!decide (L = 9218868437227405312 ∨ L = -9218868437227405312) && !decide (H = 9218868437227405312 ∨ H = -9218868437227405312))) ∧ Kp w w' :=
  commonA_ a b _ _ hx.call _ _ (isInfP_ L hx.vd.lo) (isInfP_ H hx.vd.hi) w
end Go.Proofs.Ytcckdceijgdgoaa
