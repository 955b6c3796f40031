import Derived.Test.YtbbmoaiilnfmgaaKWPw
import Derived.Test.YtbbmoaiilnfmgaaKWTa
namespace Go.Proofs.Ytbbmoaiilnfmgaa
open Go.RowKit
set_option linter.unusedVariables false

theorem run_bindA {α β : Type} (P : Program) (a : Sem α) (g : α → Sem β) (w : World) (v : α) (w1 : World) (h : a.run P w = .ok v w1) : (a >>= g).run P w = (g v).run P w1 := by
  rw [Sem.run_bind, h]; rfl
theorem toInt_ok (P : Program) (nm : String) (K : Nat) (hK : K = 1074) (k : Nat) (hk : 1 ≤ k ∧ k ≤ 4) (n : Bool) (m : Nat) (hm : m ≤ 9218868437227405312) (w : World) : (Extern.MathFloor.toIntegral nm (wayOf k) #[.float .f64 (Fq.wD n m)]).run P w = .ok (.float .f64 (Fq.wD n (cR K k n m))) w := by
  have h := int_w K hK k hk n m hm
  have hd : (∃ s a i, FloatKind.f64.decode (Fq.wD n m) = .number s a i) ∨ (∃ s, FloatKind.f64.decode (Fq.wD n m) = .infinity s) := by
    by_cases ci : m = 9218868437227405312
    · right
      refine ⟨n, ?_⟩
      show Ieee.double.read _ = _
      rw [ci, Fq.read_inf _ _ Fq.binfD (by rw [Fq.rgD n _ (by omega), Fq.infD]), Fq.ngD n _ (by omega)]
    · left
      exact ⟨_, _, _, Fq.read_fin Ieee.double (Fq.wD n m) (by rw [Fq.rgD n m (by omega), Fq.infD]; omega)⟩
  conv => lhs; arg 2; whnf
  rcases hd with ⟨s, a, i, hd⟩ | ⟨s, hd⟩ <;> (rw [hd] at h ⊢; rw [← h]; rfl)
theorem arch1_run (X : Nat) (w : World) : (callFunc 35 #[.float .f64 X]).run Try.prog w = ((Extern.MathFloor.toIntegral "math.archFloor" Ieee.Toward.down #[.float .f64 X]) >>= fun v => (pure (.value v) : Sem _)).run Try.prog w := by kernel_rfl
theorem arch1_ok (K : Nat) (hK : K = 1074) (n : Bool) (m : Nat) (hm : m ≤ 9218868437227405312) (w : World) : (callFunc 35 #[.float .f64 (Fq.wD n m)]).run Try.prog w = .ok (.value (.float .f64 (Fq.wD n (cR K 1 n m)))) w := by
  rw [arch1_run]
  have h := toInt_ok Try.prog "math.archFloor" K hK 1 (by decide) n m hm w
  rw [show wayOf 1 = Ieee.Toward.down from rfl] at h
  rw [run_bindA _ _ _ _ _ _ h]
  rfl
set_option maxRecDepth 20000 in
set_option maxHeartbeats 400000 in
theorem step1_ (K : Nat) (hK : K = 1074) (n : Bool) (m : Nat) (hm : m ≤ 9218868437227405312) (w : World) : Calls Try.prog 22 #[.float .f64 (Fq.wD n m)] w fun e w' => e = .returned (.float .f64 (Fq.wD n (cR K 1 n m))) ∧ w' = w := by
  have h1 := arch1_ok K hK n m hm
  generalize Fq.wD n (cR K 1 n m) = Z at h1 ⊢
  generalize Fq.wD n m = X at h1 ⊢
  clear hK hm
  go_enter Try.func22, Try.ntmps22
  go_wp2
  exact bodyPost_ret (v := .float .f64 Z) (by simp [results, Try.results22, go_sem]) rfl ⟨rfl, rfl⟩
theorem arch2_run (X : Nat) (w : World) : (callFunc 37 #[.float .f64 X]).run Try.prog w = ((Extern.MathFloor.toIntegral "math.archCeil" Ieee.Toward.up #[.float .f64 X]) >>= fun v => (pure (.value v) : Sem _)).run Try.prog w := by kernel_rfl
theorem arch2_ok (K : Nat) (hK : K = 1074) (n : Bool) (m : Nat) (hm : m ≤ 9218868437227405312) (w : World) : (callFunc 37 #[.float .f64 (Fq.wD n m)]).run Try.prog w = .ok (.value (.float .f64 (Fq.wD n (cR K 2 n m)))) w := by
  rw [arch2_run]
  have h := toInt_ok Try.prog "math.archCeil" K hK 2 (by decide) n m hm w
  rw [show wayOf 2 = Ieee.Toward.up from rfl] at h
  rw [run_bindA _ _ _ _ _ _ h]
  rfl
set_option maxRecDepth 20000 in
set_option maxHeartbeats 400000 in
theorem step2_ (K : Nat) (hK : K = 1074) (n : Bool) (m : Nat) (hm : m ≤ 9218868437227405312) (w : World) : Calls Try.prog 23 #[.float .f64 (Fq.wD n m)] w fun e w' => e = .returned (.float .f64 (Fq.wD n (cR K 2 n m))) ∧ w' = w := by
  have h1 := arch2_ok K hK n m hm
  generalize Fq.wD n (cR K 2 n m) = Z at h1 ⊢
  generalize Fq.wD n m = X at h1 ⊢
  clear hK hm
  go_enter Try.func23, Try.ntmps23
  go_wp2
  exact bodyPost_ret (v := .float .f64 Z) (by simp [results, Try.results23, go_sem]) rfl ⟨rfl, rfl⟩
theorem arch3_run (X : Nat) (w : World) : (callFunc 39 #[.float .f64 X]).run Try.prog w = ((Extern.MathFloor.toIntegral "math.archTrunc" Ieee.Toward.zero #[.float .f64 X]) >>= fun v => (pure (.value v) : Sem _)).run Try.prog w := by kernel_rfl
theorem arch3_ok (K : Nat) (hK : K = 1074) (n : Bool) (m : Nat) (hm : m ≤ 9218868437227405312) (w : World) : (callFunc 39 #[.float .f64 (Fq.wD n m)]).run Try.prog w = .ok (.value (.float .f64 (Fq.wD n (cR K 3 n m)))) w := by
  rw [arch3_run]
  have h := toInt_ok Try.prog "math.archTrunc" K hK 3 (by decide) n m hm w
  rw [show wayOf 3 = Ieee.Toward.zero from rfl] at h
  rw [run_bindA _ _ _ _ _ _ h]
  rfl
set_option maxRecDepth 20000 in
set_option maxHeartbeats 400000 in
theorem step3_ (K : Nat) (hK : K = 1074) (n : Bool) (m : Nat) (hm : m ≤ 9218868437227405312) (w : World) : Calls Try.prog 24 #[.float .f64 (Fq.wD n m)] w fun e w' => e = .returned (.float .f64 (Fq.wD n (cR K 3 n m))) ∧ w' = w := by
  have h1 := arch3_ok K hK n m hm
  generalize Fq.wD n (cR K 3 n m) = Z at h1 ⊢
  generalize Fq.wD n m = X at h1 ⊢
  clear hK hm
  go_enter Try.func24, Try.ntmps24
  go_wp2
  exact bodyPost_ret (v := .float .f64 Z) (by simp [results, Try.results24, go_sem]) rfl ⟨rfl, rfl⟩
theorem even_run (X : Nat) (w : World) : (callFunc 25 #[.float .f64 X]).run Try.prog w = ((Extern.MathFloor.toIntegral "math.RoundToEven" Ieee.Toward.even #[.float .f64 X]) >>= fun v => (pure (.value v) : Sem _)).run Try.prog w := by kernel_rfl
theorem step4_ (K : Nat) (hK : K = 1074) (n : Bool) (m : Nat) (hm : m ≤ 9218868437227405312) (w : World) : (callFunc 25 #[.float .f64 (Fq.wD n m)]).run Try.prog w = .ok (.value (.float .f64 (Fq.wD n (cR K 4 n m)))) w := by
  rw [even_run]
  have h := toInt_ok Try.prog "math.RoundToEven" K hK 4 (by decide) n m hm w
  rw [show wayOf 4 = Ieee.Toward.even from rfl] at h
  rw [run_bindA _ _ _ _ _ _ h]
  rfl
set_option maxRecDepth 20000 in
set_option maxHeartbeats 400000 in
theorem signA_ (X : Nat) (B1 B2 : Bool) (t1 : (FloatKind.f64.format.order X 0 == some Ordering.lt) = B1) (t2 : (FloatKind.f64.format.order X 0 == some Ordering.gt) = B2) (w : World) : Calls Try.prog 21 #[.float .f64 X] w fun e w' => e = .returned (.float .f64 (if B1 then 13830554455654793216 else if B2 then 4607182418800017408 else 0)) ∧ w' = w := by
  cases B1 <;> cases B2
  all_goals (
    go_enter Try.func21, Try.ntmps21
    go_wp2
    exact bodyPost_ret (v := .float .f64 _) (by simp [results, Try.results21, go_sem] <;> rfl) rfl ⟨rfl, rfl⟩)

theorem high_and (Y s : Nat) (hY : Y < 18446744073709551616) (hs : s ≤ 64) : Y &&& (18446744073709551616 - 2 ^ s) = Y / 2 ^ s * 2 ^ s := by
  have e : 18446744073709551616 - 2 ^ s = (2 ^ (64 - s) - 1) <<< s := by
    rw [Nat.shiftLeft_eq, Nat.sub_mul, ← Nat.pow_add, show 64 - s + s = 64 from by omega, Nat.one_mul]
  rw [e, ← Nat.shiftRight_eq_div_pow, ← Nat.shiftLeft_eq]
  apply Nat.eq_of_testBit_eq
  intro i
  rw [Nat.testBit_and, Nat.testBit_shiftLeft, Nat.testBit_shiftLeft, Nat.testBit_shiftRight, Nat.testBit_two_pow_sub_one]
  by_cases c : s ≤ i
  · rw [show s + (i - s) = i from by omega]
    by_cases c2 : i - s < 64 - s
    · simp [c, c2]
    · have hz : Y.testBit i = false := Nat.testBit_lt_two_pow (Nat.lt_of_lt_of_le hY (show 2 ^ 64 ≤ 2 ^ i from Nat.pow_le_pow_right (by decide) (by omega)))
      simp [hz]
  · simp [c]
theorem rb_e (n : Bool) (m X : Nat) (hm : m ≤ 9218868437227405312) (hX : X = Fq.wD n m) : bits BinOp.and IntKind.u64 ((X : Int) / 4503599627370496) 2047 = ((m / 4503599627370496 : Nat) : Int) := by
  have h : X < 18446744073709551616 := by rw [hX]; unfold Fq.wD; split <;> omega
  have e := u64_and_nat (X / 4503599627370496) 2047 (by omega) (by decide)
  have e2 : X / 4503599627370496 &&& 2047 = m / 4503599627370496 := by
    rw [show (2047 : Nat) = 2 ^ 11 - 1 from by decide, Nat.and_two_pow_sub_one_eq_mod, hX]
    unfold Fq.wD; split <;> omega
  rw [e2] at e
  exact e
theorem rb_s (n : Bool) (m X : Nat) (hm : m ≤ 9218868437227405312) (hX : X = Fq.wD n m) : bits BinOp.and IntKind.u64 (X : Int) 9223372036854775808 = ((Fq.wD n 0 : Nat) : Int) := by
  have h : X < 18446744073709551616 := by rw [hX]; unfold Fq.wD; split <;> omega
  have e := u64_and_nat X 9223372036854775808 h (by decide)
  have e2 : X &&& 9223372036854775808 = Fq.wD n 0 := by
    have g := high_and X 63 h (by decide)
    rw [show 18446744073709551616 - 2 ^ 63 = 9223372036854775808 from by decide, show (2 : Nat) ^ 63 = 9223372036854775808 from by decide] at g
    rw [g, hX]
    unfold Fq.wD; cases n <;> simp <;> omega
  rw [e2] at e
  exact e
theorem rb_o (n : Bool) : bits BinOp.or IntKind.u64 ((Fq.wD n 0 : Nat) : Int) 4607182418800017408 = ((Fq.wD n 4607182418800017408 : Nat) : Int) := by
  have e := u64_or_nat (Fq.wD n 0) 4607182418800017408 (by unfold Fq.wD; cases n <;> decide) (by decide)
  rw [show Fq.wD n 0 ||| 4607182418800017408 = Fq.wD n 4607182418800017408 from by cases n <;> decide] at e
  exact e
theorem rb_b (n : Bool) (m X e : Nat) (hm : m ≤ 9218868437227405312) (hX : X = Fq.wD n m) (he : e = m / 4503599627370496) (h1 : 1023 ≤ e) (h2 : e < 1075) : bits BinOp.andNot IntKind.u64 (IntKind.u64.wrap ((X : Int) + 2251799813685248 / 2 ^ (e - 1023))) (4503599627370495 / 2 ^ (e - 1023)) = ((Fq.wD n (awR m) : Nat) : Int) := by
  have h : X < 18446744073709551616 := by rw [hX]; unfold Fq.wD; split <;> omega
  obtain ⟨s, hs⟩ : ∃ s, s = 1075 - e := ⟨_, rfl⟩
  obtain ⟨q, hq⟩ : ∃ q, q = e - 1023 := ⟨_, rfl⟩
  rw [← hq]
  obtain ⟨T, hT⟩ : ∃ T, T = 2 ^ s := ⟨_, rfl⟩
  obtain ⟨g, hg⟩ : ∃ g, g = 2 ^ (s - 1) := ⟨_, rfl⟩
  obtain ⟨P, hP⟩ : ∃ P, P = 2 ^ q := ⟨_, rfl⟩
  have hPp : 0 < P := by rw [hP]; exact Nat.two_pow_pos _
  have hTg : T = 2 * g := by rw [hT, hg, show s = s - 1 + 1 from by omega, Nat.pow_succ, Nat.add_sub_cancel, Nat.mul_comm]
  have hTP : T * P = 4503599627370496 := by rw [hT, hP, ← Nat.pow_add, show s + q = 52 from by omega]
  have hgP : g * P = 2251799813685248 := by rw [hg, hP, ← Nat.pow_add, show s - 1 + q = 51 from by omega]
  have d1 : 2251799813685248 / P = g := by rw [← hgP, Nat.mul_div_cancel _ hPp]
  have d2 : 4503599627370495 / P = T - 1 := by
    have hTp : 0 < T := by rw [hT]; exact Nat.two_pow_pos _
    apply Nat.div_eq_of_lt_le
    · rw [Nat.sub_mul, hTP]; omega
    · rw [show T - 1 + 1 = T from by omega, hTP]; omega
  have hTl : T ≤ 4503599627370496 := by rw [← hTP]; exact Nat.le_mul_of_pos_right _ hPp
  have hTp : 0 < T := by rw [hT]; exact Nat.two_pow_pos _
  have c1 : (2251799813685248 : Int) / 2 ^ q = ((g : Nat) : Int) := by
    rw [← d1, hP]; simp [Int.natCast_pow]
  have c2 : (4503599627370495 : Int) / 2 ^ q = ((T - 1 : Nat) : Int) := by
    rw [← d2, hP]; simp [Int.natCast_pow]
  rw [c1, c2]
  have hXl : X + g < 18446744073709551616 := by rw [hX]; unfold Fq.wD; split <;> omega
  rw [show IntKind.u64.wrap ((X : Int) + (g : Int)) = ((X + g : Nat) : Int) from by rw [IntKind.wrap_u64]; omega]
  have e1 := u64_andNot_nat (X + g) (T - 1) hXl (by omega)
  rw [e1]
  congr 1
  rw [show 18446744073709551615 - (T - 1) = 18446744073709551616 - 2 ^ s from by rw [← hT]; omega, high_and (X + g) s hXl (by omega), ← hT]
  have hr : awR m = (m + g) / T * T := by
    unfold awR
    rw [← he, if_neg (by omega), if_pos h2, ← hs, show 1074 - e = s - 1 from by omega, ← hT, ← hg]
  rw [hr, hX]
  unfold Fq.wD
  cases n
  · simp
  · simp only [if_true]
    have hd : 9223372036854775808 = T * (2048 * P) := by rw [Nat.mul_left_comm, hTP]
    rw [show 9223372036854775808 + m + g = (m + g) + T * (2048 * P) from by rw [← hd]; omega, Nat.add_mul_div_left _ _ hTp, Nat.add_mul, Nat.mul_comm (2048 * P) T, ← hd]
    omega
set_option maxRecDepth 20000 in
set_option maxHeartbeats 1000000 in
theorem roundP_ (n : Bool) (m : Nat) (hm : m ≤ 9218868437227405312) (w : World) : Calls Try.prog 26 #[.float .f64 (Fq.wD n m)] w fun e w' => e = .returned (.float .f64 (Fq.wD n (awR m))) ∧ w' = w := by
  obtain ⟨X, hX⟩ : ∃ X, X = Fq.wD n m := ⟨_, rfl⟩
  obtain ⟨e, he⟩ : ∃ e, e = m / 4503599627370496 := ⟨_, rfl⟩
  have hE := rb_e n m X hm hX
  have hS := rb_s n m X hm hX
  have hO := rb_o n
  have hB := rb_b n m X e hm hX he
  have hR : awR m = if e < 1023 then (if e = 1022 then 4607182418800017408 else 0) else if e < 1075 then awR m else m := by
    unfold awR; rw [← he]
    by_cases c : e < 1023
    · rw [if_pos c, if_pos c]
    · rw [if_neg c, if_neg c]
      by_cases c2 : e < 1075
      · rw [if_pos c2, if_pos c2]
      · rw [if_neg c2, if_neg c2]
  rw [← he] at hE
  rw [← hX]
  have h1 : ∀ w : World, (callFunc 8 #[.float .f64 X]).run Try.prog w = .ok (.value (.int .u64 (X : Int))) w := Fq.fb64 X
  have hl : e ≤ 2047 := by omega
  by_cases c1 : e < 1023
  · rw [if_pos c1] at hR
    by_cases c2 : e = 1022
    · rw [if_pos c2] at hR
      rw [hR]
      have h2 : ∀ w : World, (callFunc 15 #[.int .u64 ((Fq.wD n 4607182418800017408 : Nat) : Int)]).run Try.prog w = .ok (.value (.float .f64 (Fq.wD n 4607182418800017408))) w := Fq.ff64 _
      generalize Fq.wD n 4607182418800017408 = O at hO h2 ⊢
      generalize Fq.wD n 0 = S at hS hO
      have t1 : (e : Int) < 1023 := by omega
      have t2 : ((e : Int) == 1022) = true := by simp; omega
      clear hB hR he hX hm hl c1 c2
      go_enter Try.func26, Try.ntmps26
      go_wp2
      exact bodyPost_ret (v := .float .f64 O) (by simp [results, Try.results26, go_sem]) rfl ⟨rfl, rfl⟩
    · rw [if_neg c2] at hR
      rw [hR]
      have h2 : ∀ w : World, (callFunc 15 #[.int .u64 ((Fq.wD n 0 : Nat) : Int)]).run Try.prog w = .ok (.value (.float .f64 (Fq.wD n 0))) w := Fq.ff64 _
      clear hO
      generalize Fq.wD n 0 = S at hS h2 ⊢
      have t1 : (e : Int) < 1023 := by omega
      have t2 : ((e : Int) == 1022) = false := by simp; omega
      clear hB hR he hX hm hl c1 c2
      go_enter Try.func26, Try.ntmps26
      go_wp2
      exact bodyPost_ret (v := .float .f64 S) (by simp [results, Try.results26, go_sem]) rfl ⟨rfl, rfl⟩
  · rw [if_neg c1] at hR
    by_cases c2 : e < 1075
    · replace hB := hB (by omega) c2
      have h2 : ∀ w : World, (callFunc 15 #[.int .u64 ((Fq.wD n (awR m) : Nat) : Int)]).run Try.prog w = .ok (.value (.float .f64 (Fq.wD n (awR m)))) w := Fq.ff64 _
      clear hR
      generalize Fq.wD n (awR m) = O at hB h2 ⊢
      have t1 : ¬ ((e : Int) < 1023) := by omega
      have t2 : (e : Int) < 1075 := by omega
      clear hO hS he hX hm hl c1 c2
      go_enter Try.func26, Try.ntmps26
      go_wp2
      exact bodyPost_ret (v := .float .f64 O) (by simp [results, Try.results26, go_sem]) rfl ⟨rfl, rfl⟩
    · rw [if_neg c2] at hR
      rw [hR, ← hX]
      have h2 : ∀ w : World, (callFunc 15 #[.int .u64 (X : Int)]).run Try.prog w = .ok (.value (.float .f64 X)) w := Fq.ff64 _
      have t1 : ¬ ((e : Int) < 1023) := by omega
      have t2 : ¬ ((e : Int) < 1075) := by omega
      clear hO hS hB hR he hX hm hl c1 c2
      go_enter Try.func26, Try.ntmps26
      go_wp2
      exact bodyPost_ret (v := .float .f64 X) (by simp [results, Try.results26, go_sem]) rfl ⟨rfl, rfl⟩
set_option linter.unusedVariables false

theorem round5_ (K : Nat) (hK : K = 1074) (n : Bool) (m : Nat) (hm : m ≤ 9218868437227405312) (w : World) : Calls Try.prog 26 #[.float .f64 (Fq.wD n m)] w fun e w' => e = .returned (.float .f64 (Fq.wD n (cR K 5 n m))) ∧ w' = w := by
  rw [away_rung K hK n m hm]
  exact roundP_ n m hm w
theorem lt0_pw7 (x : Int) (hx : BdZ x) : (FloatKind.f64.format.order (pw x) 0 == some Ordering.lt) = decide (x < 0) := plt9 x 0 hx (by unfold BdZ; omega)
theorem gt0_pw7 (x : Int) (hx : BdZ x) : (FloatKind.f64.format.order (pw x) 0 == some Ordering.gt) = decide (0 < x) := pgt9 x 0 hx (by unfold BdZ; omega)
theorem Rd.wd (n n' : Bool) (m m' : Nat) (L H : Int) (hm : m ≤ 9218868437227405312) (hm' : m' ≤ 9218868437227405312) (eL : Fq.plz n m = L) (eH : Fq.plz n' m' = H) (hv : VdZ L H) (h : L ≤ H) : Rd (Fq.wD n m) (Fq.wD n' m') L H := by
  have key : ∀ (g : Bool) (r : Nat) (z : Int), r ≤ 9218868437227405312 → Fq.plz g r = z → pw z = Fq.pla (Fq.wD g r) ∧ BdZ z := by
    intro g r z hr hz
    rw [← hz]
    by_cases c2 : Fq.wD g r = 9223372036854775808
    · have hg : g = true ∧ r = 0 := by
        unfold Fq.wD at c2
        cases g
        · simp at c2; omega
        · simp at c2; exact ⟨rfl, c2⟩
      rw [c2, hg.1, hg.2]
      exact ⟨by decide, by unfold BdZ Fq.plz; simp⟩
    · have h := pw_plz g r c2 hr
      rw [show Fq.pla (Fq.wD g r) = Fq.wD g r from by simp [Fq.pla, c2]]
      exact h
  have k1 := key n m L hm eL
  have k2 := key n' m' H hm' eH
  have w1 : Fq.wD n m < 18446744073709551616 := by unfold Fq.wD; split <;> omega
  have w2 : Fq.wD n' m' < 18446744073709551616 := by unfold Fq.wD; split <;> omega
  have s : Fq.snd (Fq.wD n m) (Fq.wD n' m') = true := by
    rw [Fq.snd_w n n' m m' (by omega) (by omega)]
    apply decide_eq_true
    unfold VdZ at hv
    refine ⟨hm, hm', by rw [eL, eH]; exact h, ?_, ?_⟩
    · rintro ⟨rfl, rfl⟩; unfold Fq.plz at eL; simp at eL; omega
    · rintro ⟨rfl, rfl⟩; unfold Fq.plz at eH; simp at eH; omega
  refine ⟨w1, w2, hv, ?_, ?_⟩
  · rw [k1.1]; simp [Fq.rlo, s]
  · rw [k2.1]; simp [Fq.rhi, s]
theorem stZ_rd (K : Nat) (hK : K = 1074) (k : Nat) (hk : k ≠ 0) (L H : Int) (h : VdZ L H) (n : L ≠ 9218868437227405312) : Rd (Fq.wD (decide (L < 0)) (cR K k (decide (L < 0)) L.natAbs)) (Fq.wD (decide (H < 0)) (cR K k (decide (H < 0)) H.natAbs)) (stZ K k L) (stZ K k H) := by
  refine Rd.wd _ _ _ _ _ _ (cR_le K hK k _ _ (abs_pw L h.lo)) (cR_le K hK k _ _ (abs_pw H h.hi)) (stZ_word K k hk L h.lo) (stZ_word K k hk H h.hi) (stZ_vd K hK k L H h n) ?_
  exact stZ_mono K hK k L H h.lo h.hi (by unfold VdZ at h; omega)
def gLo (K k : Nat) (L H : Int) : Int := if L = 9218868437227405312 then 9218868437227405312 else stZ K k L
def gHi (K k : Nat) (L H : Int) : Int := if L = 9218868437227405312 then -9218868437227405312 else stZ K k H
theorem voidP9_ (L H : Int) (h : VdZ L H) (w : World) : Calls Try.prog 34 #[.agg #[.float .f64 (pw L), .float .f64 (pw H)]] w fun e w' => e = .returned (.bool (decide (L = 9218868437227405312))) ∧ Kp w w' := by
  have g := Fq.voidP_ (pw L) (pw H) (pw_lt L h.lo) (pw_lt H h.hi) w
  rw [emp9 L H h] at g
  exact g
theorem sign_pw (z : Int) (hz : BdZ z) (w : World) : Calls Try.prog 21 #[.float .f64 (pw z)] w fun e w' => e = .returned (.float .f64 (pw (stZ 1074 0 z))) ∧ w' = w := by
  have h := signA_ (pw z) _ _ (lt0_pw7 z hz) (gt0_pw7 z hz) w
  have e : (if decide (z < 0) = true then 13830554455654793216 else if decide (0 < z) = true then 4607182418800017408 else 0) = pw (stZ 1074 0 z) := by
    have e2 : stZ 1074 0 z = (if z < 0 then -4607182418800017408 else if z = 0 then 0 else 4607182418800017408) := by unfold stZ; rw [if_pos rfl]
    rw [e2]
    by_cases a : z < 0
    · rw [if_pos (decide_eq_true a), if_pos a]; decide
    · rw [if_neg (by simpa using a), if_neg a]
      by_cases b : z = 0
      · rw [if_neg (by simp; omega), if_pos b]; decide
      · rw [if_pos (by simp; omega), if_neg b]; decide
  rw [e] at h
  exact h
theorem stZ_any (K K' : Nat) (z : Int) : stZ K 0 z = stZ K' 0 z := by unfold stZ; rw [if_pos rfl, if_pos rfl]
theorem climb91_ (K : Nat) (hK : K = 1074) (a b : Nat) (L H : Int) (hx : Rd a b L H) (w : World) : Calls Try.prog 20 #[.agg #[.float .f64 a, .float .f64 b], .agg #[.func (.func 22) #[] #[]]] w fun e w' => e = .returned (.agg #[.float .f64 (pw (gLo K 1 L H)), .float .f64 (pw (gHi K 1 L H))]) ∧ Kp w w' := by
  have hv := fun w => voidP9_ L H hx.vd w
  by_cases c : L = 9218868437227405312
  · have eH : H = -9218868437227405312 := by have := hx.vd; unfold VdZ at this; omega
    rw [decide_eq_true c] at hv
    have h := climbV1_ a b _ _ hx.call hv w
    unfold gLo gHi
    rw [if_pos c, if_pos c]
    rw [c, eH] at h
    exact h
  · rw [decide_eq_false c] at hv
    unfold gLo gHi
    rw [if_neg c, if_neg c]
    exact climbS1_ a b _ _ hx.call hv _ _ _ _ (step1_ K hK (decide (L < 0)) L.natAbs (abs_pw L hx.vd.lo)) (step1_ K hK (decide (H < 0)) H.natAbs (abs_pw H hx.vd.hi)) ((stZ_rd K hK 1 (by decide) L H hx.vd c).call) w
set_option maxRecDepth 20000 in
set_option maxHeartbeats 400000 in
theorem stepA1_ (a b X Y : Nat) (w : World) (h : ∀ W : World, Kp w W → Calls Try.prog 20 #[.agg #[.float .f64 a, .float .f64 b], .agg #[.func (.func 22) #[] #[]]] W fun e w' => e = .returned (.agg #[.float .f64 X, .float .f64 Y]) ∧ Kp W w') : Calls Try.prog 10 #[.agg #[.float .f64 a, .float .f64 b]] w fun e w' => e = .returned (.agg #[.float .f64 X, .float .f64 Y]) ∧ Kp w w' := by
  have kv : Kp w ((w.alloc (.cells #[.float .f64 a, .float .f64 b] 28)).alloc (.cells #[.float .f64 0, .float .f64 0] 28)) := ((Kp.refl w).alloc _).alloc _
  have qy := Fq.H2.two0 w (.float .f64 a) (.float .f64 b) (.float .f64 0) (.float .f64 0) 28 28
  go_enter Try.func10, Try.ntmps10
  go_wp2_with (first | (go_at_call 20; refine (h _ kv).mono ?_; rintro e w3 ⟨rfl, g3⟩; have k3 : Kp w w3 := Kp.trans kv g3; obtain ⟨z0, z1, z2, z3⟩ := Fq.H2.keep qy g3))
  exact bodyPost_ret (v := .agg #[.float .f64 X, .float .f64 Y]) (by simp [results, Try.results10, go_sem, z0, z1]) rfl ⟨rfl, (k3.setCell (by simp) _).setCell (by simp) _⟩
theorem stepB1_ (K : Nat) (hK : K = 1074) (a b : Nat) (L H : Int) (hx : Rd a b L H) (w : World) : Calls Try.prog 10 #[.agg #[.float .f64 a, .float .f64 b]] w fun e w' => e = .returned (.agg #[.float .f64 (pw (gLo K 1 L H)), .float .f64 (pw (gHi K 1 L H))]) ∧ Kp w w' := stepA1_ a b _ _ w (fun W _ => climb91_ K hK a b L H hx W)
theorem climb92_ (K : Nat) (hK : K = 1074) (a b : Nat) (L H : Int) (hx : Rd a b L H) (w : World) : Calls Try.prog 20 #[.agg #[.float .f64 a, .float .f64 b], .agg #[.func (.func 23) #[] #[]]] w fun e w' => e = .returned (.agg #[.float .f64 (pw (gLo K 2 L H)), .float .f64 (pw (gHi K 2 L H))]) ∧ Kp w w' := by
  have hv := fun w => voidP9_ L H hx.vd w
  by_cases c : L = 9218868437227405312
  · have eH : H = -9218868437227405312 := by have := hx.vd; unfold VdZ at this; omega
    rw [decide_eq_true c] at hv
    have h := climbV2_ a b _ _ hx.call hv w
    unfold gLo gHi
    rw [if_pos c, if_pos c]
    rw [c, eH] at h
    exact h
  · rw [decide_eq_false c] at hv
    unfold gLo gHi
    rw [if_neg c, if_neg c]
    exact climbS2_ a b _ _ hx.call hv _ _ _ _ (step2_ K hK (decide (L < 0)) L.natAbs (abs_pw L hx.vd.lo)) (step2_ K hK (decide (H < 0)) H.natAbs (abs_pw H hx.vd.hi)) ((stZ_rd K hK 2 (by decide) L H hx.vd c).call) w
set_option maxRecDepth 20000 in
set_option maxHeartbeats 400000 in
theorem stepA2_ (a b X Y : Nat) (w : World) (h : ∀ W : World, Kp w W → Calls Try.prog 20 #[.agg #[.float .f64 a, .float .f64 b], .agg #[.func (.func 23) #[] #[]]] W fun e w' => e = .returned (.agg #[.float .f64 X, .float .f64 Y]) ∧ Kp W w') : Calls Try.prog 11 #[.agg #[.float .f64 a, .float .f64 b]] w fun e w' => e = .returned (.agg #[.float .f64 X, .float .f64 Y]) ∧ Kp w w' := by
  have kv : Kp w ((w.alloc (.cells #[.float .f64 a, .float .f64 b] 28)).alloc (.cells #[.float .f64 0, .float .f64 0] 28)) := ((Kp.refl w).alloc _).alloc _
  have qy := Fq.H2.two0 w (.float .f64 a) (.float .f64 b) (.float .f64 0) (.float .f64 0) 28 28
  go_enter Try.func11, Try.ntmps11
  go_wp2_with (first | (go_at_call 20; refine (h _ kv).mono ?_; rintro e w3 ⟨rfl, g3⟩; have k3 : Kp w w3 := Kp.trans kv g3; obtain ⟨z0, z1, z2, z3⟩ := Fq.H2.keep qy g3))
  exact bodyPost_ret (v := .agg #[.float .f64 X, .float .f64 Y]) (by simp [results, Try.results11, go_sem, z0, z1]) rfl ⟨rfl, (k3.setCell (by simp) _).setCell (by simp) _⟩
theorem stepB2_ (K : Nat) (hK : K = 1074) (a b : Nat) (L H : Int) (hx : Rd a b L H) (w : World) : Calls Try.prog 11 #[.agg #[.float .f64 a, .float .f64 b]] w fun e w' => e = .returned (.agg #[.float .f64 (pw (gLo K 2 L H)), .float .f64 (pw (gHi K 2 L H))]) ∧ Kp w w' := stepA2_ a b _ _ w (fun W _ => climb92_ K hK a b L H hx W)
theorem climb93_ (K : Nat) (hK : K = 1074) (a b : Nat) (L H : Int) (hx : Rd a b L H) (w : World) : Calls Try.prog 20 #[.agg #[.float .f64 a, .float .f64 b], .agg #[.func (.func 24) #[] #[]]] w fun e w' => e = .returned (.agg #[.float .f64 (pw (gLo K 3 L H)), .float .f64 (pw (gHi K 3 L H))]) ∧ Kp w w' := by
  have hv := fun w => voidP9_ L H hx.vd w
  by_cases c : L = 9218868437227405312
  · have eH : H = -9218868437227405312 := by have := hx.vd; unfold VdZ at this; omega
    rw [decide_eq_true c] at hv
    have h := climbV3_ a b _ _ hx.call hv w
    unfold gLo gHi
    rw [if_pos c, if_pos c]
    rw [c, eH] at h
    exact h
  · rw [decide_eq_false c] at hv
    unfold gLo gHi
    rw [if_neg c, if_neg c]
    exact climbS3_ a b _ _ hx.call hv _ _ _ _ (step3_ K hK (decide (L < 0)) L.natAbs (abs_pw L hx.vd.lo)) (step3_ K hK (decide (H < 0)) H.natAbs (abs_pw H hx.vd.hi)) ((stZ_rd K hK 3 (by decide) L H hx.vd c).call) w
set_option maxRecDepth 20000 in
set_option maxHeartbeats 400000 in
theorem stepA3_ (a b X Y : Nat) (w : World) (h : ∀ W : World, Kp w W → Calls Try.prog 20 #[.agg #[.float .f64 a, .float .f64 b], .agg #[.func (.func 24) #[] #[]]] W fun e w' => e = .returned (.agg #[.float .f64 X, .float .f64 Y]) ∧ Kp W w') : Calls Try.prog 12 #[.agg #[.float .f64 a, .float .f64 b]] w fun e w' => e = .returned (.agg #[.float .f64 X, .float .f64 Y]) ∧ Kp w w' := by
  have kv : Kp w ((w.alloc (.cells #[.float .f64 a, .float .f64 b] 28)).alloc (.cells #[.float .f64 0, .float .f64 0] 28)) := ((Kp.refl w).alloc _).alloc _
  have qy := Fq.H2.two0 w (.float .f64 a) (.float .f64 b) (.float .f64 0) (.float .f64 0) 28 28
  go_enter Try.func12, Try.ntmps12
  go_wp2_with (first | (go_at_call 20; refine (h _ kv).mono ?_; rintro e w3 ⟨rfl, g3⟩; have k3 : Kp w w3 := Kp.trans kv g3; obtain ⟨z0, z1, z2, z3⟩ := Fq.H2.keep qy g3))
  exact bodyPost_ret (v := .agg #[.float .f64 X, .float .f64 Y]) (by simp [results, Try.results12, go_sem, z0, z1]) rfl ⟨rfl, (k3.setCell (by simp) _).setCell (by simp) _⟩
theorem stepB3_ (K : Nat) (hK : K = 1074) (a b : Nat) (L H : Int) (hx : Rd a b L H) (w : World) : Calls Try.prog 12 #[.agg #[.float .f64 a, .float .f64 b]] w fun e w' => e = .returned (.agg #[.float .f64 (pw (gLo K 3 L H)), .float .f64 (pw (gHi K 3 L H))]) ∧ Kp w w' := stepA3_ a b _ _ w (fun W _ => climb93_ K hK a b L H hx W)
theorem climb95_ (K : Nat) (hK : K = 1074) (a b : Nat) (L H : Int) (hx : Rd a b L H) (w : World) : Calls Try.prog 20 #[.agg #[.float .f64 a, .float .f64 b], .agg #[.func (.func 26) #[] #[]]] w fun e w' => e = .returned (.agg #[.float .f64 (pw (gLo K 5 L H)), .float .f64 (pw (gHi K 5 L H))]) ∧ Kp w w' := by
  have hv := fun w => voidP9_ L H hx.vd w
  by_cases c : L = 9218868437227405312
  · have eH : H = -9218868437227405312 := by have := hx.vd; unfold VdZ at this; omega
    rw [decide_eq_true c] at hv
    have h := climbV5_ a b _ _ hx.call hv w
    unfold gLo gHi
    rw [if_pos c, if_pos c]
    rw [c, eH] at h
    exact h
  · rw [decide_eq_false c] at hv
    unfold gLo gHi
    rw [if_neg c, if_neg c]
    exact climbS5_ a b _ _ hx.call hv _ _ _ _ (round5_ K hK (decide (L < 0)) L.natAbs (abs_pw L hx.vd.lo)) (round5_ K hK (decide (H < 0)) H.natAbs (abs_pw H hx.vd.hi)) ((stZ_rd K hK 5 (by decide) L H hx.vd c).call) w
set_option maxRecDepth 20000 in
set_option maxHeartbeats 400000 in
theorem stepA5_ (a b X Y : Nat) (w : World) (h : ∀ W : World, Kp w W → Calls Try.prog 20 #[.agg #[.float .f64 a, .float .f64 b], .agg #[.func (.func 26) #[] #[]]] W fun e w' => e = .returned (.agg #[.float .f64 X, .float .f64 Y]) ∧ Kp W w') : Calls Try.prog 14 #[.agg #[.float .f64 a, .float .f64 b]] w fun e w' => e = .returned (.agg #[.float .f64 X, .float .f64 Y]) ∧ Kp w w' := by
  have kv : Kp w ((w.alloc (.cells #[.float .f64 a, .float .f64 b] 28)).alloc (.cells #[.float .f64 0, .float .f64 0] 28)) := ((Kp.refl w).alloc _).alloc _
  have qy := Fq.H2.two0 w (.float .f64 a) (.float .f64 b) (.float .f64 0) (.float .f64 0) 28 28
  go_enter Try.func14, Try.ntmps14
  go_wp2_with (first | (go_at_call 20; refine (h _ kv).mono ?_; rintro e w3 ⟨rfl, g3⟩; have k3 : Kp w w3 := Kp.trans kv g3; obtain ⟨z0, z1, z2, z3⟩ := Fq.H2.keep qy g3))
  exact bodyPost_ret (v := .agg #[.float .f64 X, .float .f64 Y]) (by simp [results, Try.results14, go_sem, z0, z1]) rfl ⟨rfl, (k3.setCell (by simp) _).setCell (by simp) _⟩
theorem stepB5_ (K : Nat) (hK : K = 1074) (a b : Nat) (L H : Int) (hx : Rd a b L H) (w : World) : Calls Try.prog 14 #[.agg #[.float .f64 a, .float .f64 b]] w fun e w' => e = .returned (.agg #[.float .f64 (pw (gLo K 5 L H)), .float .f64 (pw (gHi K 5 L H))]) ∧ Kp w w' := stepA5_ a b _ _ w (fun W _ => climb95_ K hK a b L H hx W)
theorem climb90_ (K : Nat) (hK : K = 1074) (a b : Nat) (L H : Int) (hx : Rd a b L H) (w : World) : Calls Try.prog 20 #[.agg #[.float .f64 a, .float .f64 b], .agg #[.func (.func 21) #[] #[]]] w fun e w' => e = .returned (.agg #[.float .f64 (pw (gLo K 0 L H)), .float .f64 (pw (gHi K 0 L H))]) ∧ Kp w w' := by
  have hv := fun w => voidP9_ L H hx.vd w
  by_cases c : L = 9218868437227405312
  · have eH : H = -9218868437227405312 := by have := hx.vd; unfold VdZ at this; omega
    rw [decide_eq_true c] at hv
    have h := climbV0_ a b _ _ hx.call hv w
    unfold gLo gHi
    rw [if_pos c, if_pos c]
    rw [c, eH] at h
    exact h
  · rw [decide_eq_false c] at hv
    unfold gLo gHi
    rw [if_neg c, if_neg c]
    rw [stZ_any K 1074 L, stZ_any K 1074 H]
    exact climbS0_ a b _ _ hx.call hv _ _ _ _ (sign_pw L hx.vd.lo) (sign_pw H hx.vd.hi) ((Rd.of (stZ_vd 1074 rfl 0 L H hx.vd c)).call) w
set_option maxRecDepth 20000 in
set_option maxHeartbeats 400000 in
theorem stepA0_ (a b X Y : Nat) (w : World) (h : ∀ W : World, Kp w W → Calls Try.prog 20 #[.agg #[.float .f64 a, .float .f64 b], .agg #[.func (.func 21) #[] #[]]] W fun e w' => e = .returned (.agg #[.float .f64 X, .float .f64 Y]) ∧ Kp W w') : Calls Try.prog 9 #[.agg #[.float .f64 a, .float .f64 b]] w fun e w' => e = .returned (.agg #[.float .f64 X, .float .f64 Y]) ∧ Kp w w' := by
  have kv : Kp w ((w.alloc (.cells #[.float .f64 a, .float .f64 b] 28)).alloc (.cells #[.float .f64 0, .float .f64 0] 28)) := ((Kp.refl w).alloc _).alloc _
  have qy := Fq.H2.two0 w (.float .f64 a) (.float .f64 b) (.float .f64 0) (.float .f64 0) 28 28
  go_enter Try.func9, Try.ntmps9
  go_wp2_with (first | (go_at_call 20; refine (h _ kv).mono ?_; rintro e w3 ⟨rfl, g3⟩; have k3 : Kp w w3 := Kp.trans kv g3; obtain ⟨z0, z1, z2, z3⟩ := Fq.H2.keep qy g3))
  exact bodyPost_ret (v := .agg #[.float .f64 X, .float .f64 Y]) (by simp [results, Try.results9, go_sem, z0, z1]) rfl ⟨rfl, (k3.setCell (by simp) _).setCell (by simp) _⟩
theorem stepB0_ (K : Nat) (hK : K = 1074) (a b : Nat) (L H : Int) (hx : Rd a b L H) (w : World) : Calls Try.prog 9 #[.agg #[.float .f64 a, .float .f64 b]] w fun e w' => e = .returned (.agg #[.float .f64 (pw (gLo K 0 L H)), .float .f64 (pw (gHi K 0 L H))]) ∧ Kp w w' := stepA0_ a b _ _ w (fun W _ => climb90_ K hK a b L H hx W)
theorem climb94_ (K : Nat) (hK : K = 1074) (a b : Nat) (L H : Int) (hx : Rd a b L H) (w : World) : Calls Try.prog 20 #[.agg #[.float .f64 a, .float .f64 b], .agg #[.func (.func 25) #[] #[]]] w fun e w' => e = .returned (.agg #[.float .f64 (pw (gLo K 4 L H)), .float .f64 (pw (gHi K 4 L H))]) ∧ Kp w w' := by
  have hv := fun w => voidP9_ L H hx.vd w
  by_cases c : L = 9218868437227405312
  · have eH : H = -9218868437227405312 := by have := hx.vd; unfold VdZ at this; omega
    rw [decide_eq_true c] at hv
    have h := climbV4_ a b _ _ hx.call hv w
    unfold gLo gHi
    rw [if_pos c, if_pos c]
    rw [c, eH] at h
    exact h
  · rw [decide_eq_false c] at hv
    unfold gLo gHi
    rw [if_neg c, if_neg c]
    exact climbS4_ a b _ _ hx.call hv _ _ _ _ (step4_ K hK (decide (L < 0)) L.natAbs (abs_pw L hx.vd.lo)) (step4_ K hK (decide (H < 0)) H.natAbs (abs_pw H hx.vd.hi)) ((stZ_rd K hK 4 (by decide) L H hx.vd c).call) w
set_option maxRecDepth 20000 in
set_option maxHeartbeats 400000 in
theorem stepA4_ (a b X Y : Nat) (w : World) (h : ∀ W : World, Kp w W → Calls Try.prog 20 #[.agg #[.float .f64 a, .float .f64 b], .agg #[.func (.func 25) #[] #[]]] W fun e w' => e = .returned (.agg #[.float .f64 X, .float .f64 Y]) ∧ Kp W w') : Calls Try.prog 13 #[.agg #[.float .f64 a, .float .f64 b]] w fun e w' => e = .returned (.agg #[.float .f64 X, .float .f64 Y]) ∧ Kp w w' := by
  have kv : Kp w ((w.alloc (.cells #[.float .f64 a, .float .f64 b] 28)).alloc (.cells #[.float .f64 0, .float .f64 0] 28)) := ((Kp.refl w).alloc _).alloc _
  have qy := Fq.H2.two0 w (.float .f64 a) (.float .f64 b) (.float .f64 0) (.float .f64 0) 28 28
  go_enter Try.func13, Try.ntmps13
  go_wp2_with (first | (go_at_call 20; refine (h _ kv).mono ?_; rintro e w3 ⟨rfl, g3⟩; have k3 : Kp w w3 := Kp.trans kv g3; obtain ⟨z0, z1, z2, z3⟩ := Fq.H2.keep qy g3))
  exact bodyPost_ret (v := .agg #[.float .f64 X, .float .f64 Y]) (by simp [results, Try.results13, go_sem, z0, z1]) rfl ⟨rfl, (k3.setCell (by simp) _).setCell (by simp) _⟩
theorem stepB4_ (K : Nat) (hK : K = 1074) (a b : Nat) (L H : Int) (hx : Rd a b L H) (w : World) : Calls Try.prog 13 #[.agg #[.float .f64 a, .float .f64 b]] w fun e w' => e = .returned (.agg #[.float .f64 (pw (gLo K 4 L H)), .float .f64 (pw (gHi K 4 L H))]) ∧ Kp w w' := stepA4_ a b _ _ w (fun W _ => climb94_ K hK a b L H hx W)
end Go.Proofs.Ytbbmoaiilnfmgaa
