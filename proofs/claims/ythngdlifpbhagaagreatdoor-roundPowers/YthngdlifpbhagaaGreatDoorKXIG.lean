import Derived.Test.YthngdlifpbhagaaGreatDoorProg
import Derived.Test.YthngdlifpbhagaaGreatDoorKXA0
import Derived.Test.YthngdlifpbhagaaGreatDoorKXM
import Derived.Test.YthngdlifpbhagaaGreatDoorKXY
import Derived.Test.YthngdlifpbhagaaGreatDoorKXQF
import Derived.Test.YthngdlifpbhagaaGreatDoorKQA
import Derived.Test.YthngdlifpbhagaaGreatDoorKQP
import Derived.Test.YthngdlifpbhagaaGreatDoorKXQU
import Derived.Test.YthngdlifpbhagaaGreatDoorKQB
import Derived.Test.YthngdlifpbhagaaGreatDoorKQBT
import Derived.Test.YthngdlifpbhagaaGreatDoorKQJd
import Derived.Test.YthngdlifpbhagaaGreatDoorKHB
import Derived.Test.YthngdlifpbhagaaGreatDoorKLX
import Derived.Test.YthngdlifpbhagaaGreatDoorKXMR
import Derived.Test.YthngdlifpbhagaaGreatDoorKXG1
import Derived.Test.YthngdlifpbhagaaGreatDoorKXH2Q
import Derived.Test.YthngdlifpbhagaaGreatDoorKXNM
import Derived.Test.YthngdlifpbhagaaGreatDoorKXT
import Derived.Test.YthngdlifpbhagaaGreatDoorKXRT
import Derived.Test.YthngdlifpbhagaaGreatDoorKXRL
import Derived.Test.YthngdlifpbhagaaGreatDoorKXCO
import Derived.Test.YthngdlifpbhagaaGreatDoorKLN
import Derived.Test.YthngdlifpbhagaaGreatDoorKXRN
import Derived.Test.YthngdlifpbhagaaGreatDoorKW4
import Derived.Test.YthngdlifpbhagaaGreatDoorKBY
import Derived.Test.YthngdlifpbhagaaGreatDoorKXBW
import Derived.Test.YthngdlifpbhagaaGreatDoorKXTZ
import Derived.Test.YthngdlifpbhagaaGreatDoorKXMQ
import Derived.Test.YthngdlifpbhagaaGreatDoorKXMS
import Derived.Test.YthngdlifpbhagaaGreatDoorKXO3
import Derived.Test.YthngdlifpbhagaaGreatDoorKXO
import Derived.Test.YthngdlifpbhagaaGreatDoorKXG4
import Derived.Test.YthngdlifpbhagaaGreatDoorKXU6
import Derived.Test.YthngdlifpbhagaaGreatDoorKXS4
import Derived.Test.YthngdlifpbhagaaGreatDoorKXS2
import Derived.Test.YthngdlifpbhagaaGreatDoorKXU1
import Derived.Test.YthngdlifpbhagaaGreatDoorKXID
import Derived.Test.YthngdlifpbhagaaGreatDoorKXP
import Derived.WalkKit
import Derived.ProofKit
import Derived.RowKit3
import Derived.WalkSpells
import Derived.StillTactics
import Derived.Deep.QuietTactic
import Derived.BigQuiet
import Derived.Below
import Derived.Deep.OwnRows
import Derived.OwnWalk
import Derived.Laws.BitsAllLaws
import Derived.Laws.Slices
import Derived.Laws.Bits64b
import Derived.Laws.FloatArith
import Derived.Laws.Small
import Derived.Deep.RegionHeld3
namespace Go.Proofs.YthngdlifpbhagaaGreatDoor
open Go.RowKit
theorem frac_ratio9 (x D a b : Nat) (hD : D ≠ 0) (hF : FracOf x D 0 a b) : a * D = x * b := by
  have hb := hF.1
  by_cases c0 : x = 0
  · rw [hF.2.1.2 c0, c0, Nat.zero_mul, Nat.zero_mul]
  · have hfl : ∀ t : Nat, a * 2 ^ t / b = x * 2 ^ t / D := fun t => by
      have h := hF.2.2.1 (-1) (blen (a * 2 ^ t / b) + blen (x * 2 ^ t / D)) (t : Int) c0
      unfold rV at h
      rw [show ((t : Int)).toNat = t from by omega, show (-(t : Int)).toNat = 0 from by omega, show ((t : Int) + 0).toNat = t from by omega, show (-((t : Int) + 0)).toNat = 0 from by omega, Nat.pow_zero, Nat.mul_one, Nat.mul_one, rU_floor _ _ _ (by omega), rU_floor _ _ _ (by omega)] at h
      exact h
    obtain ⟨t, ht⟩ : ∃ t, b * D < 2 ^ t := ⟨b * D, Nat.lt_two_pow_self⟩
    have h := hfl t
    obtain ⟨f, hf⟩ : ∃ f, f = a * 2 ^ t / b := ⟨_, rfl⟩
    have f1 : f * b ≤ a * 2 ^ t := by rw [hf]; exact Nat.div_mul_le_self _ _
    have f2 : a * 2 ^ t < (f + 1) * b := by rw [hf]; exact Nat.lt_mul_of_div_lt (Nat.lt_succ_self _) (by omega)
    have f3 : f * D ≤ x * 2 ^ t := by rw [hf, h]; exact Nat.div_mul_le_self _ _
    have f4 : x * 2 ^ t < (f + 1) * D := by rw [hf, h]; exact Nat.lt_mul_of_div_lt (Nat.lt_succ_self _) (by omega)
    have g1 := Nat.mul_le_mul_right D f1
    have g2 := Nat.mul_lt_mul_of_pos_right f2 (show 0 < D by omega)
    have g3 := Nat.mul_le_mul_right b f3
    have g4 := Nat.mul_lt_mul_of_pos_right f4 (show 0 < b by omega)
    rw [show f * b * D = f * (b * D) from Nat.mul_assoc _ _ _, show a * 2 ^ t * D = a * D * 2 ^ t from Nat.mul_right_comm _ _ _] at g1
    rw [show (f + 1) * b * D = f * (b * D) + b * D from by rw [Nat.mul_assoc, Nat.add_mul, Nat.one_mul], show a * 2 ^ t * D = a * D * 2 ^ t from Nat.mul_right_comm _ _ _] at g2
    rw [show f * D * b = f * (b * D) from by rw [Nat.mul_assoc, Nat.mul_comm D b], show x * 2 ^ t * b = x * b * 2 ^ t from Nat.mul_right_comm _ _ _] at g3
    rw [show (f + 1) * D * b = f * (b * D) + b * D from by rw [Nat.mul_assoc, Nat.mul_comm D b, Nat.add_mul, Nat.one_mul], show x * 2 ^ t * b = x * b * 2 ^ t from Nat.mul_right_comm _ _ _] at g4
    rcases Nat.lt_trichotomy (a * D) (x * b) with c | c | c
    · exfalso
      have h5 := Nat.mul_le_mul_right (2 ^ t) (show a * D + 1 ≤ x * b from c)
      rw [Nat.add_mul, Nat.one_mul] at h5
      omega
    · exact c
    · exfalso
      have h5 := Nat.mul_le_mul_right (2 ^ t) (show x * b + 1 ≤ a * D from c)
      rw [Nat.add_mul, Nat.one_mul] at h5
      omega
theorem pow_bl (a k : Nat) (ha : blen a ≤ 1500) (hk : k ≤ 1024) : blen (a ^ k) ≤ 1600000 := by
  have h : blen (a ^ k) ≤ 1500 * k + 1 := by
    rw [blen_le_iff]
    obtain ⟨T5, hT5⟩ : ∃ T5 : Nat, T5 = 1500 := ⟨_, rfl⟩
    rw [← hT5] at ha ⊢
    have h1 : a ^ k ≤ (2 ^ T5) ^ k := Nat.pow_le_pow_left (Nat.le_of_lt ((blen_le_iff a T5).1 ha)) k
    rw [← Nat.pow_mul] at h1
    have h2 : 2 ^ (T5 * k) < 2 ^ (T5 * k + 1) := Nat.pow_lt_pow_right (by decide) (by omega)
    omega
  omega
theorem odd_i (N : Int) (k : Nat) (hk : N = (k : Int) ∨ N = -(k : Int)) : (N.tmod 2 != 0) = decide (k % 2 = 1) ∧ (N.tmod 2 == 0) = !decide (k % 2 = 1) := by
  have h : N.tmod 2 = 0 ↔ k % 2 = 0 := by
    rcases hk with h | h
    · rw [h, Int.tmod_eq_emod_of_nonneg (by omega)]; omega
    · rw [h, Int.neg_tmod, Int.tmod_eq_emod_of_nonneg (by omega)]; omega
  by_cases c : k % 2 = 1
  · rw [decide_eq_true c]
    have : N.tmod 2 ≠ 0 := fun h0 => by have := h.1 h0; omega
    simp [this]
  · rw [decide_eq_false c]
    have : N.tmod 2 = 0 := h.2 (by omega)
    simp [this]
set_option maxRecDepth 20000 in
set_option maxHeartbeats 1000000 in
theorem rpowN_ (d : Int) (n : Bool) (m : Nat) (N : Int) (hm : m < 9223372036854775808) (hb : 9218868437227405312 < m ∨ N < -1024 ∨ 1024 < N) (w : World) :
    Calls Tryz.prog 10 #[.int .i64 d, .int .u64 ((Fq.wD n m : Nat) : Int), .int .i64 N] w fun e w' => e = .returned (.int .u64 9221120237041090561) ∧ Kp w w' := by
  have i1 := fun w => isnan_ n m hm w
  obtain ⟨X, hX⟩ : ∃ X, X = Fq.wD n m := ⟨_, rfl⟩
  rw [← hX] at i1 ⊢
  by_cases c1 : 9218868437227405312 < m
  · rw [decide_eq_true c1] at i1
    clear hX c1 hb hm
    go_enter Tryz.func10, Tryz.ntmps10
    go_wp2_with fail
    refine (i1 w).mono ?_; rintro e w' ⟨rfl, hw'⟩; obtain rfl := hw'.symm; clear hw'
    go_wp2
    exact bodyPost_ret (v := .int .u64 9221120237041090561) (by simp [results, Tryz.results10, go_sem]) rfl ⟨rfl, Kp.refl _⟩
  · rw [decide_eq_false c1] at i1
    by_cases c2 : N < -1024
    · clear hX c1 hb hm
      go_enter Tryz.func10, Tryz.ntmps10
      go_wp2_with fail
      refine (i1 w).mono ?_; rintro e w' ⟨rfl, hw'⟩; obtain rfl := hw'.symm; clear hw'
      go_wp2
      exact bodyPost_ret (v := .int .u64 9221120237041090561) (by simp [results, Tryz.results10, go_sem]) rfl ⟨rfl, Kp.refl _⟩
    · have c3 : 1024 < N := by omega
      clear hX c1 hb hm
      go_enter Tryz.func10, Tryz.ntmps10
      go_wp2_with fail
      refine (i1 w).mono ?_; rintro e w' ⟨rfl, hw'⟩; obtain rfl := hw'.symm; clear hw'
      go_wp2
      exact bodyPost_ret (v := .int .u64 9221120237041090561) (by simp [results, Tryz.results10, go_sem]) rfl ⟨rfl, Kp.refl _⟩
set_option maxRecDepth 20000 in
set_option maxHeartbeats 1000000 in
theorem rpow0_ (d : Int) (n : Bool) (m : Nat) (hm : m < 9223372036854775808) (hb : m ≤ 9218868437227405312) (w : World) :
    Calls Tryz.prog 10 #[.int .i64 d, .int .u64 ((Fq.wD n m : Nat) : Int), .int .i64 0] w fun e w' => e = .returned (.int .u64 4607182418800017408) ∧ Kp w w' := by
  have i1 := fun w => isnan_ n m hm w
  rw [decide_eq_false (by omega)] at i1
  obtain ⟨X, hX⟩ : ∃ X, X = Fq.wD n m := ⟨_, rfl⟩
  rw [← hX] at i1 ⊢
  clear hX hb hm
  go_enter Tryz.func10, Tryz.ntmps10
  go_wp2_with fail
  refine (i1 w).mono ?_; rintro e w' ⟨rfl, hw'⟩; obtain rfl := hw'.symm; clear hw'
  go_wp2
  exact bodyPost_ret (v := .int .u64 4607182418800017408) (by simp [results, Tryz.results10, go_sem]) rfl ⟨rfl, Kp.refl _⟩
set_option maxRecDepth 20000 in
set_option maxHeartbeats 1000000 in
theorem rpowI_ (d : Int) (n : Bool) (m : Nat) (N : Int) (k : Nat) (hm : m = 9218868437227405312) (h1 : -1024 ≤ N) (h2 : N ≤ 1024) (h0 : N ≠ 0) (hk : N = (k : Int) ∨ N = -(k : Int)) (w : World) :
    Calls Tryz.prog 10 #[.int .i64 d, .int .u64 ((Fq.wD n m : Nat) : Int), .int .i64 N] w fun e w' => e = .returned (.int .u64 ((if N < 0 then 0 else Fq.wD (n && decide (k % 2 = 1)) 9218868437227405312 : Nat) : Int)) ∧ Kp w w' := by
  have i1 := fun w => isnan_ n m (by omega) w
  have j1 := fun w => isinf_ n m (by omega) w
  have n1 := fun w => neg3_ n m (by omega) (by omega) w
  have f1 := fun b w => infin3_ b w
  obtain ⟨q1, q2⟩ := odd_i N k hk
  rw [decide_eq_false (by omega)] at i1
  rw [decide_eq_true hm] at j1
  obtain ⟨X, hX⟩ : ∃ X, X = Fq.wD n m := ⟨_, rfl⟩
  rw [← hX] at i1 j1 n1 ⊢
  have t0 : (N == 0) = false := by simp [h0]
  by_cases c : N < 0
  · rw [if_pos c]
    clear hX hm hk q1 q2 n1 f1
    go_enter Tryz.func10, Tryz.ntmps10
    go_wp2_with fail
    refine (i1 w).mono ?_; rintro e w' ⟨rfl, hw'⟩; obtain rfl := hw'.symm; clear hw'
    go_wp2_with fail
    refine (j1 w).mono ?_; rintro e w' ⟨rfl, hw'⟩; obtain rfl := hw'.symm; clear hw'
    go_wp2
    exact bodyPost_ret (v := .int .u64 0) (by simp [results, Tryz.results10, go_sem]) rfl ⟨rfl, Kp.refl _⟩
  · rw [if_neg c]
    cases n
    · have f2 := f1 false
      rw [show (false && decide (k % 2 = 1)) = false from rfl]
      obtain ⟨Z, hZ⟩ : ∃ Z, Z = Fq.wD false 9218868437227405312 := ⟨_, rfl⟩
      rw [← hZ] at f2 ⊢
      clear hX hm hk q1 q2 f1 hZ
      go_enter Tryz.func10, Tryz.ntmps10
      go_wp2_with fail
      refine (i1 w).mono ?_; rintro e w' ⟨rfl, hw'⟩; obtain rfl := hw'.symm; clear hw'
      go_wp2_with fail
      refine (j1 w).mono ?_; rintro e w' ⟨rfl, hw'⟩; obtain rfl := hw'.symm; clear hw'
      go_wp2_with fail
      refine (n1 w).mono ?_; rintro e w' ⟨rfl, hw'⟩; obtain rfl := hw'.symm; clear hw'
      go_wp2_with fail
      refine (f2 w).mono ?_; rintro e w' ⟨rfl, hw'⟩; obtain rfl := hw'.symm; clear hw'
      go_wp2
      exact bodyPost_ret (v := .int .u64 (Z : Int)) (by simp [results, Tryz.results10, go_sem]) rfl ⟨rfl, Kp.refl _⟩
    · have f2 := f1 (decide (k % 2 = 1))
      rw [show (true && decide (k % 2 = 1)) = decide (k % 2 = 1) from rfl]
      obtain ⟨ob, hob⟩ : ∃ ob, ob = decide (k % 2 = 1) := ⟨_, rfl⟩
      rw [← hob] at f2 q1 q2 ⊢
      have q3 : (N % 2 != 0) = ob := by rw [← Int.tmod_eq_emod_of_nonneg (by omega)]; exact q1
      obtain ⟨Z, hZ⟩ : ∃ Z, Z = Fq.wD ob 9218868437227405312 := ⟨_, rfl⟩
      rw [← hZ] at f2 ⊢
      clear hX hm hk f1 hZ hob
      go_enter Tryz.func10, Tryz.ntmps10
      go_wp2_with fail
      refine (i1 w).mono ?_; rintro e w' ⟨rfl, hw'⟩; obtain rfl := hw'.symm; clear hw'
      go_wp2_with fail
      refine (j1 w).mono ?_; rintro e w' ⟨rfl, hw'⟩; obtain rfl := hw'.symm; clear hw'
      go_wp2_with fail
      refine (n1 w).mono ?_; rintro e w' ⟨rfl, hw'⟩; obtain rfl := hw'.symm; clear hw'
      go_wp2_with fail
      refine (f2 w).mono ?_; rintro e w' ⟨rfl, hw'⟩; obtain rfl := hw'.symm; clear hw'
      go_wp2
      exact bodyPost_ret (v := .int .u64 (Z : Int)) (by simp [results, Tryz.results10, go_sem]) rfl ⟨rfl, Kp.refl _⟩
set_option maxRecDepth 20000 in
set_option maxHeartbeats 1000000 in
theorem rpowZ_ (d : Int) (n : Bool) (m : Nat) (N : Int) (hm : m = 0) (h1 : -1024 ≤ N) (h2 : N ≤ 1024) (h0 : N ≠ 0) (w : World) :
    Calls Tryz.prog 10 #[.int .i64 d, .int .u64 ((Fq.wD n m : Nat) : Int), .int .i64 N] w fun e w' => e = .returned (.int .u64 ((if N < 0 then 9218868437227405312 else 0 : Nat) : Int)) ∧ Kp w w' := by
  have i1 := fun w => isnan_ n m (by omega) w
  have j1 := fun w => isinf_ n m (by omega) w
  have z1 := fun w => zero3_ n m (by omega) w
  rw [decide_eq_false (by omega)] at i1 j1
  rw [decide_eq_true hm] at z1
  obtain ⟨X, hX⟩ : ∃ X, X = Fq.wD n m := ⟨_, rfl⟩
  rw [← hX] at i1 j1 z1 ⊢
  have t0 : (N == 0) = false := by simp [h0]
  clear hX hm
  by_cases c : N < 0
  · rw [if_pos c]
    go_enter Tryz.func10, Tryz.ntmps10
    go_wp2_with fail
    refine (i1 w).mono ?_; rintro e w' ⟨rfl, hw'⟩; obtain rfl := hw'.symm; clear hw'
    go_wp2_with fail
    refine (j1 w).mono ?_; rintro e w' ⟨rfl, hw'⟩; obtain rfl := hw'.symm; clear hw'
    go_wp2_with fail
    refine (z1 w).mono ?_; rintro e w' ⟨rfl, hw'⟩; obtain rfl := hw'.symm; clear hw'
    go_wp2
    exact bodyPost_ret (v := .int .u64 9218868437227405312) (by simp [results, Tryz.results10, go_sem]) rfl ⟨rfl, Kp.refl _⟩
  · rw [if_neg c]
    go_enter Tryz.func10, Tryz.ntmps10
    go_wp2_with fail
    refine (i1 w).mono ?_; rintro e w' ⟨rfl, hw'⟩; obtain rfl := hw'.symm; clear hw'
    go_wp2_with fail
    refine (j1 w).mono ?_; rintro e w' ⟨rfl, hw'⟩; obtain rfl := hw'.symm; clear hw'
    go_wp2_with fail
    refine (z1 w).mono ?_; rintro e w' ⟨rfl, hw'⟩; obtain rfl := hw'.symm; clear hw'
    go_wp2
    exact bodyPost_ret (v := .int .u64 0) (by simp [results, Tryz.results10, go_sem]) rfl ⟨rfl, Kp.refl _⟩
set_option maxRecDepth 20000 in
set_option maxHeartbeats 1000000 in
theorem rpowU_ (d : Int) (n : Bool) (m k : Nat) (hm : m < 9218868437227405312) (z : m ≠ 0) (hk0 : 0 < k) (hk : k ≤ 1024) (w : World) :
    Calls Tryz.prog 10 #[.int .i64 d, .int .u64 ((Fq.wD n m : Nat) : Int), .int .i64 (k : Int)] w fun e w' => e = .returned (.int .u64 ((upW d (n && decide (k % 2 = 1)) (Fq.vV Ieee.double m) k : Nat) : Int)) ∧ Kp w w' := by
  have i1 := fun w => isnan_ n m (by omega) w
  have j1 := fun w => isinf_ n m (by omega) w
  have z1 := fun w => zero3_ n m (by omega) w
  rw [decide_eq_false (by omega)] at i1 j1 z1
  obtain ⟨K, hK⟩ : ∃ K : Nat, K = 1074 := ⟨_, rfl⟩
  have hA : Fq.vV Ieee.double m ≠ 0 := fun h => z ((vV_zero m).1 h)
  have b1 := fun w1 => fromV_ n m hm K hK w1
  have HR : Hid (∀ (sa : Bool) (a1 a2 : Nat) (P1 P2 : Option Addr) (C1 C2 : Nat) (w : World), Arr w P1 (dig a1) → (dig a1).length ≤ C1 → Arr w P2 (dig a2) → (dig a2).length ≤ C2 → (a2 ≠ 0 ∧ a1 * 2 ^ K = Fq.vV Ieee.double m * a2 ∧ Iv n m = (if sa then -((Fq.vV Ieee.double m : Nat) : Int) else ((Fq.vV Ieee.double m : Nat) : Int)) ∧ blen a1 ≤ 1500 ∧ blen a2 ≤ 1500) → Calls Tryz.prog 40 #[.agg #[.bool sa, .slice P1 (dig a1).length C1, .slice P2 (dig a2).length C2], .int .i64 (k : Int)] w fun e w' => ∃ (vn vd : Value) (a' b' : Nat) (ng : Bool), e = .returned (.agg #[.bool ng, vn, vd]) ∧ Ls w' vn (dig a') ∧ Ls w' vd (dig b') ∧ (refW 53 1074 2098 9218868437227405311 0 d ng a' b' = upW d (n && decide (k % 2 = 1)) (Fq.vV Ieee.double m) k ∧ b' ≠ 0 ∧ blen a' ≤ 4194304 ∧ blen b' ≤ 4194304) ∧ Kp w w') := fun sa a1 a2 P1 P2 C1 C2 w h1 l1 h2 l2 hF => by
    obtain ⟨za, ea, ia, ba1, ba2⟩ := hF
    have z1 : a1 ≠ 0 := fun h => by
      rw [h, Nat.zero_mul] at ea
      rcases Nat.mul_eq_zero.1 ea.symm with g | g
      · exact hA g
      · exact za g
    refine (rpow9_ sa a1 a2 k P1 P2 C1 C2 w h1 l1 h2 l2 ba1 ba2 z1 za hk (a1 ^ k) (a2 ^ k) rfl rfl _ rfl).mono ?_
    rintro e w' ⟨vn, vd, a', b', ng, he, q1, q2, ⟨q3, q5⟩, q4⟩
    refine ⟨vn, vd, a', b', ng, he, q1, q2, ⟨?_, q3.1.1, ?_, ?_⟩, q4⟩
    · exact ref_up d ng _ a1 a2 _ a' b' k K hK za ea z1 q3.1 (by rw [q5 (Nat.ne_of_gt (Nat.pow_pos (by omega))), sgn_iv n sa m ia hA])
    · have := (q3.2 rfl).1
      have := pow_bl a1 k ba1 hk
      omega
    · have := (q3.2 rfl).2
      have := pow_bl a2 k ba2 hk
      omega
  obtain ⟨Z, hZ⟩ : ∃ Z, Z = upW d (n && decide (k % 2 = 1)) (Fq.vV Ieee.double m) k := ⟨_, rfl⟩
  obtain ⟨X, hX⟩ : ∃ X, X = Fq.wD n m := ⟨_, rfl⟩
  rw [← hX] at i1 j1 b1 z1
  rw [← hZ] at HR
  rw [← hX, ← hZ]
  have t0 : ((k : Int) == 0) = false := by simp; omega
  have t1 : ¬ ((k : Int) < -1024) := by omega
  have t2 : ¬ (1024 < (k : Int)) := by omega
  have t3 : 0 < (k : Int) := by omega
  have b2 := b1 w
  clear hX hZ hA hK hm z b1
  go_enter Tryz.func10, Tryz.ntmps10
  go_wp2_with fail
  refine (i1 w).mono ?_; rintro e w' ⟨rfl, hw'⟩; obtain rfl := hw'.symm; clear hw'
  go_wp2_with fail
  refine (j1 w).mono ?_; rintro e w' ⟨rfl, hw'⟩; obtain rfl := hw'.symm; clear hw'
  go_wp2_with fail
  refine (z1 w).mono ?_; rintro e w' ⟨rfl, hw'⟩; obtain rfl := hw'.symm; clear hw'
  clear i1 j1 z1
  go_wp2_with fail
  refine b2.mono ?_; rintro e w1 ⟨p1, p2, c1, c2, a1, a2, sa, rfl, u1, u2, u3, u4, fa, k1⟩
  have hr := HR.out sa a1 a2 p1 p2 c1 c2 w1 u1 u2 u3 u4 fa
  obtain ⟨E1, g1⟩ : ∃ E, E = (dig a1).length := ⟨_, rfl⟩
  obtain ⟨E2, g2⟩ : ∃ E, E = (dig a2).length := ⟨_, rfl⟩
  rw [← g1, ← g2] at hr ⊢
  clear b2 u1 u2 u3 u4 fa g1 g2 HR
  go_wp2_with fail
  refine hr.mono ?_; rintro e w3 ⟨vn, vd, a', b', ng, rfl, lv1, lv2, ⟨hw1, hw2, hw3, hw4⟩, k3⟩
  have hb := rbits_ d ng vn vd a' b' w3 lv1 lv2 hw2 hw3 hw4
  rw [hw1] at hb
  have k03 := k1.trans k3
  clear hr lv1 lv2 hw1 hw2 hw3 hw4 k1 k3
  go_wp2_with fail
  refine hb.mono ?_; rintro e w4 ⟨rfl, k4⟩
  have k04 := k03.trans k4
  clear hb k03 k4
  go_wp2
  exact bodyPost_ret (v := .int .u64 (Z : Int)) (by simp [results, Tryz.results10, go_sem]) rfl ⟨rfl, k04⟩
set_option maxRecDepth 20000 in
set_option maxHeartbeats 1000000 in
theorem rpowD_ (d : Int) (n : Bool) (m : Nat) (N : Int) (k : Nat) (hN : N = -(k : Int)) (hm : m < 9218868437227405312) (z : m ≠ 0) (hk0 : 0 < k) (hk : k ≤ 1024) (w : World) :
    Calls Tryz.prog 10 #[.int .i64 d, .int .u64 ((Fq.wD n m : Nat) : Int), .int .i64 N] w fun e w' => e = .returned (.int .u64 ((dnW d (n && decide (k % 2 = 1)) (Fq.vV Ieee.double m) k : Nat) : Int)) ∧ Kp w w' := by
  have i1 := fun w => isnan_ n m (by omega) w
  have j1 := fun w => isinf_ n m (by omega) w
  have z1 := fun w => zero3_ n m (by omega) w
  rw [decide_eq_false (by omega)] at i1 j1 z1
  obtain ⟨K, hK⟩ : ∃ K : Nat, K = 1074 := ⟨_, rfl⟩
  have hA : Fq.vV Ieee.double m ≠ 0 := fun h => z ((vV_zero m).1 h)
  have b1 := fun w1 => fromV_ n m hm K hK w1
  have HP : Hid (∀ (sa : Bool) (a1 a2 : Nat) (P1 P2 : Option Addr) (C1 C2 : Nat) (w : World), Arr w P1 (dig a1) → (dig a1).length ≤ C1 → Arr w P2 (dig a2) → (dig a2).length ≤ C2 → (a2 ≠ 0 ∧ a1 * 2 ^ K = Fq.vV Ieee.double m * a2 ∧ Iv n m = (if sa then -((Fq.vV Ieee.double m : Nat) : Int) else ((Fq.vV Ieee.double m : Nat) : Int)) ∧ blen a1 ≤ 1500 ∧ blen a2 ≤ 1500) → Calls Tryz.prog 40 #[.agg #[.bool sa, .slice P1 (dig a1).length C1, .slice P2 (dig a2).length C2], .int .i64 (k : Int)] w fun e w' => ∃ (p q : Option Addr) (c d a' b' : Nat) (ng : Bool), e = .returned (.agg #[.bool ng, .slice p (dig a').length c, .slice q (dig b').length d]) ∧ Arr w' p (dig a') ∧ (dig a').length ≤ c ∧ Arr w' q (dig b') ∧ (dig b').length ≤ d ∧ (ng = (n && decide (k % 2 = 1)) ∧ a' ≠ 0 ∧ b' ≠ 0 ∧ b' * Fq.vV Ieee.double m ^ k = a' * 2 ^ (K * k) ∧ blen a' ≤ 1600000 ∧ blen b' ≤ 1600000) ∧ Kp w w') := fun sa a1 a2 P1 P2 C1 C2 w h1 l1 h2 l2 hF => by
    obtain ⟨za, ea, ia, ba1, ba2⟩ := hF
    have z1 : a1 ≠ 0 := fun h => by
      rw [h, Nat.zero_mul] at ea
      rcases Nat.mul_eq_zero.1 ea.symm with g | g
      · exact hA g
      · exact za g
    have hp1 : a1 ^ k ≠ 0 := Nat.ne_of_gt (Nat.pow_pos (by omega))
    have hp2 : a2 ^ k ≠ 0 := Nat.ne_of_gt (Nat.pow_pos (by omega))
    refine (rpow9_ sa a1 a2 k P1 P2 C1 C2 w h1 l1 h2 l2 ba1 ba2 z1 za hk (a1 ^ k) (a2 ^ k) rfl rfl _ rfl).mono ?_
    rintro e w' ⟨vn, vd, a', b', ng, he, ⟨p, c, rfl, q1, q1'⟩, ⟨q, d9, rfl, q2, q2'⟩, ⟨q3, q5⟩, q4⟩
    have hr := frac_ratio9 _ _ a' b' hp2 q3.1
    refine ⟨p, q, c, d9, a', b', ng, he, q1, q1', q2, q2', ⟨by rw [q5 hp1, sgn_iv n sa m ia hA], fun h => hp1 (q3.1.2.1.1 h), q3.1.1, ?_, ?_, ?_⟩, q4⟩
    · have e2 : a1 ^ k * 2 ^ (K * k) = Fq.vV Ieee.double m ^ k * a2 ^ k := by rw [Nat.pow_mul, ← Nat.mul_pow, ea, Nat.mul_pow]
      refine Nat.eq_of_mul_eq_mul_right (show 0 < a2 ^ k by omega) ?_
      have g1 : a' * 2 ^ (K * k) * a2 ^ k = a' * a2 ^ k * 2 ^ (K * k) := Nat.mul_right_comm _ _ _
      have g2 : b' * Fq.vV Ieee.double m ^ k * a2 ^ k = b' * (Fq.vV Ieee.double m ^ k * a2 ^ k) := Nat.mul_assoc _ _ _
      rw [g1, g2, hr, ← e2]; ac_rfl
    · have := (q3.2 rfl).1
      have := pow_bl a1 k ba1 hk
      omega
    · have := (q3.2 rfl).2
      have := pow_bl a2 k ba2 hk
      omega
  have HQ : Hid (∀ (s1 : Bool) (p1 p2 : Nat) (P1 P2 : Option Addr) (C1 C2 : Nat) (s2 : Bool) (b1 b2 : Nat) (Q1 Q2 : Option Addr) (D1 D2 : Nat) (w : World), Arr w P1 (dig p1) → (dig p1).length ≤ C1 → Arr w P2 (dig p2) → (dig p2).length ≤ C2 → Arr w Q1 (dig b1) → (dig b1).length ≤ D1 → Arr w Q2 (dig b2) → (dig b2).length ≤ D2 → FracT 1 1 0 p1 p2 ∧ s1 = false → (s2 = (n && decide (k % 2 = 1)) ∧ b1 ≠ 0 ∧ b2 ≠ 0 ∧ b2 * Fq.vV Ieee.double m ^ k = b1 * 2 ^ (K * k) ∧ blen b1 ≤ 1600000 ∧ blen b2 ≤ 1600000) → Calls Tryz.prog 41 #[.agg #[.bool s1, .slice P1 (dig p1).length C1, .slice P2 (dig p2).length C2], .agg #[.bool s2, .slice Q1 (dig b1).length D1, .slice Q2 (dig b2).length D2]] w fun e w' => ∃ (vn vd : Value) (a' b' : Nat) (ng : Bool), e = .returned (.agg #[.bool ng, vn, vd]) ∧ Ls w' vn (dig a') ∧ Ls w' vd (dig b') ∧ (refW 53 1074 2098 9218868437227405311 0 d ng a' b' = dnW d (n && decide (k % 2 = 1)) (Fq.vV Ieee.double m) k ∧ b' ≠ 0 ∧ blen a' ≤ 4194304 ∧ blen b' ≤ 4194304) ∧ Kp w w') := fun s1 p1 p2 P1 P2 C1 C2 s2 b1 b2 Q1 Q2 D1 D2 w h1 l1 h2 l2 h3 l3 h4 l4 hF hG => by
    obtain ⟨hF, hs1⟩ := hF
    obtain ⟨hs2, g1, g2, g3, g4, g5⟩ := hG
    have hr := frac_ratio9 1 1 p1 p2 (by decide) hF.1
    rw [Nat.mul_one, Nat.one_mul] at hr
    have hp2 := hF.1.1
    have hb1 : blen 1 = 1 := blen_uniq 1 0 (by decide) (by decide)
    have e1 := (hF.2 rfl).1
    have e2 := (hF.2 rfl).2
    rw [hb1] at e1 e2
    have p1e : p1 = 1 := by
      have h := (blen_le_iff p1 1).1 e1
      omega
    have p2e : p2 = 1 := by omega
    refine (rquoW_ s1 s2 p1 p2 b1 b2 P1 P2 Q1 Q2 C1 C2 D1 D2 w h1 l1 h2 l2 h3 l3 h4 l4 (dlen _ _ (by omega)) (dlen _ _ (by omega)) (dlen _ _ (by omega)) (dlen _ _ (by omega)) hp2 g1 (p1 * b2) (p2 * b1) rfl rfl (by rw [p1e, Nat.one_mul]; exact dlen _ _ (by omega)) (by rw [p2e, Nat.one_mul]; exact dlen _ _ (by omega))).mono ?_
    rintro e w' ⟨vn, vd, a', b', ng, he, q1, q2, ⟨q3, q5⟩, q4⟩
    rw [p1e, p2e, Nat.one_mul, Nat.one_mul] at q3
    rw [p1e, Nat.one_mul] at q5
    refine ⟨vn, vd, a', b', ng, he, q1, q2, ⟨ref_dn d ng _ b2 b1 _ a' b' k K hK g1 g2 hA g3 q3.1 ?_, q3.1.1, ?_, ?_⟩, q4⟩
    · rw [q5 g2, hs1, ← hs2]; cases s2 <;> rfl
    · have := (q3.2 rfl).1; omega
    · have := (q3.2 rfl).2; omega
  obtain ⟨Z, hZ⟩ : ∃ Z, Z = dnW d (n && decide (k % 2 = 1)) (Fq.vV Ieee.double m) k := ⟨_, rfl⟩
  obtain ⟨X, hX⟩ : ∃ X, X = Fq.wD n m := ⟨_, rfl⟩
  rw [← hX] at i1 j1 b1 z1
  rw [← hZ] at HQ
  rw [← hX, ← hZ]
  have t0 : (N == 0) = false := by simp; omega
  have t1 : ¬ (N < -1024) := by omega
  have t2 : ¬ (1024 < N) := by omega
  have t3 : ¬ (0 < N) := by omega
  have HN : Hid (-N = (k : Int)) := (by omega : -N = (k : Int))
  have hi := int1_ w
  clear hX hZ hA hK hm z hN
  go_enter Tryz.func10, Tryz.ntmps10
  go_wp2_with fail
  refine (i1 w).mono ?_; rintro e w' ⟨rfl, hw'⟩; obtain rfl := hw'.symm; clear hw'
  go_wp2_with fail
  refine (j1 w).mono ?_; rintro e w' ⟨rfl, hw'⟩; obtain rfl := hw'.symm; clear hw'
  go_wp2_with fail
  refine (z1 w).mono ?_; rintro e w' ⟨rfl, hw'⟩; obtain rfl := hw'.symm; clear hw'
  clear i1 j1 z1
  go_wp2_with fail
  refine hi.mono ?_; rintro e w1 ⟨vi, vj, i1, i2, si, rfl, ⟨y1, x1, rfl, ai1, li1⟩, ⟨y2, x2, rfl, ai2, li2⟩, ⟨fi, rfl⟩, k1⟩
  have b2 := b1 w1
  clear b1 hi
  obtain ⟨E1, g1⟩ : ∃ E, E = (dig i1).length := ⟨_, rfl⟩
  obtain ⟨E2, g2⟩ : ∃ E, E = (dig i2).length := ⟨_, rfl⟩
  rw [← g1, ← g2]
  have G1 : Hid (E1 = (dig i1).length ∧ E2 = (dig i2).length) := ⟨g1, g2⟩
  clear g1 g2
  go_wp2_with fail
  refine b2.mono ?_; rintro e w2 ⟨p1, p2, c1, c2, a1, a2, sa, rfl, u1, u2, u3, u4, fa, k2⟩
  have hr := HP.out sa a1 a2 p1 p2 c1 c2 w2 u1 u2 u3 u4 fa
  obtain ⟨E3, g3⟩ : ∃ E, E = (dig a1).length := ⟨_, rfl⟩
  obtain ⟨E4, g4⟩ : ∃ E, E = (dig a2).length := ⟨_, rfl⟩
  rw [← g3, ← g4] at hr ⊢
  clear b2 u1 u2 u3 u4 fa g3 g4 HP
  go_wp2_with fail
  rw [HN.out]
  refine hr.mono ?_; rintro e w3 ⟨r1, r2, d1, d2, e1, e2, sb, rfl, v1, v2, v3, v4, fb, k3⟩
  have hq := HQ.out false i1 i2 y1 y2 x1 x2 sb e1 e2 r1 r2 d1 d2 w3 ((ai1.grown k2).grown k3) li1 ((ai2.grown k2).grown k3) li2 v1 v2 v3 v4 ⟨fi, rfl⟩ fb
  rw [← G1.out.1, ← G1.out.2] at hq
  obtain ⟨E5, g5⟩ : ∃ E, E = (dig e1).length := ⟨_, rfl⟩
  obtain ⟨E6, g6⟩ : ∃ E, E = (dig e2).length := ⟨_, rfl⟩
  rw [← g5, ← g6] at hq ⊢
  have k03 := (k1.trans k2).trans k3
  clear hr ai1 li1 ai2 li2 fi k1 k2 k3 v1 v2 v3 v4 fb g5 g6 G1 HQ
  go_wp2_with fail
  refine hq.mono ?_; rintro e w4 ⟨vn, vd, a', b', ng, rfl, lv1, lv2, ⟨hw1, hw2, hw3, hw4⟩, k4⟩
  have hb := rbits_ d ng vn vd a' b' w4 lv1 lv2 hw2 hw3 hw4
  rw [hw1] at hb
  have k04 := k03.trans k4
  clear hq lv1 lv2 hw1 hw2 hw3 hw4 k03 k4
  go_wp2_with fail
  refine hb.mono ?_; rintro e w5 ⟨rfl, k5⟩
  have k05 := k04.trans k5
  clear hb k04 k5
  go_wp2
  exact bodyPost_ret (v := .int .u64 (Z : Int)) (by simp [results, Tryz.results10, go_sem]) rfl ⟨rfl, k05⟩
set_option maxRecDepth 20000 in
set_option maxHeartbeats 1000000 in
theorem power_ (d : Int) (s : Bool) (a k : Nat) (ea N : Int) (va : Value) (w : World) (hT : Tab w) (hQ : Fq.Tab w) (hd1 : -9223372036854775808 ≤ d) (hd2 : d < 9223372036854775808) (ha : Ls w va (dig a)) (la : a < 9007199254740992) (ea1 : -1074 ≤ ea) (ea2 : ea ≤ 2048) (hk0 : 0 < k) (hk : k ≤ 1024) (hN : N = (k : Int) ∨ N = -(k : Int)) :
    Calls Tryz.prog 36 #[.agg #[.bool s, va, .int .i64 ea], .int .i64 d, .int .i64 N] w fun e w' => e = .returned (.float .f64 (if N < 0 then ratW d (s && decide (k % 2 = 1)) 1 (a ^ k) (ea * N) else ofW d (s && decide (k % 2 = 1)) (a ^ k) (ea * N))) ∧ Kp w w' := by
  obtain ⟨pa, ca, rfl, ha, hca⟩ := ha
  obtain ⟨La, hLa⟩ : ∃ La, La = (dig a).length := ⟨_, rfl⟩
  rw [← hLa]
  obtain ⟨B, hB⟩ : ∃ B, B = w.heap.size := ⟨_, rfl⟩
  obtain ⟨w0, hw0⟩ : ∃ w0, w0 = w.alloc (.cells #[.bool s, .slice pa La ca, .int .i64 ea] 39) := ⟨_, rfl⟩
  have hk9 : Kp w w0 := by rw [hw0]; exact (Kp.refl w).alloc _
  have x0 : w0.cell? ⟨B, 0, none⟩ = some (.bool s) := by rw [hw0, hB]; simp [go_sem]
  have x1 : w0.cell? ⟨B, 1, none⟩ = some (.slice pa La ca) := by rw [hw0, hB]; simp [go_sem]
  have x2 : w0.cell? ⟨B, 2, none⟩ = some (.int .i64 ea) := by rw [hw0, hB]; simp [go_sem]
  have lp := pow_len a k la hk
  have lsa : len32 a ≤ 2 := dlen a 2 (by
    have : blen a ≤ 53 := by rw [blen_le_iff, show (2 : Nat) ^ 53 = 9007199254740992 from by decide]; exact la
    omega)
  have hp := npow_ pa ca (dig a) w0 (k : Int) (ha.grown hk9) (Wd_dig a) (by change len32 a ≤ _; omega) hca
  rw [val_dig, ← hLa] at hp
  have hpN : powN a (k : Int) = (dig (a ^ k), 0) := by
    unfold powN
    rw [if_neg (by omega), if_neg (by omega), show ((k : Int)).toNat = k from by omega, if_neg (by omega)]
  rw [hpN] at hp
  obtain ⟨q1, q2⟩ := odd_i N k hN
  obtain ⟨ob, hob⟩ : ∃ ob, ob = decide (k % 2 = 1) := ⟨_, rfl⟩
  rw [← hob] at q1 q2 ⊢
  have we : wrap64 (ea * N) = ea * N := by
    refine w64x _ ?_ ?_
    · have h1 : (ea * N).natAbs ≤ 2048 * 1024 := by rw [Int.natAbs_mul]; exact Nat.mul_le_mul (by omega) (by omega)
      omega
    · have h1 : (ea * N).natAbs ≤ 2048 * 1024 := by rw [Int.natAbs_mul]; exact Nat.mul_le_mul (by omega) (by omega)
      omega
  have we2 : IntKind.i64.wrap (ea * N) = ea * N := by
    have h1 : (ea * N).natAbs ≤ 2048 * 1024 := by rw [Int.natAbs_mul]; exact Nat.mul_le_mul (by omega) (by omega)
    simp [IntKind.wrap, IntKind.bits, IntKind.signed]; omega
  have HO : Hid (∀ (pv : Option Addr) (cv : Nat) (w1 : World), Kp w0 w1 → Arr w1 pv (dig (a ^ k)) → (dig (a ^ k)).length ≤ cv → Calls Tryz.prog 56 #[.int .i64 d, .bool (s && ob), .slice pv (dig (a ^ k)).length cv, .int .i64 (ea * N)] w1 fun e w' => e = .returned (.float .f64 (ofW d (s && ob) (a ^ k) (ea * N))) ∧ Kp w1 w') := fun pv cv w1 kk ar ll => by
    have h := pof_ d (s && ob) pv cv (dig (a ^ k)) (ea * N) w1 (hT.grown (hk9.trans kk)) (Fq.Tab.grown hQ (hk9.trans kk)) hd1 hd2 ar (Wd_dig _) (by change len32 _ ≤ _; omega) ll
    rw [val_dig] at h
    exact h
  have HRt : Hid (∀ (pv : Option Addr) (cv : Nat) (ps : Option Addr) (cs : Nat) (w1 : World), Kp w0 w1 → Arr w1 pv (dig (a ^ k)) → (dig (a ^ k)).length ≤ cv → Arr w1 ps (dig 1) → (dig 1).length ≤ cs → Calls Tryz.prog 68 #[.int .i64 d, .bool (s && ob), .slice ps (dig 1).length cs, .slice pv (dig (a ^ k)).length cv, .int .i64 (ea * N)] w1 fun e w' => e = .returned (.float .f64 (ratW d (s && ob) 1 (a ^ k) (ea * N))) ∧ Kp w1 w') := fun pv cv ps cs w1 kk ar ll ar' ll' => by
    have h := prat_ d (s && ob) ps pv cs cv (dig 1) (dig (a ^ k)) (ea * N) w1 (Fq.Tab.grown hQ (hk9.trans kk)) hd1 hd2 ar' ar (Wd_dig _) (Wd_dig _) (by rw [dig_one]; decide) (by change len32 _ ≤ _; omega) ll' ll
    rw [val_dig, val_dig] at h
    exact h
  have HW : Hid (w0 = w.alloc (.cells #[.bool s, .slice pa La ca, .int .i64 ea] 39) ∧ B = w.heap.size ∧ Kp w w0) := ⟨hw0, hB, hk9⟩
  have HS : Hid (∀ w1 : World, Calls Tryz.prog 50 #[.int .u64 1] w1 fun e w' => ∃ r, e = .returned r ∧ Own w' w1.heap.size r (dig 1) ∧ Kp w1 w') := fun w1 => nsmall_ 1 (by decide) w1
  clear hw0 hB hk9 ha hca hLa la lp lsa hpN hT hQ hd1 hd2 hob
  by_cases c : N < 0
  · rw [if_pos c]
    have HN : Hid (-N = (k : Int)) := (by omega : -N = (k : Int))
    have cb : decide (N < 0) = true := decide_eq_true c
    have bN : -1024 ≤ N ∧ N ≤ 1024 := by omega
    obtain ⟨bN1, bN2⟩ := bN
    clear hN hk0 hk HO
    obtain ⟨st, hst⟩ : ∃ st, st = (s && ob) := ⟨_, rfl⟩
    rw [← hst] at HRt ⊢
    obtain ⟨Z, hZ⟩ : ∃ Z, Z = ratW d st 1 (a ^ k) (ea * N) := ⟨_, rfl⟩
    rw [← hZ] at HRt ⊢
    clear hZ
    cases s
    · rw [show (false && ob) = false from rfl] at hst
      subst hst
      clear q1 q2
      go_enter Tryz.func36, Tryz.ntmps36
      go_wp2_with fail
      rw [← HW.out.2.1]
      try rw [← HW.out.1]
      try go_wp2_with fail
      rw [HN.out]
      refine hp.mono ?_; rintro e w1 ⟨v, rfl, ho, k1⟩
      obtain ⟨pv, cv, rfl, hav, hcv⟩ := ho.arr
      have HR : Hid (∀ (vs : Value) (W : World), Kp w1 W → Ls W vs (dig 1) → Calls Tryz.prog 68 #[.int .i64 d, .bool false, vs, .slice pv (dig (a ^ k)).length cv, .int .i64 (ea * N)] W fun e w' => e = .returned (.float .f64 Z) ∧ Kp W w') := fun vs W kk ⟨ps, cs, e9, ar, ll⟩ => by
        subst e9
        exact HRt.out pv cv ps cs W (k1.trans kk) (hav.grown kk) hcv ar ll
      obtain ⟨LV, hLV⟩ : ∃ LV, LV = (dig (a ^ k)).length := ⟨_, rfl⟩
      rw [← hLV] at HR ⊢
      replace x2 := kkeep k1 x2
      have kk := HW.out.2.2.trans k1
      clear hp ho hav hcv hLV k1 HRt
      go_upto_region 4 with fail
      go_region_held3 (fun w' => w'.cell? ⟨B, 2, none⟩ = some (.int .i64 ea)) ((refine kkeep (W := w1) ?_ x2; ((repeat (first | with_reducible exact kB | with_reducible exact kA | with_reducible exact Kp.refl _ | with_reducible refine Kp.drew ?_)); done))) (first | (go_at_call 68; have hh := o1; refine (HR.out _ _ ?q1 ?q2).mono ?_; (case q1 => ((repeat (first | with_reducible exact kB | with_reducible exact kA | with_reducible exact Kp.refl _ | with_reducible refine Kp.drew ?_)); done)); (case q2 => exact hls); rintro e v2 ⟨rfl, k12⟩; have kB : Kp w1 v2 := Kp.trans ?q3 k12; (case q3 => ((repeat (first | with_reducible exact kB | with_reducible exact kA | with_reducible exact Kp.refl _ | with_reducible refine Kp.drew ?_)); done))) | (go_at_call 50; refine (HS.out _).mono ?_; rintro e v1 ⟨vs, rfl, o1, k01⟩; have kA : Kp w1 v1 := Kp.trans ?q4 k01; (case q4 => ((repeat (first | with_reducible exact kB | with_reducible exact kA | with_reducible exact Kp.refl _ | with_reducible refine Kp.drew ?_)); done)); have hls := o1.ls; obtain ⟨ps, cs, rfl, as_, ls_⟩ := o1.arr))
      have k02 := kk.trans kB
      clear kk kB kA k01 k12 HR HS o1 hls as_ ls_
      go_wp2
      exact bodyPost_ret (v := .float .f64 Z) (by simp [results, Tryz.results36, go_sem]) rfl ⟨rfl, k02⟩
    · rw [show (true && ob) = ob from rfl] at hst
      subst hst
      go_enter Tryz.func36, Tryz.ntmps36
      go_wp2_with fail
      rw [← HW.out.2.1]
      try rw [← HW.out.1]
      try go_wp2_with fail
      rw [HN.out]
      refine hp.mono ?_; rintro e w1 ⟨v, rfl, ho, k1⟩
      obtain ⟨pv, cv, rfl, hav, hcv⟩ := ho.arr
      have HR : Hid (∀ (vs : Value) (W : World), Kp w1 W → Ls W vs (dig 1) → Calls Tryz.prog 68 #[.int .i64 d, .bool st, vs, .slice pv (dig (a ^ k)).length cv, .int .i64 (ea * N)] W fun e w' => e = .returned (.float .f64 Z) ∧ Kp W w') := fun vs W kk ⟨ps, cs, e9, ar, ll⟩ => by
        subst e9
        exact HRt.out pv cv ps cs W (k1.trans kk) (hav.grown kk) hcv ar ll
      obtain ⟨LV, hLV⟩ : ∃ LV, LV = (dig (a ^ k)).length := ⟨_, rfl⟩
      rw [← hLV] at HR ⊢
      replace x2 := kkeep k1 x2
      have kk := HW.out.2.2.trans k1
      clear hp ho hav hcv hLV k1 HRt
      go_upto_region 4 with fail
      go_region_held3 (fun w' => w'.cell? ⟨B, 2, none⟩ = some (.int .i64 ea)) ((refine kkeep (W := w1) ?_ x2; ((repeat (first | with_reducible exact kB | with_reducible exact kA | with_reducible exact Kp.refl _ | with_reducible refine Kp.drew ?_)); done))) (first | (go_at_call 68; have hh := o1; refine (HR.out _ _ ?q1 ?q2).mono ?_; (case q1 => ((repeat (first | with_reducible exact kB | with_reducible exact kA | with_reducible exact Kp.refl _ | with_reducible refine Kp.drew ?_)); done)); (case q2 => exact hls); rintro e v2 ⟨rfl, k12⟩; have kB : Kp w1 v2 := Kp.trans ?q3 k12; (case q3 => ((repeat (first | with_reducible exact kB | with_reducible exact kA | with_reducible exact Kp.refl _ | with_reducible refine Kp.drew ?_)); done))) | (go_at_call 50; refine (HS.out _).mono ?_; rintro e v1 ⟨vs, rfl, o1, k01⟩; have kA : Kp w1 v1 := Kp.trans ?q4 k01; (case q4 => ((repeat (first | with_reducible exact kB | with_reducible exact kA | with_reducible exact Kp.refl _ | with_reducible refine Kp.drew ?_)); done)); have hls := o1.ls; obtain ⟨ps, cs, rfl, as_, ls_⟩ := o1.arr))
      have k02 := kk.trans kB
      clear kk kB kA k01 k12 HR HS o1 hls as_ ls_
      go_wp2
      exact bodyPost_ret (v := .float .f64 Z) (by simp [results, Tryz.results36, go_sem]) rfl ⟨rfl, k02⟩
  · rw [if_neg c]
    have eN : N = (k : Int) := by omega
    subst eN
    have q3 : ((k : Int) % 2 != 0) = ob := by rw [← Int.tmod_eq_emod_of_nonneg (by omega)]; exact q1
    clear hN HRt HS
    obtain ⟨st, hst⟩ : ∃ st, st = (s && ob) := ⟨_, rfl⟩
    rw [← hst] at HO ⊢
    obtain ⟨Z, hZ⟩ : ∃ Z, Z = ofW d st (a ^ k) (ea * (k : Int)) := ⟨_, rfl⟩
    rw [← hZ] at HO ⊢
    clear hZ
    cases s
    · rw [show (false && ob) = false from rfl] at hst
      subst hst
      clear q1 q2 q3
      go_enter Tryz.func36, Tryz.ntmps36
      go_wp2_with fail
      rw [← HW.out.2.1]
      try rw [← HW.out.1]
      try go_wp2_with fail
      refine hp.mono ?_; rintro e w1 ⟨v, rfl, ho, k1⟩
      obtain ⟨pv, cv, rfl, hav, hcv⟩ := ho.arr
      have hr := HO.out pv cv w1 k1 hav hcv
      obtain ⟨LV, hLV⟩ : ∃ LV, LV = (dig (a ^ k)).length := ⟨_, rfl⟩
      rw [← hLV] at hr ⊢
      replace x2 := kkeep k1 x2
      have kk := HW.out.2.2.trans k1
      clear hp ho hav hcv hLV k1 HO
      go_wp2_with fail
      refine hr.mono ?_; rintro e w2 ⟨rfl, k2⟩
      have k02 := kk.trans k2
      clear hr kk k2
      go_wp2
      exact bodyPost_ret (v := .float .f64 Z) (by simp [results, Tryz.results36, go_sem]) rfl ⟨rfl, k02⟩
    · rw [show (true && ob) = ob from rfl] at hst
      subst hst
      go_enter Tryz.func36, Tryz.ntmps36
      go_wp2_with fail
      rw [← HW.out.2.1]
      try rw [← HW.out.1]
      try go_wp2_with fail
      refine hp.mono ?_; rintro e w1 ⟨v, rfl, ho, k1⟩
      obtain ⟨pv, cv, rfl, hav, hcv⟩ := ho.arr
      have hr := HO.out pv cv w1 k1 hav hcv
      obtain ⟨LV, hLV⟩ : ∃ LV, LV = (dig (a ^ k)).length := ⟨_, rfl⟩
      rw [← hLV] at hr ⊢
      replace x2 := kkeep k1 x2
      have kk := HW.out.2.2.trans k1
      clear hp ho hav hcv hLV k1 HO
      go_wp2_with fail
      refine hr.mono ?_; rintro e w2 ⟨rfl, k2⟩
      have k02 := kk.trans k2
      clear hr kk k2
      go_wp2
      exact bodyPost_ret (v := .float .f64 Z) (by simp [results, Tryz.results36, go_sem]) rfl ⟨rfl, k02⟩
set_option maxRecDepth 20000 in
set_option maxHeartbeats 400000 in
theorem powInf_ (n : Bool) (N : Int) (k : Nat) (hN : N = (k : Int) ∨ N = -(k : Int)) (w : World) : Calls Tryz.prog 32 #[.float .f64 (Fq.wD n 9218868437227405312), .int .i64 N] w fun e w' => e = .returned (.float .f64 (if N < 0 then 0 else Fq.wD (n && decide (k % 2 = 1)) 9218868437227405312)) ∧ w' = w := by
  have ha := abs_ n 9218868437227405312 (by decide) w
  obtain ⟨q1, q2⟩ := odd_i N k hN
  obtain ⟨X, hX⟩ : ∃ X, X = Fq.wD n 9218868437227405312 := ⟨_, rfl⟩
  by_cases c : N < 0
  · rw [if_pos c, ← hX]
    clear ha q1 q2 hX hN
    go_enter Tryz.func32, Tryz.ntmps32
    go_wp2
    exact bodyPost_ret (v := .float .f64 0) (by simp [results, Tryz.results32, go_sem]) rfl ⟨rfl, rfl⟩
  · rw [if_neg c]
    have eN : N = (k : Int) := by omega
    subst eN
    have q3 : ((k : Int) % 2 == 0) = !decide (k % 2 = 1) := by rw [← Int.tmod_eq_emod_of_nonneg (by omega)]; exact q2
    by_cases c2 : k % 2 = 1
    · rw [decide_eq_true c2, Bool.and_true, ← hX]
      rw [decide_eq_true c2] at q2 q3
      simp only [Bool.not_true] at q2 q3
      clear ha q1 hX hN c2
      go_enter Tryz.func32, Tryz.ntmps32
      go_wp2
      exact bodyPost_ret (v := .float .f64 X) (by simp [results, Tryz.results32, go_sem]) rfl ⟨rfl, rfl⟩
    · rw [decide_eq_false c2, Bool.and_false, show Fq.wD false 9218868437227405312 = 9218868437227405312 from rfl]
      rw [decide_eq_false c2] at q2 q3
      simp only [Bool.not_false] at q2 q3
      rw [← hX] at ha ⊢
      clear q1 hX hN c2
      go_enter Tryz.func32, Tryz.ntmps32
      go_wp2_with fail
      refine ha.mono ?_; rintro e w' ⟨rfl, hw'⟩; obtain rfl := hw'.symm; clear hw' ha
      go_wp2
      exact bodyPost_ret (v := .float .f64 9218868437227405312) (by simp [results, Tryz.results32, go_sem]) rfl ⟨rfl, rfl⟩
end Go.Proofs.YthngdlifpbhagaaGreatDoor
