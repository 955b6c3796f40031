import Derived.Test.YtgiffpohngaonaaGreatDoorProg
import Derived.Test.YtgiffpohngaonaaGreatDoorKXA0
import Derived.Test.YtgiffpohngaonaaGreatDoorKXM
import Derived.Test.YtgiffpohngaonaaGreatDoorKXY
import Derived.Test.YtgiffpohngaonaaGreatDoorKXQF
import Derived.Test.YtgiffpohngaonaaGreatDoorKQA
import Derived.Test.YtgiffpohngaonaaGreatDoorKQP
import Derived.Test.YtgiffpohngaonaaGreatDoorKXQU
import Derived.Test.YtgiffpohngaonaaGreatDoorKQB
import Derived.Test.YtgiffpohngaonaaGreatDoorKQBT
import Derived.Test.YtgiffpohngaonaaGreatDoorKXQJ
import Derived.Test.YtgiffpohngaonaaGreatDoorKXLB
import Derived.Test.YtgiffpohngaonaaGreatDoorKXMR
import Derived.Test.YtgiffpohngaonaaGreatDoorKXG1
import Derived.Test.YtgiffpohngaonaaGreatDoorKXH2Q
import Derived.Test.YtgiffpohngaonaaGreatDoorKXNM
import Derived.Test.YtgiffpohngaonaaGreatDoorKXMQ
import Derived.Test.YtgiffpohngaonaaGreatDoorKXMS
import Derived.Test.YtgiffpohngaonaaGreatDoorKXO3
import Derived.Test.YtgiffpohngaonaaGreatDoorKXO
import Derived.Test.YtgiffpohngaonaaGreatDoorKXP
import Derived.Test.YtgiffpohngaonaaGreatDoorKXS2
import Derived.Test.YtgiffpohngaonaaGreatDoorKXS4
import Derived.Test.YtgiffpohngaonaaGreatDoorKXS8
import Derived.Test.YtgiffpohngaonaaGreatDoorKXU1
import Derived.Test.YtgiffpohngaonaaGreatDoorKXU3
import Derived.Test.YtgiffpohngaonaaGreatDoorKU5
import Derived.Test.YtgiffpohngaonaaGreatDoorKXYC
import Derived.Test.YtgiffpohngaonaaGreatDoorKXZA
import Derived.Test.YtgiffpohngaonaaGreatDoorKXZD
import Derived.Test.YtgiffpohngaonaaGreatDoorKXTZ
import Derived.Test.YtgiffpohngaonaaGreatDoorKXVD
import Derived.WalkKit
import Derived.ProofKit
import Derived.RowKit3
import Derived.WalkSpells
import Derived.StillTactics
import Derived.Deep.QuietTactic
import Derived.BigQuiet
import Derived.Below
import Derived.Deep.OwnRows
import Derived.OwnWalk
import Derived.Laws.BitsAllLaws
import Derived.Laws.Slices
import Derived.Laws.Bits64b
import Derived.Laws.FloatArith
namespace Go.Proofs.YtgiffpohngaonaaGreatDoor
open Go.RowKit

set_option linter.unusedVariables false
/-- the pattern of a place -/
def pz (z : Int) : Nat := Fq.wD (decide (z < 0)) z.natAbs
def g53 (d : Int) (c1 c2 : Nat) (V : Int) : Int := gpl 53 2098 9218868437227405311 9218868437227405312 d c1 c2 V
theorem g53_mono (d : Int) (c1 c2 : Nat) (hc : 0 < c2) (V V' : Int) (h : V ≤ V') : g53 d c1 c2 V ≤ g53 d c1 c2 V' := gpl_mono 53 2098 9218868437227405311 9218868437227405312 d c1 c2 hc (by decide) (by decide) (by decide) (by decide) V V' h
theorem g53_le (d : Int) (c1 c2 : Nat) (V : Int) : -9218868437227405312 ≤ g53 d c1 c2 V ∧ g53 d c1 c2 V ≤ 9218868437227405312 := gpl_le 53 2098 9218868437227405311 9218868437227405312 d c1 c2 (by decide) (by decide) (by decide) (by decide) V
theorem mdW_pz (s : Bool) (M : Nat) : mdW s M = pz (if s then -(M : Int) else M) := by
  unfold mdW pz Fq.wD
  by_cases z : M = 0
  · rw [if_pos z, z]; cases s <;> simp
  · rw [if_neg z]
    cases s
    · simp <;> omega
    · simp <;> omega
theorem sumW_g (d V : Int) : sumW d V = pz (g53 d 1 1 V) := by
  unfold sumW g53 gpl
  by_cases z : V = 0
  · rw [if_pos z, if_pos z]; rfl
  · rw [if_neg z, if_neg z, mdW_pz, Nat.mul_one]
    by_cases n : V < 0
    · rw [if_pos n, decide_eq_true n]; rfl
    · rw [if_neg n, decide_eq_false n]; rfl
theorem rV_neg (d : Int) (A K : Nat) : rV d 53 A 1 (-(K : Int)) = rU d 53 (A * 1) (2 ^ K) := by
  unfold rV
  rw [show (-(K : Int)).toNat = 0 from by omega, show (- -(K : Int)).toNat = K from by omega, Nat.pow_zero, Nat.one_mul]
theorem rV_pos (d : Int) (A B K : Nat) : rV d 53 A B (K : Int) = rU d 53 (A * 2 ^ K) B := by
  unfold rV
  rw [show ((K : Int)).toNat = K from by omega, show (-(K : Int)).toNat = 0 from by omega, Nat.pow_zero, Nat.mul_one]
theorem fmaW_g (K : Nat) (hK : K = 1074) (d V : Int) : fmaW d V = pz (g53 d 1 (2 ^ K) V) := by
  unfold fmaW g53 gpl
  rw [show (-1074 : Int) = -(K : Int) from by omega]
  by_cases z : V = 0
  · rw [if_pos z, if_pos z]; rfl
  · rw [if_neg z, if_neg z, mdW_pz, rV_neg]
    by_cases n : V < 0
    · rw [if_pos n, decide_eq_true n]; rfl
    · rw [if_neg n, decide_eq_false n]; rfl
theorem mulW_g (K : Nat) (hK : K = 1074) (d : Int) (n n' : Bool) (m m' : Nat) : mulW d (n ^^ n') (Fq.vV Ieee.double m * Fq.vV Ieee.double m') = pz (g53 d 1 (2 ^ K) (Iv n m * Iv n' m')) := by
  rw [← fmaW_g K hK]
  have e : Iv n m * Iv n' m' = if (n ^^ n') then -((Fq.vV Ieee.double m * Fq.vV Ieee.double m' : Nat) : Int) else ((Fq.vV Ieee.double m * Fq.vV Ieee.double m' : Nat) : Int) := by
    unfold Iv
    rw [Int.natCast_mul]
    cases n <;> cases n' <;> simp [Int.neg_mul, Int.mul_neg]
  rw [e]
  generalize Fq.vV Ieee.double m * Fq.vV Ieee.double m' = P
  generalize (n ^^ n') = s
  unfold mulW fmaW
  by_cases z : P = 0
  · rw [if_pos z, z, if_pos (by cases s <;> rfl)]
  · rw [if_neg z, if_neg (by cases s <;> simp <;> omega)]
    cases s
    · rw [if_neg (by decide), show decide (((P : Nat) : Int) < 0) = false from decide_eq_false (by omega), show ((P : Nat) : Int).natAbs = P from by omega]
    · rw [if_pos rfl, show decide (-((P : Nat) : Int) < 0) = true from decide_eq_true (by omega), show (-((P : Nat) : Int)).natAbs = P from by omega]
theorem divW_g (K : Nat) (hK : K = 1074) (d : Int) (n : Bool) (m B : Nat) : divW d (n ^^ false) (Fq.vV Ieee.double m) B = pz (g53 d (2 ^ K) B (Iv n m)) := by
  rw [show (n ^^ false) = n from by cases n <;> rfl]
  unfold divW g53 gpl
  rw [show (1074 : Int) = (K : Int) from by omega]
  have e : Iv n m = if n then -((Fq.vV Ieee.double m : Nat) : Int) else ((Fq.vV Ieee.double m : Nat) : Int) := by unfold Iv; cases n <;> rfl
  rw [e]
  generalize Fq.vV Ieee.double m = P
  by_cases z : P = 0
  · rw [if_pos z, z, if_pos (by cases n <;> rfl)]; rfl
  · rw [if_neg z, if_neg (by cases n <;> simp <;> omega), mdW_pz, rV_pos]
    cases n
    · simp only [Bool.false_eq_true, if_false]
      rw [if_neg (show ¬ ((P : Nat) : Int) < 0 by omega), show ((P : Nat) : Int).natAbs = P from by omega]
    · simp only [if_true]
      rw [if_pos (show -((P : Nat) : Int) < 0 by omega), show (-((P : Nat) : Int)).natAbs = P from by omega]
theorem plz_pz (z : Int) : Fq.plz (decide (z < 0)) z.natAbs = z := by
  unfold Fq.plz
  by_cases c : z < 0 <;> simp [c] <;> omega
theorem pz_lt (z : Int) (h : -9218868437227405312 ≤ z ∧ z ≤ 9218868437227405312) : pz z < 18446744073709551616 := by
  unfold pz Fq.wD; split <;> omega
theorem ple_pz (x y : Int) (hx : -9218868437227405312 ≤ x ∧ x ≤ 9218868437227405312) (hy : -9218868437227405312 ≤ y ∧ y ≤ 9218868437227405312) (h : x ≤ y) : (FloatKind.f64.format.order (pz x) (pz y) == some Ordering.lt || FloatKind.f64.format.order (pz x) (pz y) == some Ordering.eq) = true := by
  have g := Fq.fle (decide (x < 0)) (decide (y < 0)) x.natAbs y.natAbs (by omega) (by omega)
  rw [plz_pz, plz_pz, decide_eq_true (show x.natAbs ≤ 9218868437227405312 ∧ y.natAbs ≤ 9218868437227405312 ∧ x ≤ y from ⟨by omega, by omega, h⟩)] at g
  exact g
theorem self_pz (x : Int) (hx : -9218868437227405312 ≤ x ∧ x ≤ 9218868437227405312) : (FloatKind.f64.format.order (pz x) (pz x) != some Ordering.eq) = false := by
  have g := Fq.feq (decide (x < 0)) (decide (x < 0)) x.natAbs x.natAbs (by omega) (by omega)
  rw [decide_eq_true (show x.natAbs ≤ 9218868437227405312 ∧ x.natAbs ≤ 9218868437227405312 ∧ Fq.plz (decide (x < 0)) x.natAbs = Fq.plz (decide (x < 0)) x.natAbs from ⟨by omega, by omega, rfl⟩)] at g
  show (!(FloatKind.f64.format.order (pz x) (pz x) == some Ordering.eq)) = false
  rw [show (FloatKind.f64.format.order (pz x) (pz x) == some Ordering.eq) = true from g]; rfl
theorem flip8 (n : Bool) (m : Nat) (hm : m < 9223372036854775808) : Fq.wD n m ^^^ 9223372036854775808 = Fq.wD (!n) m := by
  obtain ⟨x, hx⟩ : ∃ x, x = Fq.wD n m := ⟨_, rfl⟩
  have h1 : (x ^^^ 9223372036854775808) % 2 ^ 63 = x % 2 ^ 63 := by
    rw [Nat.xor_mod_two_pow, show (9223372036854775808 : Nat) % 2 ^ 63 = 0 from by decide, Nat.xor_zero]
  have h2 : (x ^^^ 9223372036854775808) / 2 ^ 63 = x / 2 ^ 63 ^^^ 1 := by
    rw [← Nat.shiftRight_eq_div_pow, ← Nat.shiftRight_eq_div_pow, Nat.shiftRight_xor_distrib, show (9223372036854775808 : Nat) >>> 63 = 1 from by decide]
  rw [show (2 : Nat) ^ 63 = 9223372036854775808 from by decide] at h1 h2
  rw [← hx]
  generalize hz : x ^^^ 9223372036854775808 = z at h1 h2 ⊢
  clear hz
  cases n
  · have e : x = m := by rw [hx]; unfold Fq.wD; simp
    rw [e, Nat.div_eq_of_lt hm, show (0 : Nat) ^^^ 1 = 1 from by decide] at h2
    rw [e, Nat.mod_eq_of_lt hm] at h1
    unfold Fq.wD
    simp
    omega
  · have e : x = 9223372036854775808 + m := by rw [hx]; unfold Fq.wD; simp
    have e2 : x / 9223372036854775808 = 1 := by omega
    have e3 : x % 9223372036854775808 = m := by omega
    rw [e2, show (1 : Nat) ^^^ 1 = 0 from by decide] at h2
    rw [e3] at h1
    unfold Fq.wD
    simp
    omega
theorem negW8 (n : Bool) (m : Nat) (hm : m < 9223372036854775808) (w : World) : (Op.unary .neg (.float .f64 (Fq.wD n m))).run Tryz.prog w = .ok (.float .f64 (Fq.wD (!n) m)) w := by
  have h : Op.negFloat .f64 (Fq.wD n m) = Fq.wD (!n) m := by
    unfold Op.negFloat
    exact flip8 n m hm
  rw [← h]; rfl
set_option linter.unusedVariables false
theorem addG_ (d : Int) (n n' : Bool) (m m' : Nat) (hm : m < 9218868437227405312) (hm' : m' < 9218868437227405312) (hd1 : -9223372036854775808 ≤ d) (hd2 : d < 9223372036854775808) (w : World) (hT : Tab w) (hQ : Fq.Tab w) : Calls Tryz.prog 10 #[.int .i64 d, .float .f64 (Fq.wD n m), .float .f64 (Fq.wD n' m')] w fun e w' => e = .returned (.float .f64 (pz (g53 d 1 1 (Iv n m + Iv n' m')))) ∧ Kp w w' := by
  rw [← sumW_g]
  exact paddF_ d n n' m m' hm hm' w hT hQ hd1 hd2
set_option maxRecDepth 20000 in
set_option maxHeartbeats 400000 in
theorem psubG_ (d : Int) (X Y Y' Z : Nat) (hn : ∀ w : World, (Op.unary .neg (.float .f64 Y)).run Tryz.prog w = .ok (.float .f64 Y') w) (w : World) (ha : Calls Tryz.prog 10 #[.int .i64 d, .float .f64 X, .float .f64 Y'] w fun e w' => e = .returned (.float .f64 Z) ∧ Kp w w') : Calls Tryz.prog 11 #[.int .i64 d, .float .f64 X, .float .f64 Y] w fun e w' => e = .returned (.float .f64 Z) ∧ Kp w w' := by
  go_enter Tryz.func11, Tryz.ntmps11
  go_wp2_with (first | (go_at_call 10; refine ha.mono ?_; rintro e w1 ⟨rfl, g1⟩))
  exact bodyPost_ret (v := .float .f64 Z) (by simp [results, Tryz.results11, go_sem]) rfl ⟨rfl, g1⟩
theorem subG_ (d : Int) (n n' : Bool) (m m' : Nat) (hm : m < 9218868437227405312) (hm' : m' < 9218868437227405312) (hd1 : -9223372036854775808 ≤ d) (hd2 : d < 9223372036854775808) (w : World) (hT : Tab w) (hQ : Fq.Tab w) : Calls Tryz.prog 11 #[.int .i64 d, .float .f64 (Fq.wD n m), .float .f64 (Fq.wD n' m')] w fun e w' => e = .returned (.float .f64 (pz (g53 d 1 1 (Iv n m - Iv n' m')))) ∧ Kp w w' := by
  have h := addG_ d n (!n') m m' hm hm' hd1 hd2 w hT hQ
  rw [show Iv n m + Iv (!n') m' = Iv n m - Iv n' m' from by rw [iv_not]; omega] at h
  exact psubG_ d _ _ _ _ (negW8 n' m' (by omega)) w h
theorem mulG_ (K : Nat) (hK : K = 1074) (d : Int) (n n' : Bool) (m m' : Nat) (hm : m < 9218868437227405312) (hm' : m' < 9218868437227405312) (hd1 : -9223372036854775808 ≤ d) (hd2 : d < 9223372036854775808) (w : World) (hT : Tab w) (hQ : Fq.Tab w) : Calls Tryz.prog 12 #[.int .i64 d, .float .f64 (Fq.wD n m), .float .f64 (Fq.wD n' m')] w fun e w' => e = .returned (.float .f64 (pz (g53 d 1 (2 ^ K) (Iv n m * Iv n' m')))) ∧ Kp w w' := by
  rw [← mulW_g K hK]
  by_cases z : m = 0 ∨ m' = 0
  · have h0 : mulW d (n ^^ n') (Fq.vV Ieee.double m * Fq.vV Ieee.double m') = 0 := by
      unfold mulW
      refine if_pos (Nat.mul_eq_zero.2 ?_)
      rcases z with z | z
      · exact Or.inl ((vV_zero m).2 z)
      · exact Or.inr ((vV_zero m').2 z)
    rw [h0]
    have hp := Fq.plain_d (n ^^ n') 0 (by decide) w
    rw [show Fq.wD ((n ^^ n') && !((0 : Nat) == 0)) 0 = 0 from by simp; rfl] at hp
    exact pmulP_ d n n' m m' (by omega) (by omega) (fun h => by omega) w w (Fq.wD (n ^^ n') 0) 0 (run_float_arith w .mul 24 .f64 _ _ _ (mul_zero n n' m m' hm hm' z)) (Kp.refl _) hp
  · by_cases ct : (2580562586483294208 ≤ m ∧ m ≤ 6633802251116740608) ∧ (2580562586483294208 ≤ m' ∧ m' ≤ 6633802251116740608)
    · exact pmulQ_ d n n' m m' ct.1 ct.2 w
    · exact pmulE_ d n n' m m' hm hm' (fun h => z (Or.inl h)) (fun h => z (Or.inr h)) ct w hT hQ hd1 hd2
theorem divG_ (K : Nat) (hK : K = 1074) (d : Int) (n : Bool) (m m' : Nat) (hm : m < 9218868437227405312) (hm' : m' < 9218868437227405312) (z' : m' ≠ 0) (hd1 : -9223372036854775808 ≤ d) (hd2 : d < 9223372036854775808) (w : World) (hT : Tab w) (hQ : Fq.Tab w) : Calls Tryz.prog 13 #[.int .i64 d, .float .f64 (Fq.wD n m), .float .f64 (Fq.wD false m')] w fun e w' => e = .returned (.float .f64 (pz (g53 d (2 ^ K) (Fq.vV Ieee.double m') (Iv n m)))) ∧ Kp w w' := by
  rw [← divW_g K hK]
  by_cases z : m = 0
  · have h0 : divW d (n ^^ false) (Fq.vV Ieee.double m) (Fq.vV Ieee.double m') = 0 := by
      unfold divW
      exact if_pos ((vV_zero m).2 z)
    rw [h0]
    have hp := Fq.plain_d (n ^^ false) 0 (by decide) w
    rw [show Fq.wD ((n ^^ false) && !((0 : Nat) == 0)) 0 = 0 from by simp; rfl] at hp
    exact pdivP_ d n false m m' (by omega) (by omega) z' (fun h => by omega) w w _ _ (run_float_arith w .quo 24 .f64 _ _ _ (div_zero n false m m' hm (Or.inr ⟨z, hm', z'⟩))) (Kp.refl _) hp
  · by_cases ct : (2580562586483294208 ≤ m ∧ m ≤ 6633802251116740608) ∧ (2580562586483294208 ≤ m' ∧ m' ≤ 6633802251116740608)
    · exact pdivQ_ d n false m m' ct.1 ct.2 w
    · exact pdivE_ d n false m m' hm hm' z z' ct w hQ hd1 hd2
theorem fmaG_ (K : Nat) (hK : K = 1074) (d : Int) (n n' nz : Bool) (m m' mz : Nat) (hm : m < 9218868437227405312) (hm' : m' < 9218868437227405312) (hmz : mz < 9218868437227405312) (hd1 : -9223372036854775808 ≤ d) (hd2 : d < 9223372036854775808) (w : World) (hT : Tab w) (hQ : Fq.Tab w) : Calls Tryz.prog 14 #[.int .i64 d, .float .f64 (Fq.wD n m), .float .f64 (Fq.wD n' m'), .float .f64 (Fq.wD nz mz)] w fun e w' => e = .returned (.float .f64 (pz (g53 d 1 (2 ^ K) (Iv n m * Iv n' m' + Iv nz mz * ((2 ^ K : Nat) : Int))))) ∧ Kp w w' := by
  rw [← fmaW_g K hK]
  by_cases ct : (2580562586483294208 ≤ m ∧ m ≤ 6633802251116740608) ∧ (2580562586483294208 ≤ m' ∧ m' ≤ 6633802251116740608) ∧ mz ≤ 9110782046170513408
  · exact pfmaQ_ d n n' nz m m' mz ct.1 ct.2.1 ct.2.2 K hK w hT hQ hd1 hd2
  · exact pfmaE_ d n n' nz m m' mz hm hm' hmz ct K hK w hT hQ hd1 hd2
set_option maxRecDepth 20000 in
set_option maxHeartbeats 1000000 in
theorem livesA_ (w : World) (h1 : ∀ W : World, Kp w W → Calls Tryz.prog 10 #[.int .i64 1, .float .f64 4607182418800017408, .float .f64 1] W fun e w' => e = .returned (.float .f64 4607182418800017409) ∧ Kp W w') (h2 : ∀ W : World, Kp w W → Calls Tryz.prog 13 #[.int .i64 (-1), .float .f64 4607182418800017408, .float .f64 4613937818241073152] W fun e w' => e = .returned (.float .f64 4599676419421066581) ∧ Kp W w') (h3 : ∀ W : World, Kp w W → Calls Tryz.prog 15 #[.int .i64 1, .float .f64 4611686018427387904] W fun e w' => e = .returned (.float .f64 4609047870845172685) ∧ Kp W w') (h4 : ∀ W : World, Kp w W → Calls Tryz.prog 12 #[.int .i64 1, .float .f64 1, .float .f64 1] W fun e w' => e = .returned (.float .f64 1) ∧ Kp W w') (h5 : ∀ W : World, Kp w W → Calls Tryz.prog 10 #[.int .i64 (-1), .float .f64 9218868437227405311, .float .f64 9218868437227405311] W fun e w' => e = .returned (.float .f64 9218868437227405311) ∧ Kp W w') (PF : Int → Nat → Prop) (PB : Nat → Int → Prop) (fl9 : ∀ X Y, PF X Y → ∀ w : World, Calls Tryz.prog 4 #[.int .u64 X] w fun e w' => e = .returned (.float .f64 Y) ∧ w' = w) (bt9 : ∀ X Y, PB X Y → ∀ w : World, Calls Tryz.prog 9 #[.float .f64 X] w fun e w' => e = .returned (.int .u64 Y) ∧ w' = w) (p1 : PF 1 1) (pG : PF 9218868437227405311 9218868437227405311) (b1 : PB 4607182418800017409 4607182418800017409) (b2 : PB 4599676419421066581 4599676419421066581) (b3 : PB 4609047870845172685 4609047870845172685) (b4 : PB 1 1) (b5 : PB 9218868437227405311 9218868437227405311) : Calls Tryz.prog 7 #[] w fun e w' => e = .returned (.bool true) ∧ Kp w w' := by
  have kw : Kp w w := Kp.refl w
  go_enter Tryz.func7, Tryz.ntmps7
  go_wp2_with (first | (go_at_call_of 10 (Value.float .f64 4607182418800017408); refine (h1 _ kw).mono ?_; rintro e wn ⟨rfl, gn⟩; replace kw := Kp.trans kw gn; clear gn) | (go_at_call_of 13 (Value.float .f64 4613937818241073152); refine (h2 _ kw).mono ?_; rintro e wn ⟨rfl, gn⟩; replace kw := Kp.trans kw gn; clear gn) | (go_at_call_of 15 (Value.float .f64 4611686018427387904); refine (h3 _ kw).mono ?_; rintro e wn ⟨rfl, gn⟩; replace kw := Kp.trans kw gn; clear gn) | (go_at_call_of 12 (Value.float .f64 1); refine (h4 _ kw).mono ?_; rintro e wn ⟨rfl, gn⟩; replace kw := Kp.trans kw gn; clear gn) | (go_at_call_of 10 (Value.float .f64 9218868437227405311); refine (h5 _ kw).mono ?_; rintro e wn ⟨rfl, gn⟩; replace kw := Kp.trans kw gn; clear gn) | (go_at_call 4; refine (fl9 _ _ (by with_reducible first | exact p1 | exact pG) _).mono ?_; rintro e wn ⟨rfl, hw9⟩; obtain rfl := hw9.symm; clear hw9) | (go_at_call 9; refine (bt9 _ _ (by with_reducible first | exact b1 | exact b2 | exact b3 | exact b4 | exact b5) _).mono ?_; rintro e wn ⟨rfl, hw9⟩; obtain rfl := hw9.symm; clear hw9))
  exact bodyPost_ret (v := .bool true) (by simp [results, Tryz.results7, go_sem]) rfl ⟨rfl, kw⟩
theorem lives_ (w : World) (hT : Tab w) (hQ : Fq.Tab w) : Calls Tryz.prog 7 #[] w fun e w' => e = .returned (.bool true) ∧ Kp w w' := by
  have h1 : ∀ W : World, Kp w W → Calls Tryz.prog 10 #[.int .i64 1, .float .f64 4607182418800017408, .float .f64 1] W fun e w' => e = .returned (.float .f64 4607182418800017409) ∧ Kp W w' := fun W g => by
    have h := paddF_ 1 false false 4607182418800017408 1 (by decide) (by decide) W (Tab.grown hT g) (Fq.Tab.grown hQ g) (by decide) (by decide)
    rw [show sumW 1 (Iv false 4607182418800017408 + Iv false 1) = 4607182418800017409 from by decide +kernel] at h
    exact h
  have h2 : ∀ W : World, Kp w W → Calls Tryz.prog 13 #[.int .i64 (-1), .float .f64 4607182418800017408, .float .f64 4613937818241073152] W fun e w' => e = .returned (.float .f64 4599676419421066581) ∧ Kp W w' := fun W g => by
    have h := pdivQ_ (-1) false false 4607182418800017408 4613937818241073152 (by decide) (by decide) W
    rw [show divW (-1) (false ^^ false) (Fq.vV Ieee.double 4607182418800017408) (Fq.vV Ieee.double 4613937818241073152) = 4599676419421066581 from by decide +kernel] at h
    exact h
  have h3 : ∀ W : World, Kp w W → Calls Tryz.prog 15 #[.int .i64 1, .float .f64 4611686018427387904] W fun e w' => e = .returned (.float .f64 4609047870845172685) ∧ Kp W w' := fun W g => by
    have h := psqrtQ_ 1 4611686018427387904 (by decide) W
    rw [show rootW 1 (Fq.vV Ieee.double 4611686018427387904) = 4609047870845172685 from by decide +kernel] at h
    exact h
  have h4 : ∀ W : World, Kp w W → Calls Tryz.prog 12 #[.int .i64 1, .float .f64 1, .float .f64 1] W fun e w' => e = .returned (.float .f64 1) ∧ Kp W w' := fun W g => by
    have h := pmulE_ 1 false false 1 1 (by decide) (by decide) (by decide) (by decide) (by decide) W (Tab.grown hT g) (Fq.Tab.grown hQ g) (by decide) (by decide)
    rw [show mulW 1 (false ^^ false) (Fq.vV Ieee.double 1 * Fq.vV Ieee.double 1) = 1 from by decide +kernel] at h
    exact h
  have h5 : ∀ W : World, Kp w W → Calls Tryz.prog 10 #[.int .i64 (-1), .float .f64 9218868437227405311, .float .f64 9218868437227405311] W fun e w' => e = .returned (.float .f64 9218868437227405311) ∧ Kp W w' := fun W g => by
    have h := paddF_ (-1) false false 9218868437227405311 9218868437227405311 (by decide) (by decide) W (Tab.grown hT g) (Fq.Tab.grown hQ g) (by decide) (by decide)
    rw [show sumW (-1) (Iv false 9218868437227405311 + Iv false 9218868437227405311) = 9218868437227405311 from by decide +kernel] at h
    exact h
  exact livesA_ w h1 h2 h3 h4 h5 (fun X Y => X = (Y : Int)) (fun X Y => (FloatKind.f64.format.order X X != some Ordering.eq) = false ∧ Y = (X : Int)) (fun X Y h w => by rw [h]; exact fl_ Y w) (fun X Y h w => by rw [h.2]; exact bitsN_ X h.1 w) rfl rfl ⟨by decide +kernel, rfl⟩ ⟨by decide +kernel, rfl⟩ ⟨by decide +kernel, rfl⟩ ⟨by decide +kernel, rfl⟩ ⟨by decide +kernel, rfl⟩
end Go.Proofs.YtgiffpohngaonaaGreatDoor
