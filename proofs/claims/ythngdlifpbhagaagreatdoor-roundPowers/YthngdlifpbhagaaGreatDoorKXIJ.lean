import Derived.Test.YthngdlifpbhagaaGreatDoorProg
import Derived.Test.YthngdlifpbhagaaGreatDoorKXA0
import Derived.Test.YthngdlifpbhagaaGreatDoorKXM
import Derived.Test.YthngdlifpbhagaaGreatDoorKXY
import Derived.Test.YthngdlifpbhagaaGreatDoorKXQF
import Derived.Test.YthngdlifpbhagaaGreatDoorKQA
import Derived.Test.YthngdlifpbhagaaGreatDoorKQP
import Derived.Test.YthngdlifpbhagaaGreatDoorKXQU
import Derived.Test.YthngdlifpbhagaaGreatDoorKQB
import Derived.Test.YthngdlifpbhagaaGreatDoorKQBT
import Derived.Test.YthngdlifpbhagaaGreatDoorKQJd
import Derived.Test.YthngdlifpbhagaaGreatDoorKHB
import Derived.Test.YthngdlifpbhagaaGreatDoorKLX
import Derived.Test.YthngdlifpbhagaaGreatDoorKXMR
import Derived.Test.YthngdlifpbhagaaGreatDoorKXG1
import Derived.Test.YthngdlifpbhagaaGreatDoorKXH2Q
import Derived.Test.YthngdlifpbhagaaGreatDoorKXNM
import Derived.Test.YthngdlifpbhagaaGreatDoorKXT
import Derived.Test.YthngdlifpbhagaaGreatDoorKXRT
import Derived.Test.YthngdlifpbhagaaGreatDoorKXRL
import Derived.Test.YthngdlifpbhagaaGreatDoorKXCO
import Derived.Test.YthngdlifpbhagaaGreatDoorKLN
import Derived.Test.YthngdlifpbhagaaGreatDoorKXRN
import Derived.Test.YthngdlifpbhagaaGreatDoorKW4
import Derived.Test.YthngdlifpbhagaaGreatDoorKBY
import Derived.Test.YthngdlifpbhagaaGreatDoorKXBW
import Derived.Test.YthngdlifpbhagaaGreatDoorKXTZ
import Derived.Test.YthngdlifpbhagaaGreatDoorKXMQ
import Derived.Test.YthngdlifpbhagaaGreatDoorKXMS
import Derived.Test.YthngdlifpbhagaaGreatDoorKXO3
import Derived.Test.YthngdlifpbhagaaGreatDoorKXO
import Derived.Test.YthngdlifpbhagaaGreatDoorKXS2
import Derived.Test.YthngdlifpbhagaaGreatDoorKXS4
import Derived.Test.YthngdlifpbhagaaGreatDoorKXU1
import Derived.Test.YthngdlifpbhagaaGreatDoorKXU6
import Derived.Test.YthngdlifpbhagaaGreatDoorKXYA
import Derived.Test.YthngdlifpbhagaaGreatDoorKXP
import Derived.Test.YthngdlifpbhagaaGreatDoorKXG4
import Derived.Test.YthngdlifpbhagaaGreatDoorKXID
import Derived.Test.YthngdlifpbhagaaGreatDoorKXIG
import Derived.WalkKit
import Derived.ProofKit
import Derived.RowKit3
import Derived.WalkSpells
import Derived.StillTactics
import Derived.Deep.QuietTactic
import Derived.BigQuiet
import Derived.Below
import Derived.Deep.OwnRows
import Derived.OwnWalk
import Derived.Laws.BitsAllLaws
import Derived.Laws.Slices
import Derived.Laws.Bits64b
import Derived.Laws.FloatArith
import Derived.Laws.Small
namespace Go.Proofs.YthngdlifpbhagaaGreatDoor
open Go.RowKit
set_option maxRecDepth 20000 in
set_option maxHeartbeats 1000000 in
theorem ppowN_ (d : Int) (n : Bool) (m : Nat) (N : Int) (hm : m < 9223372036854775808) (hb : 9218868437227405312 < m ∨ N < -1024 ∨ 1024 < N) (w : World) :
    Calls Tryz.prog 9 #[.int .i64 d, .float .f64 (Fq.wD n m), .int .i64 N] w fun e w' => e = .returned (.float .f64 9221120237041090561) ∧ Kp w w' := by
  have h1 := isNaN_ n m hm w
  have h2 := mnan_ w
  obtain ⟨X, hX⟩ : ∃ X, X = Fq.wD n m := ⟨_, rfl⟩
  rw [← hX] at h1 ⊢
  by_cases c1 : 9218868437227405312 < m
  · rw [decide_eq_true c1] at h1
    clear hX c1 hb hm
    go_enter Tryz.func9, Tryz.ntmps9
    go_wp2_with fail
    refine h1.mono ?_; rintro e w' ⟨rfl, hw'⟩; obtain rfl := hw'.symm; clear hw' h1
    go_wp2_with fail
    refine h2.mono ?_; rintro e w' ⟨rfl, hw'⟩; obtain rfl := hw'.symm; clear hw' h2
    go_wp2
    exact bodyPost_ret (v := .float .f64 9221120237041090561) (by simp [results, Tryz.results9, go_sem]) rfl ⟨rfl, Kp.refl _⟩
  · rw [decide_eq_false c1] at h1
    by_cases c2 : N < -1024
    · clear hX c1 hb hm
      go_enter Tryz.func9, Tryz.ntmps9
      go_wp2_with fail
      refine h1.mono ?_; rintro e w' ⟨rfl, hw'⟩; obtain rfl := hw'.symm; clear hw' h1
      go_wp2_with fail
      refine h2.mono ?_; rintro e w' ⟨rfl, hw'⟩; obtain rfl := hw'.symm; clear hw' h2
      go_wp2
      exact bodyPost_ret (v := .float .f64 9221120237041090561) (by simp [results, Tryz.results9, go_sem]) rfl ⟨rfl, Kp.refl _⟩
    · have c3 : 1024 < N := by omega
      clear hX c1 hb hm
      go_enter Tryz.func9, Tryz.ntmps9
      go_wp2_with fail
      refine h1.mono ?_; rintro e w' ⟨rfl, hw'⟩; obtain rfl := hw'.symm; clear hw' h1
      go_wp2_with fail
      refine h2.mono ?_; rintro e w' ⟨rfl, hw'⟩; obtain rfl := hw'.symm; clear hw' h2
      go_wp2
      exact bodyPost_ret (v := .float .f64 9221120237041090561) (by simp [results, Tryz.results9, go_sem]) rfl ⟨rfl, Kp.refl _⟩
set_option maxRecDepth 20000 in
set_option maxHeartbeats 1000000 in
theorem ppow0_ (d : Int) (n : Bool) (m : Nat) (hm : m ≤ 9218868437227405312) (w : World) :
    Calls Tryz.prog 9 #[.int .i64 d, .float .f64 (Fq.wD n m), .int .i64 0] w fun e w' => e = .returned (.float .f64 4607182418800017408) ∧ Kp w w' := by
  have h1 := isNaN_ n m (by omega) w
  rw [decide_eq_false (by omega)] at h1
  obtain ⟨X, hX⟩ : ∃ X, X = Fq.wD n m := ⟨_, rfl⟩
  rw [← hX] at h1 ⊢
  clear hX hm
  go_enter Tryz.func9, Tryz.ntmps9
  go_wp2_with fail
  refine h1.mono ?_; rintro e w' ⟨rfl, hw'⟩; obtain rfl := hw'.symm; clear hw' h1
  go_wp2
  exact bodyPost_ret (v := .float .f64 4607182418800017408) (by simp [results, Tryz.results9, go_sem]) rfl ⟨rfl, Kp.refl _⟩
set_option maxRecDepth 20000 in
set_option maxHeartbeats 1000000 in
theorem ppowI_ (d : Int) (n : Bool) (m : Nat) (N : Int) (k : Nat) (hm : m = 9218868437227405312) (h1' : -1024 ≤ N) (h2' : N ≤ 1024) (h0 : N ≠ 0) (hk : N = (k : Int) ∨ N = -(k : Int)) (w : World) :
    Calls Tryz.prog 9 #[.int .i64 d, .float .f64 (Fq.wD n m), .int .i64 N] w fun e w' => e = .returned (.float .f64 (if N < 0 then 0 else Fq.wD (n && decide (k % 2 = 1)) 9218868437227405312)) ∧ Kp w w' := by
  have h1 := isNaN_ n m (by omega) w
  rw [decide_eq_false (by omega)] at h1
  have g1 := finite_ n m (by omega) w
  rw [decide_eq_false (by omega)] at g1
  have h2 := powInf_ n N k hk w
  rw [← hm] at h2
  obtain ⟨R, hR⟩ : ∃ R, R = (if N < 0 then 0 else Fq.wD (n && decide (k % 2 = 1)) m) := ⟨_, rfl⟩
  rw [← hm, ← hR]
  rw [← hR] at h2
  obtain ⟨X, hX⟩ : ∃ X, X = Fq.wD n m := ⟨_, rfl⟩
  rw [← hX] at h1 g1 h2 ⊢
  have t0 : (N == 0) = false := by simp [h0]
  have t1 : ¬ (N < -1024) := by omega
  have t2 : ¬ (1024 < N) := by omega
  clear hX hm hR hk h1' h2' h0
  go_enter Tryz.func9, Tryz.ntmps9
  go_wp2_with fail
  refine h1.mono ?_; rintro e w' ⟨rfl, hw'⟩; obtain rfl := hw'.symm; clear hw' h1
  go_wp2_with fail
  refine g1.mono ?_; rintro e w' ⟨rfl, hw'⟩; obtain rfl := hw'.symm; clear hw' g1
  go_wp2_with fail
  refine h2.mono ?_; rintro e w' ⟨rfl, hw'⟩; obtain rfl := hw'.symm; clear hw' h2
  go_wp2
  exact bodyPost_ret (v := .float .f64 R) (by simp [results, Tryz.results9, go_sem]) rfl ⟨rfl, Kp.refl _⟩
set_option maxRecDepth 20000 in
set_option maxHeartbeats 1000000 in
theorem ppow1_ (d : Int) (n : Bool) (m : Nat) (hm : m < 9218868437227405312) (w : World) :
    Calls Tryz.prog 9 #[.int .i64 d, .float .f64 (Fq.wD n m), .int .i64 1] w fun e w' => e = .returned (.float .f64 (Fq.wD (n && !(m == 0)) m)) ∧ Kp w w' := by
  have h1 := isNaN_ n m (by omega) w
  rw [decide_eq_false (by omega)] at h1
  have g1 := finite_ n m (by omega) w
  rw [decide_eq_true hm] at g1
  have h2 := Fq.plain_d n m (by omega) w
  obtain ⟨R, hR⟩ : ∃ R, R = Fq.wD (n && !(m == 0)) m := ⟨_, rfl⟩
  rw [← hR] at h2 ⊢
  obtain ⟨X, hX⟩ : ∃ X, X = Fq.wD n m := ⟨_, rfl⟩
  rw [← hX] at h1 g1 h2 ⊢
  clear hX hm hR
  go_enter Tryz.func9, Tryz.ntmps9
  go_wp2_with fail
  refine h1.mono ?_; rintro e w' ⟨rfl, hw'⟩; obtain rfl := hw'.symm; clear hw' h1
  go_wp2_with fail
  refine g1.mono ?_; rintro e w' ⟨rfl, hw'⟩; obtain rfl := hw'.symm; clear hw' g1
  go_wp2_with fail
  refine h2.mono ?_; rintro e w' ⟨rfl, hw'⟩; obtain rfl := hw'.symm; clear hw' h2
  go_wp2
  exact bodyPost_ret (v := .float .f64 R) (by simp [results, Tryz.results9, go_sem]) rfl ⟨rfl, Kp.refl _⟩
set_option maxRecDepth 20000 in
set_option maxHeartbeats 1000000 in
theorem ppow2_ (d : Int) (n : Bool) (m : Nat) (hm : m < 9218868437227405312) (R : Nat) (w : World) (h2 : Calls Tryz.prog 34 #[.int .i64 d, .float .f64 (Fq.wD n m), .float .f64 (Fq.wD n m)] w fun e w' => e = .returned (.float .f64 R) ∧ Kp w w') :
    Calls Tryz.prog 9 #[.int .i64 d, .float .f64 (Fq.wD n m), .int .i64 2] w fun e w' => e = .returned (.float .f64 R) ∧ Kp w w' := by
  have h1 := isNaN_ n m (by omega) w
  rw [decide_eq_false (by omega)] at h1
  have g1 := finite_ n m (by omega) w
  rw [decide_eq_true hm] at g1
  obtain ⟨X, hX⟩ : ∃ X, X = Fq.wD n m := ⟨_, rfl⟩
  rw [← hX] at h1 g1 h2 ⊢
  clear hX hm
  go_enter Tryz.func9, Tryz.ntmps9
  go_wp2_with fail
  refine h1.mono ?_; rintro e w' ⟨rfl, hw'⟩; obtain rfl := hw'.symm; clear hw' h1
  go_wp2_with fail
  refine g1.mono ?_; rintro e w' ⟨rfl, hw'⟩; obtain rfl := hw'.symm; clear hw' g1
  go_wp2_with fail
  refine h2.mono ?_; rintro e w1 ⟨rfl, k1⟩; clear h2
  go_wp2
  exact bodyPost_ret (v := .float .f64 R) (by simp [results, Tryz.results9, go_sem]) rfl ⟨rfl, k1⟩
set_option maxRecDepth 20000 in
set_option maxHeartbeats 1000000 in
theorem ppowM_ (d : Int) (n : Bool) (m : Nat) (hm : m < 9218868437227405312) (R : Nat) (w : World) (h2 : Calls Tryz.prog 35 #[.int .i64 d, .float .f64 4607182418800017408, .float .f64 (Fq.wD n m)] w fun e w' => e = .returned (.float .f64 R) ∧ Kp w w') :
    Calls Tryz.prog 9 #[.int .i64 d, .float .f64 (Fq.wD n m), .int .i64 (-1)] w fun e w' => e = .returned (.float .f64 R) ∧ Kp w w' := by
  have h1 := isNaN_ n m (by omega) w
  rw [decide_eq_false (by omega)] at h1
  have g1 := finite_ n m (by omega) w
  rw [decide_eq_true hm] at g1
  obtain ⟨X, hX⟩ : ∃ X, X = Fq.wD n m := ⟨_, rfl⟩
  rw [← hX] at h1 g1 h2 ⊢
  clear hX hm
  go_enter Tryz.func9, Tryz.ntmps9
  go_wp2_with fail
  refine h1.mono ?_; rintro e w' ⟨rfl, hw'⟩; obtain rfl := hw'.symm; clear hw' h1
  go_wp2_with fail
  refine g1.mono ?_; rintro e w' ⟨rfl, hw'⟩; obtain rfl := hw'.symm; clear hw' g1
  go_wp2_with fail
  refine h2.mono ?_; rintro e w1 ⟨rfl, k1⟩; clear h2
  go_wp2
  exact bodyPost_ret (v := .float .f64 R) (by simp [results, Tryz.results9, go_sem]) rfl ⟨rfl, k1⟩
set_option maxRecDepth 20000 in
set_option maxHeartbeats 1000000 in
theorem ppowG_ (d : Int) (n : Bool) (m : Nat) (N : Int) (k : Nat) (hm : m < 9218868437227405312) (h1' : -1024 ≤ N) (h2' : N ≤ 1024) (h0 : N ≠ 0) (hk : N = (k : Int) ∨ N = -(k : Int)) (n1 : N ≠ 1) (n2 : N ≠ 2) (n3 : N ≠ -1) (w : World) (hT : Tab w) (hQ : Fq.Tab w) (hd1 : -9223372036854775808 ≤ d) (hd2 : d < 9223372036854775808) :
    Calls Tryz.prog 9 #[.int .i64 d, .float .f64 (Fq.wD n m), .int .i64 N] w fun e w' => e = .returned (.float .f64 (if m = 0 then (if N < 0 then 9218868437227405312 else 0) else if N < 0 then dnW d (n && decide (k % 2 = 1)) (Fq.vV Ieee.double m) k else upW d (n && decide (k % 2 = 1)) (Fq.vV Ieee.double m) k)) ∧ Kp w w' := by
  have h1 := isNaN_ n m (by omega) w
  rw [decide_eq_false (by omega)] at h1
  have g1 := finite_ n m (by omega) w
  rw [decide_eq_true hm] at g1
  obtain ⟨a, ea, a1, a2, a3, a4, ta⟩ := take_ n m hm
  have hk0 : 0 < k := by omega
  have hk9 : k ≤ 1024 := by omega
  have lp := pow_len a k a4 hk9
  obtain ⟨R, hR⟩ : ∃ R, R = (if m = 0 then (if N < 0 then 9218868437227405312 else 0) else if N < 0 then dnW d (n && decide (k % 2 = 1)) (Fq.vV Ieee.double m) k else upW d (n && decide (k % 2 = 1)) (Fq.vV Ieee.double m) k) := ⟨_, rfl⟩
  have hom : (if N < 0 then ratW d ((n && !(m == 0)) && decide (k % 2 = 1)) 1 (a ^ k) (ea * N) else ofW d ((n && !(m == 0)) && decide (k % 2 = 1)) (a ^ k) (ea * N)) = R := by
    rw [hR]
    by_cases z : m = 0
    · have za : a = 0 := by
        rw [(vV_zero m).2 z] at a1
        rcases Nat.mul_eq_zero.1 a1 with h | h
        · exact h
        · have := Nat.two_pow_pos (ea + 1074).toNat; omega
      have zk : a ^ k = 0 := by rw [za]; exact Nat.zero_pow hk0
      rw [if_pos z, zk, show (n && !(m == 0)) = false from by simp [z]]
      by_cases c : N < 0
      · rw [if_pos c, if_pos c]
        unfold ratW
        rw [if_neg (by rw [len32_one, show len32 0 = 0 from by unfold len32; rw [dig_zero]; rfl]; omega), if_pos rfl, if_neg (by decide)]
        rfl
      · rw [if_neg c, if_neg c, of_rat]
        unfold ratW
        rw [if_neg (by rw [len32_one, show len32 0 = 0 from by unfold len32; rw [dig_zero]; rfl]; omega), if_neg (by decide), if_pos rfl]
    · have za : a ≠ 0 := fun h => by rw [h, Nat.zero_mul] at a1; exact z ((vV_zero m).1 a1.symm)
      rw [if_neg z, show (n && !(m == 0)) = n from by simp [z], ← a1]
      by_cases c : N < 0
      · rw [if_pos c, if_pos c]
        exact dn_rat d _ a _ k ea N za (by omega) (by omega) lp
      · rw [if_neg c, if_neg c]
        have eN : N = (k : Int) := by omega
        rw [eN]
        exact up_rat d _ a _ k ea za (by omega) lp
  obtain ⟨s, hs⟩ : ∃ s, s = (n && !(m == 0)) := ⟨_, rfl⟩
  rw [← hs] at ta hom
  have hp : ∀ (va : Value) (w1 : World), Kp w w1 → Ls w1 va (dig a) → Calls Tryz.prog 36 #[.agg #[.bool s, va, .int .i64 ea], .int .i64 d, .int .i64 N] w1 fun e w' => e = .returned (.float .f64 R) ∧ Kp w1 w' := fun va w1 k1 l1 => by
    rw [← hom]; exact power_ d s a k ea N va w1 (hT.grown k1) (Fq.Tab.grown hQ k1) hd1 hd2 l1 a4 a2 a3 hk0 hk9 hk
  have ta1 := ta w hQ
  rw [← hR]
  obtain ⟨X, hX⟩ : ∃ X, X = Fq.wD n m := ⟨_, rfl⟩
  rw [← hX] at h1 g1 ta1 ⊢
  have t0 : (N == 0) = false := by simp [h0]
  have t1 : ¬ (N < -1024) := by omega
  have t2 : ¬ (1024 < N) := by omega
  have t3 : (N == 1) = false := by simp [n1]
  have t4 : (N == 2) = false := by simp [n2]
  have t5 : (N == -1) = false := by simp [n3]
  clear hX hm hR hom hk h1' h2' h0 n1 n2 n3 a1 a2 a3 a4 ta hs lp hk0 hk9 hT hQ hd1 hd2
  go_enter Tryz.func9, Tryz.ntmps9
  go_wp2_with fail
  refine h1.mono ?_; rintro e w' ⟨rfl, hw'⟩; obtain rfl := hw'.symm; clear hw' h1
  go_wp2_with fail
  refine g1.mono ?_; rintro e w' ⟨rfl, hw'⟩; obtain rfl := hw'.symm; clear hw' g1
  go_wp2_with fail
  refine ta1.mono ?_; rintro e w1 ⟨va, rfl, lva, k1⟩
  have hp1 := hp va w1 k1 lva
  clear ta1 hp lva
  go_wp2_with fail
  refine hp1.mono ?_; rintro e w2 ⟨rfl, k2⟩
  have k02 := k1.trans k2
  clear hp1 k1 k2
  go_wp2
  exact bodyPost_ret (v := .float .f64 R) (by simp [results, Tryz.results9, go_sem]) rfl ⟨rfl, k02⟩
theorem iv_zero9 (n : Bool) : Iv n 0 = 0 := by unfold Iv; cases n <;> rfl
theorem ordfin (n : Bool) (R : Nat) (h : R ≤ 9218868437227405312) : (FloatKind.f64.format.order (Fq.wD n R) (Fq.wD n R) != some .eq) = false := by
  rw [Fq.ordD n n R R h h, Fq.cmp_eq rfl]; rfl
theorem ordnn (r : Nat) (h1 : 9218868437227405312 < r % 9223372036854775808) (h2 : r < 18446744073709551616) : (FloatKind.f64.format.order r r != some .eq) = true := by
  have e : r = Fq.wD (decide (9223372036854775808 ≤ r)) (r % 9223372036854775808) := by
    unfold Fq.wD
    by_cases c : 9223372036854775808 ≤ r
    · rw [decide_eq_true c, if_pos rfl]; omega
    · rw [decide_eq_false c, if_neg (by simp)]; omega
  have h3 := Fq.ordD_nanl (decide (9223372036854775808 ≤ r)) (r % 9223372036854775808) r h1 (Nat.mod_lt _ (by decide))
  rw [← e] at h3
  rw [h3]; rfl
theorem ordup (d : Int) (ng : Bool) (B k : Nat) : (FloatKind.f64.format.order (upW d ng B k) (upW d ng B k) != some .eq) = false := ordselfD _ _ (fin_leD _ _)
theorem orddn (d : Int) (ng : Bool) (B k : Nat) : (FloatKind.f64.format.order (dnW d ng B k) (dnW d ng B k) != some .eq) = false := ordselfD _ _ (fin_leD _ _)
set_option maxHeartbeats 1000000 in
theorem pow_both (d : Int) (n : Bool) (m : Nat) (N : Int) (hm : m < 9223372036854775808) (hd1 : -9223372036854775808 ≤ d) (hd2 : d < 9223372036854775808) :
    ∃ Z : Nat, (∀ w : World, Tab w → Fq.Tab w → Calls Tryz.prog 9 #[.int .i64 d, .float .f64 (Fq.wD n m), .int .i64 N] w fun e w' => ∃ R, e = .returned (.float .f64 R) ∧ (∀ w1 : World, Calls Tryz.prog 5 #[.float .f64 R] w1 fun e w' => e = .returned (.int .u64 (Z : Int)) ∧ w' = w1) ∧ Kp w w') ∧ (∀ w : World, Calls Tryz.prog 10 #[.int .i64 d, .int .u64 ((Fq.wD n m : Nat) : Int), .int .i64 N] w fun e w' => e = .returned (.int .u64 (Z : Int)) ∧ Kp w w') := by
  by_cases hb : 9218868437227405312 < m ∨ N < -1024 ∨ 1024 < N
  · refine ⟨9221120237041090561, fun w hT hQ => ?_, fun w => rpowN_ d n m N hm hb w⟩
    exact (ppowN_ d n m N hm hb w).mono fun e w' h => ⟨_, h.1, fun w1 => bitsNaN_ _ (ordnn 9221120237041090561 (by decide) (by decide)) w1, h.2⟩
  · by_cases c0 : N = 0
    · subst c0
      refine ⟨4607182418800017408, fun w hT hQ => ?_, fun w => rpow0_ d n m hm (by omega) w⟩
      exact (ppow0_ d n m (by omega) w).mono fun e w' h => ⟨_, h.1, fun w1 => bitsN_ _ (ordfin false 4607182418800017408 (by decide)) w1, h.2⟩
    · obtain ⟨k, hk⟩ : ∃ k : Nat, N = (k : Int) ∨ N = -(k : Int) := ⟨N.natAbs, by omega⟩
      by_cases ci : m = 9218868437227405312
      · refine ⟨if N < 0 then 0 else Fq.wD (n && decide (k % 2 = 1)) 9218868437227405312, fun w hT hQ => ?_, fun w => rpowI_ d n m N k ci (by omega) (by omega) c0 hk w⟩
        refine (ppowI_ d n m N k ci (by omega) (by omega) c0 hk w).mono fun e w' h => ⟨_, h.1, fun w1 => bitsN_ _ ?_ w1, h.2⟩
        by_cases c : N < 0
        · rw [if_pos c]; exact ordfin false 0 (by decide)
        · rw [if_neg c]; exact ordfin _ _ (Nat.le_refl _)
      · have hmI : m < 9218868437227405312 := by omega
        obtain ⟨Z, hZ⟩ : ∃ Z, Z = (if m = 0 then (if N < 0 then 9218868437227405312 else 0) else if N < 0 then dnW d (n && decide (k % 2 = 1)) (Fq.vV Ieee.double m) k else upW d (n && decide (k % 2 = 1)) (Fq.vV Ieee.double m) k) := ⟨_, rfl⟩
        have hor : (FloatKind.f64.format.order Z Z != some .eq) = false := by
          rw [hZ]
          by_cases z : m = 0
          · rw [if_pos z]
            by_cases c : N < 0
            · rw [if_pos c]; exact ordfin false 9218868437227405312 (by decide)
            · rw [if_neg c]; exact ordfin false 0 (by decide)
          · rw [if_neg z]
            by_cases c : N < 0
            · rw [if_pos c]; exact orddn _ _ _ _
            · rw [if_neg c]; exact ordup _ _ _ _
        refine ⟨Z, fun w hT hQ => ?_, fun w => ?_⟩
        · suffices h : Calls Tryz.prog 9 #[.int .i64 d, .float .f64 (Fq.wD n m), .int .i64 N] w fun e w' => e = .returned (.float .f64 Z) ∧ Kp w w' from
            h.mono fun e w' h => ⟨_, h.1, fun w1 => bitsN_ _ hor w1, h.2⟩
          by_cases n1 : N = 1
          · have hk1 : k = 1 := by omega
            have h := ppow1_ d n m hmI w
            rw [n1]
            have e : Fq.wD (n && !(m == 0)) m = Z := by
              rw [hZ]
              by_cases z : m = 0
              · rw [if_pos z, if_neg (by omega), z]; simp; rfl
              · rw [if_neg z, if_neg (by omega), hk1, show (n && decide (1 % 2 = 1)) = n from by simp, up_one d n m hmI z, show (n && !(m == 0)) = n from by simp [z]]
            rw [e] at h
            exact h
          · by_cases n2 : N = 2
            · have hk2 : k = 2 := by omega
              rw [n2]
              refine ppow2_ d n m hmI Z w ?_
              by_cases z : m = 0
              · have e : Z = 0 := by rw [hZ, if_pos z, if_neg (by omega)]
                rw [e]
                have hp := Fq.plain_d (n ^^ n) 0 (by decide) w
                rw [show Fq.wD ((n ^^ n) && !((0 : Nat) == 0)) 0 = 0 from by simp; rfl] at hp
                exact pmulP_ d n n m m hm hm (fun h => h.2.2.1 z) w w (Fq.wD (n ^^ n) 0) 0 (run_float_arith w .mul 25 .f64 _ _ _ (mul_zero n n m m hmI hmI (Or.inl z))) (Kp.refl _) hp
              · have e : Z = mulW d (n ^^ n) (Fq.vV Ieee.double m * Fq.vV Ieee.double m) := by
                  rw [hZ, if_neg z, if_neg (by omega), hk2, show (n && decide (2 % 2 = 1)) = false from by simp, mul_up d n _ (fun h => z ((vV_zero m).1 h))]
                rw [e]
                by_cases ct : (2580562586483294208 ≤ m ∧ m ≤ 6633802251116740608) ∧ (2580562586483294208 ≤ m ∧ m ≤ 6633802251116740608)
                · exact pmulQ_ d n n m m ct.1 ct.2 w
                · exact pmulE_ d n n m m hmI hmI z z ct w hT hQ hd1 hd2
            · by_cases n3 : N = -1
              · have hk3 : k = 1 := by omega
                rw [n3]
                refine ppowM_ d n m hmI Z w ?_
                have e1 : ((4607182418800017408 : Nat)) = Fq.wD false 4607182418800017408 := rfl
                by_cases z : m = 0
                · have e : Z = Fq.wD false 9218868437227405312 := by rw [hZ, if_pos z, if_pos (by omega)]; rfl
                  have h := pdivN_ d false n 4607182418800017408 (by decide) w
                  rw [if_neg (by decide)] at h
                  rw [e, z]
                  exact h
                · have e : Z = divW d (false ^^ n) (Fq.vV Ieee.double 4607182418800017408) (Fq.vV Ieee.double m) := by
                    obtain ⟨K, hK⟩ : ∃ K : Nat, K = 1074 := ⟨_, rfl⟩
                    rw [hZ, if_neg z, if_pos (by omega), hk3, show (n && decide (1 % 2 = 1)) = n from by simp, div_dn d n _ _ K hK (vV_one K hK) (fun h => z ((vV_zero m).1 h))]
                  rw [e]
                  have e2 : (#[.int .i64 d, .float .f64 4607182418800017408, .float .f64 (Fq.wD n m)] : Array Value) = #[.int .i64 d, .float .f64 (Fq.wD false 4607182418800017408), .float .f64 (Fq.wD n m)] := rfl
                  rw [e2]
                  by_cases ct : (2580562586483294208 ≤ (4607182418800017408 : Nat) ∧ (4607182418800017408 : Nat) ≤ 6633802251116740608) ∧ (2580562586483294208 ≤ m ∧ m ≤ 6633802251116740608)
                  · exact pdivQ_ d false n 4607182418800017408 m ct.1 ct.2 w
                  · exact pdivE_ d false n 4607182418800017408 m (by decide) hmI (by decide) z ct w hQ hd1 hd2
              · rw [hZ]
                exact ppowG_ d n m N k hmI (by omega) (by omega) c0 hk n1 n2 n3 w hT hQ hd1 hd2
        · rw [hZ]
          by_cases z : m = 0
          · rw [if_pos z]
            exact rpowZ_ d n m N z (by omega) (by omega) c0 w
          · rw [if_neg z]
            by_cases c : N < 0
            · rw [if_pos c]
              exact rpowD_ d n m N k (by omega) hmI z (by omega) (by omega) w
            · rw [if_neg c]
              have eN : N = (k : Int) := by omega
              rw [eN]
              exact rpowU_ d n m k hmI z (by omega) (by omega) w
set_option maxRecDepth 20000 in
set_option maxHeartbeats 1000000 in
theorem powers_ (d : Int) (X : Nat) (N : Int) (w : World) (hT : Tab w) (hQ : Fq.Tab w) (hd1 : -9223372036854775808 ≤ d) (hd2 : d < 9223372036854775808) (hX : X < 18446744073709551616) :
    Calls Tryz.prog 4 #[.int .i64 d, .int .u64 (X : Int), .int .i64 N] w fun e w' => e = .returned (.bool true) ∧ Kp w w' := by
  obtain ⟨n, m, hm, eX⟩ := word_of X hX
  obtain ⟨Z1, p1, q1⟩ := pow_both d n m N (by omega) hd1 hd2
  rw [← eX] at p1 q1
  have f1 := fl_ X
  clear eX hm hX hd1 hd2
  go_enter Tryz.func4, Tryz.ntmps4
  go_wp2_with fail
  refine (f1 _).mono ?_; rintro e w' ⟨rfl, hw'⟩; obtain rfl := hw'.symm; clear hw'
  have hc := p1 _ hT hQ
  go_wp2_with fail
  refine hc.mono ?_; rintro e w1 ⟨R1, rfl, hb1, k1⟩; clear hc
  go_wp2_with fail
  refine (hb1 _).mono ?_; rintro e w' ⟨rfl, hw'⟩; obtain rfl := hw'.symm; clear hw' hb1
  have hc := q1 w1
  go_wp2_with fail
  refine hc.mono ?_; rintro e w2 ⟨rfl, k2⟩; clear hc
  have kk := k1.trans k2
  clear f1 p1 q1 k1 k2 hT hQ
  go_wp2
  exact bodyPost_ret (v := .bool true) (by simp [results, Tryz.results4, go_sem]) rfl ⟨rfl, kk⟩
end Go.Proofs.YthngdlifpbhagaaGreatDoor
