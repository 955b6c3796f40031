import Derived.Test.YthdnajcgdngmcaaGreatDoorKIH
namespace Go.Proofs.YthdnajcgdngmcaaGreatDoor
open Go.RowKit
set_option maxRecDepth 20000 in
set_option maxHeartbeats 1000000 in
theorem ppow0_ (d : Int) (n : Bool) (m : Nat) (hm : m ≤ 9218868437227405312) (w : World) :
    Calls Tryz.prog 77 #[.int .i64 d, .float .f64 (Fq.wD n m), .int .i64 0] w fun e w' => e = .returned (.float .f64 4607182418800017408) ∧ Kp w w' := by
  have h1 := isNaN_ n m (by omega) w
  rw [decide_eq_false (by omega)] at h1
  obtain ⟨X, hX⟩ : ∃ X, X = Fq.wD n m := ⟨_, rfl⟩
  rw [← hX] at h1 ⊢
  clear hX hm
  go_enter Tryz.func77, Tryz.ntmps77
  go_wp2_with fail
  refine h1.mono ?_; rintro e w' ⟨rfl, hw'⟩; obtain rfl := hw'.symm; clear hw' h1
  go_wp2
  exact bodyPost_ret (v := .float .f64 4607182418800017408) (by simp [results, Tryz.results77, go_sem]) rfl ⟨rfl, Kp.refl _⟩
set_option maxRecDepth 20000 in
set_option maxHeartbeats 1000000 in
theorem ppowI_ (d : Int) (n : Bool) (m : Nat) (N : Int) (k : Nat) (hm : m = 9218868437227405312) (h1' : -1024 ≤ N) (h2' : N ≤ 1024) (h0 : N ≠ 0) (hk : N = (k : Int) ∨ N = -(k : Int)) (w : World) :
    Calls Tryz.prog 77 #[.int .i64 d, .float .f64 (Fq.wD n m), .int .i64 N] w fun e w' => e = .returned (.float .f64 (if N < 0 then 0 else Fq.wD (n && decide (k % 2 = 1)) 9218868437227405312)) ∧ Kp w w' := by
  have h1 := isNaN_ n m (by omega) w
  rw [decide_eq_false (by omega)] at h1
  have g1 := finite_ n m (by omega) w
  rw [decide_eq_false (by omega)] at g1
  have h2 := powInf_ n N k hk w
  rw [← hm] at h2
  obtain ⟨R, hR⟩ : ∃ R, R = (if N < 0 then 0 else Fq.wD (n && decide (k % 2 = 1)) m) := ⟨_, rfl⟩
  rw [← hm, ← hR]
  rw [← hR] at h2
  obtain ⟨X, hX⟩ : ∃ X, X = Fq.wD n m := ⟨_, rfl⟩
  rw [← hX] at h1 g1 h2 ⊢
  have t0 : (N == 0) = false := by simp [h0]
  have t1 : ¬ (N < -1024) := by omega
  have t2 : ¬ (1024 < N) := by omega
  clear hX hm hR hk h1' h2' h0
  go_enter Tryz.func77, Tryz.ntmps77
  go_wp2_with fail
  refine h1.mono ?_; rintro e w' ⟨rfl, hw'⟩; obtain rfl := hw'.symm; clear hw' h1
  go_wp2_with fail
  refine g1.mono ?_; rintro e w' ⟨rfl, hw'⟩; obtain rfl := hw'.symm; clear hw' g1
  go_wp2_with fail
  refine h2.mono ?_; rintro e w' ⟨rfl, hw'⟩; obtain rfl := hw'.symm; clear hw' h2
  go_wp2
  exact bodyPost_ret (v := .float .f64 R) (by simp [results, Tryz.results77, go_sem]) rfl ⟨rfl, Kp.refl _⟩
set_option maxRecDepth 20000 in
set_option maxHeartbeats 1000000 in
theorem ppow1_ (d : Int) (n : Bool) (m : Nat) (hm : m < 9218868437227405312) (w : World) :
    Calls Tryz.prog 77 #[.int .i64 d, .float .f64 (Fq.wD n m), .int .i64 1] w fun e w' => e = .returned (.float .f64 (Fq.wD (n && !(m == 0)) m)) ∧ Kp w w' := by
  have h1 := isNaN_ n m (by omega) w
  rw [decide_eq_false (by omega)] at h1
  have g1 := finite_ n m (by omega) w
  rw [decide_eq_true hm] at g1
  have h2 := Fq.plain_d n m (by omega) w
  obtain ⟨R, hR⟩ : ∃ R, R = Fq.wD (n && !(m == 0)) m := ⟨_, rfl⟩
  rw [← hR] at h2 ⊢
  obtain ⟨X, hX⟩ : ∃ X, X = Fq.wD n m := ⟨_, rfl⟩
  rw [← hX] at h1 g1 h2 ⊢
  clear hX hm hR
  go_enter Tryz.func77, Tryz.ntmps77
  go_wp2_with fail
  refine h1.mono ?_; rintro e w' ⟨rfl, hw'⟩; obtain rfl := hw'.symm; clear hw' h1
  go_wp2_with fail
  refine g1.mono ?_; rintro e w' ⟨rfl, hw'⟩; obtain rfl := hw'.symm; clear hw' g1
  go_wp2_with fail
  refine h2.mono ?_; rintro e w' ⟨rfl, hw'⟩; obtain rfl := hw'.symm; clear hw' h2
  go_wp2
  exact bodyPost_ret (v := .float .f64 R) (by simp [results, Tryz.results77, go_sem]) rfl ⟨rfl, Kp.refl _⟩
set_option maxRecDepth 20000 in
set_option maxHeartbeats 1000000 in
theorem ppow2_ (d : Int) (n : Bool) (m : Nat) (hm : m < 9218868437227405312) (R : Nat) (w : World) (h2 : Calls Tryz.prog 65 #[.int .i64 d, .float .f64 (Fq.wD n m), .float .f64 (Fq.wD n m)] w fun e w' => e = .returned (.float .f64 R) ∧ Kp w w') :
    Calls Tryz.prog 77 #[.int .i64 d, .float .f64 (Fq.wD n m), .int .i64 2] w fun e w' => e = .returned (.float .f64 R) ∧ Kp w w' := by
  have h1 := isNaN_ n m (by omega) w
  rw [decide_eq_false (by omega)] at h1
  have g1 := finite_ n m (by omega) w
  rw [decide_eq_true hm] at g1
  obtain ⟨X, hX⟩ : ∃ X, X = Fq.wD n m := ⟨_, rfl⟩
  rw [← hX] at h1 g1 h2 ⊢
  clear hX hm
  go_enter Tryz.func77, Tryz.ntmps77
  go_wp2_with fail
  refine h1.mono ?_; rintro e w' ⟨rfl, hw'⟩; obtain rfl := hw'.symm; clear hw' h1
  go_wp2_with fail
  refine g1.mono ?_; rintro e w' ⟨rfl, hw'⟩; obtain rfl := hw'.symm; clear hw' g1
  go_wp2_with fail
  refine h2.mono ?_; rintro e w1 ⟨rfl, k1⟩; clear h2
  go_wp2
  exact bodyPost_ret (v := .float .f64 R) (by simp [results, Tryz.results77, go_sem]) rfl ⟨rfl, k1⟩
set_option maxRecDepth 20000 in
set_option maxHeartbeats 1000000 in
theorem ppowM_ (d : Int) (n : Bool) (m : Nat) (hm : m < 9218868437227405312) (R : Nat) (w : World) (h2 : Calls Tryz.prog 114 #[.int .i64 d, .float .f64 4607182418800017408, .float .f64 (Fq.wD n m)] w fun e w' => e = .returned (.float .f64 R) ∧ Kp w w') :
    Calls Tryz.prog 77 #[.int .i64 d, .float .f64 (Fq.wD n m), .int .i64 (-1)] w fun e w' => e = .returned (.float .f64 R) ∧ Kp w w' := by
  have h1 := isNaN_ n m (by omega) w
  rw [decide_eq_false (by omega)] at h1
  have g1 := finite_ n m (by omega) w
  rw [decide_eq_true hm] at g1
  obtain ⟨X, hX⟩ : ∃ X, X = Fq.wD n m := ⟨_, rfl⟩
  rw [← hX] at h1 g1 h2 ⊢
  clear hX hm
  go_enter Tryz.func77, Tryz.ntmps77
  go_wp2_with fail
  refine h1.mono ?_; rintro e w' ⟨rfl, hw'⟩; obtain rfl := hw'.symm; clear hw' h1
  go_wp2_with fail
  refine g1.mono ?_; rintro e w' ⟨rfl, hw'⟩; obtain rfl := hw'.symm; clear hw' g1
  go_wp2_with fail
  refine h2.mono ?_; rintro e w1 ⟨rfl, k1⟩; clear h2
  go_wp2
  exact bodyPost_ret (v := .float .f64 R) (by simp [results, Tryz.results77, go_sem]) rfl ⟨rfl, k1⟩
set_option maxRecDepth 20000 in
set_option maxHeartbeats 1000000 in
theorem ppowG_ (d : Int) (n : Bool) (m : Nat) (N : Int) (k : Nat) (hm : m < 9218868437227405312) (h1' : -1024 ≤ N) (h2' : N ≤ 1024) (h0 : N ≠ 0) (hk : N = (k : Int) ∨ N = -(k : Int)) (n1 : N ≠ 1) (n2 : N ≠ 2) (n3 : N ≠ -1) (w : World) (hT : Tab w) (hQ : Fq.Tab w) (hd1 : -9223372036854775808 ≤ d) (hd2 : d < 9223372036854775808) :
    Calls Tryz.prog 77 #[.int .i64 d, .float .f64 (Fq.wD n m), .int .i64 N] w fun e w' => e = .returned (.float .f64 (if m = 0 then (if N < 0 then 9218868437227405312 else 0) else if N < 0 then dnW d (n && decide (k % 2 = 1)) (Fq.vV Ieee.double m) k else upW d (n && decide (k % 2 = 1)) (Fq.vV Ieee.double m) k)) ∧ Kp w w' := by
  have h1 := isNaN_ n m (by omega) w
  rw [decide_eq_false (by omega)] at h1
  have g1 := finite_ n m (by omega) w
  rw [decide_eq_true hm] at g1
  obtain ⟨a, ea, a1, a2, a3, a4, ta⟩ := take_ n m hm
  have hk0 : 0 < k := by omega
  have hk9 : k ≤ 1024 := by omega
  have lp := pow_len a k a4 hk9
  obtain ⟨R, hR⟩ : ∃ R, R = (if m = 0 then (if N < 0 then 9218868437227405312 else 0) else if N < 0 then dnW d (n && decide (k % 2 = 1)) (Fq.vV Ieee.double m) k else upW d (n && decide (k % 2 = 1)) (Fq.vV Ieee.double m) k) := ⟨_, rfl⟩
  have hom : (if N < 0 then ratW d ((n && !(m == 0)) && decide (k % 2 = 1)) 1 (a ^ k) (ea * N) else ofW d ((n && !(m == 0)) && decide (k % 2 = 1)) (a ^ k) (ea * N)) = R := by
    rw [hR]
    by_cases z : m = 0
    · have za : a = 0 := by
        rw [(vV_zero m).2 z] at a1
        rcases Nat.mul_eq_zero.1 a1 with h | h
        · exact h
        · have := Nat.two_pow_pos (ea + 1074).toNat; omega
      have zk : a ^ k = 0 := by rw [za]; exact Nat.zero_pow hk0
      rw [if_pos z, zk, show (n && !(m == 0)) = false from by simp [z]]
      by_cases c : N < 0
      · rw [if_pos c, if_pos c]
        unfold ratW
        rw [if_neg (by rw [len32_one, show len32 0 = 0 from by unfold len32; rw [dig_zero]; rfl]; omega), if_pos rfl, if_neg (by decide)]
        rfl
      · rw [if_neg c, if_neg c, of_rat]
        unfold ratW
        rw [if_neg (by rw [len32_one, show len32 0 = 0 from by unfold len32; rw [dig_zero]; rfl]; omega), if_neg (by decide), if_pos rfl]
    · have za : a ≠ 0 := fun h => by rw [h, Nat.zero_mul] at a1; exact z ((vV_zero m).1 a1.symm)
      rw [if_neg z, show (n && !(m == 0)) = n from by simp [z], ← a1]
      by_cases c : N < 0
      · rw [if_pos c, if_pos c]
        exact dn_rat d _ a _ k ea N za (by omega) (by omega) lp
      · rw [if_neg c, if_neg c]
        have eN : N = (k : Int) := by omega
        rw [eN]
        exact up_rat d _ a _ k ea za (by omega) lp
  obtain ⟨s, hs⟩ : ∃ s, s = (n && !(m == 0)) := ⟨_, rfl⟩
  rw [← hs] at ta hom
  have hp : ∀ (va : Value) (w1 : World), Kp w w1 → Ls w1 va (dig a) → Calls Tryz.prog 115 #[.agg #[.bool s, va, .int .i64 ea], .int .i64 d, .int .i64 N] w1 fun e w' => e = .returned (.float .f64 R) ∧ Kp w1 w' := fun va w1 k1 l1 => by
    rw [← hom]; exact power_ d s a k ea N va w1 (hT.grown k1) (Fq.Tab.grown hQ k1) hd1 hd2 l1 a4 a2 a3 hk0 hk9 hk
  have ta1 := ta w hQ
  rw [← hR]
  obtain ⟨X, hX⟩ : ∃ X, X = Fq.wD n m := ⟨_, rfl⟩
  rw [← hX] at h1 g1 ta1 ⊢
  have t0 : (N == 0) = false := by simp [h0]
  have t1 : ¬ (N < -1024) := by omega
  have t2 : ¬ (1024 < N) := by omega
  have t3 : (N == 1) = false := by simp [n1]
  have t4 : (N == 2) = false := by simp [n2]
  have t5 : (N == -1) = false := by simp [n3]
  clear hX hm hR hom hk h1' h2' h0 n1 n2 n3 a1 a2 a3 a4 ta hs lp hk0 hk9 hT hQ hd1 hd2
  go_enter Tryz.func77, Tryz.ntmps77
  go_wp2_with fail
  refine h1.mono ?_; rintro e w' ⟨rfl, hw'⟩; obtain rfl := hw'.symm; clear hw' h1
  go_wp2_with fail
  refine g1.mono ?_; rintro e w' ⟨rfl, hw'⟩; obtain rfl := hw'.symm; clear hw' g1
  go_wp2_with fail
  refine ta1.mono ?_; rintro e w1 ⟨va, rfl, lva, k1⟩
  have hp1 := hp va w1 k1 lva
  clear ta1 hp lva
  go_wp2_with fail
  refine hp1.mono ?_; rintro e w2 ⟨rfl, k2⟩
  have k02 := k1.trans k2
  clear hp1 k1 k2
  go_wp2
  exact bodyPost_ret (v := .float .f64 R) (by simp [results, Tryz.results77, go_sem]) rfl ⟨rfl, k02⟩
def pU (K : Nat) (d : Int) (k : Nat) (z : Int) : Int := if z = 9218868437227405312 then 9218868437227405312 else if z = -9218868437227405312 then (if k % 2 = 1 then -9218868437227405312 else 9218868437227405312) else g53 d 1 (2 ^ (K * (k - 1))) (vZ z ^ k)
def pD (K : Nat) (d : Int) (k : Nat) (z : Int) : Int := if z = 9218868437227405312 ∨ z = -9218868437227405312 then 0 else if z = 0 then 9218868437227405312 else g53 d (2 ^ (K * (k + 1))) ((vZ z).natAbs ^ k) (if z < 0 ∧ k % 2 = 1 then -1 else 1)
def pnZ (K : Nat) (d N : Int) (z : Int) : Int := if N = 0 then 4607182418800017408 else if 0 < N then pU K d N.natAbs z else pD K d N.natAbs z
theorem iv_pow (n : Bool) (m k : Nat) : Iv n m ^ k = if (n && decide (k % 2 = 1)) then -((Fq.vV Ieee.double m ^ k : Nat) : Int) else ((Fq.vV Ieee.double m ^ k : Nat) : Int) := by
  have e : ∀ (a : Int) (k : Nat), (-a) ^ k = if k % 2 = 1 then -(a ^ k) else a ^ k := by
    intro a k
    induction k with
    | zero => simp
    | succ j ih =>
      rw [Int.pow_succ, Int.pow_succ, ih]
      by_cases c : j % 2 = 1
      · rw [if_pos c, if_neg (by omega)]; simp [Int.mul_neg, Int.neg_mul]
      · rw [if_neg c, if_pos (by omega)]; simp [Int.mul_neg]
  unfold Iv
  cases n
  · simp [Int.natCast_pow]
  · rw [if_pos rfl, e]
    by_cases c : k % 2 = 1
    · rw [if_pos c, show (true && decide (k % 2 = 1)) = true from by simp [c], if_pos rfl, Int.natCast_pow]
    · rw [if_neg c, show (true && decide (k % 2 = 1)) = false from by simp [c], if_neg (by decide), Int.natCast_pow]
theorem upW_g (K : Nat) (hK : K = 1074) (d : Int) (s : Bool) (A k : Nat) (hk : 0 < k) (hA : A ≠ 0) (V : Int) (hV : V = if s then -((A ^ k : Nat) : Int) else ((A ^ k : Nat) : Int)) : upW d s A k = pz (g53 d 1 (2 ^ (K * (k - 1))) V) := by
  have hp : 0 < A ^ k := Nat.pow_pos (Nat.pos_of_ne_zero hA)
  unfold upW g53 gpl
  have et : (1074 - 1074 * (k : Int)) = -((K * (k - 1) : Nat) : Int) := by
    obtain ⟨j, rfl⟩ : ∃ j, k = j + 1 := ⟨k - 1, by omega⟩
    rw [Nat.add_sub_cancel, hK]; omega
  rw [et, rV_neg, mdW_pz]
  generalize A ^ k = P at *
  cases s
  · have h2 : V = (P : Int) := hV
    rw [if_neg (show ¬ V = 0 by omega), if_neg (show ¬ V < 0 by omega), h2, show ((P : Int)).natAbs = P from by omega]; rfl
  · have h2 : V = -(P : Int) := hV
    rw [if_neg (show ¬ V = 0 by omega), if_pos (show V < 0 by omega), h2, show (-(P : Int)).natAbs = P from by omega]; rfl
theorem dnW_g (K : Nat) (hK : K = 1074) (d : Int) (s : Bool) (A k : Nat) : dnW d s A k = pz (g53 d (2 ^ (K * (k + 1))) (A ^ k) (if s then -1 else 1)) := by
  unfold dnW g53 gpl
  have et : (1074 + 1074 * (k : Int)) = ((K * (k + 1) : Nat) : Int) := by
    rw [Nat.mul_add, hK]; omega
  rw [et, rV_pos, mdW_pz]
  cases s
  · rw [if_neg (by decide), if_neg (by decide), if_neg (by decide)]; rfl
  · rw [if_pos rfl, if_neg (by decide), if_pos (by decide)]; rfl
set_option linter.unusedVariables false

theorem powW_ (d : Int) (n : Bool) (m : Nat) (N : Int) (k : Nat) (hmI : m < 9218868437227405312) (h1 : -1024 ≤ N) (h2 : N ≤ 1024) (c0 : N ≠ 0) (hk : N = (k : Int) ∨ N = -(k : Int)) (hd1 : -9223372036854775808 ≤ d) (hd2 : d < 9223372036854775808) (w : World) (hT : Tab w) (hQ : Fq.Tab w) : Calls Tryz.prog 77 #[.int .i64 d, .float .f64 (Fq.wD n m), .int .i64 N] w fun e w' => e = .returned (.float .f64 (if m = 0 then (if N < 0 then 9218868437227405312 else 0) else if N < 0 then dnW d (n && decide (k % 2 = 1)) (Fq.vV Ieee.double m) k else upW d (n && decide (k % 2 = 1)) (Fq.vV Ieee.double m) k)) ∧ Kp w w' := by
  have hm : m < 9223372036854775808 := by omega
  obtain ⟨Z, hZ⟩ : ∃ Z, Z = (if m = 0 then (if N < 0 then 9218868437227405312 else 0) else if N < 0 then dnW d (n && decide (k % 2 = 1)) (Fq.vV Ieee.double m) k else upW d (n && decide (k % 2 = 1)) (Fq.vV Ieee.double m) k) := ⟨_, rfl⟩
  rw [← hZ]
  by_cases n1 : N = 1
  · have hk1 : k = 1 := by omega
    have h := ppow1_ d n m hmI w
    rw [n1]
    have e : Fq.wD (n && !(m == 0)) m = Z := by
      rw [hZ]
      by_cases z : m = 0
      · rw [if_pos z, if_neg (by omega), z]; simp; rfl
      · rw [if_neg z, if_neg (by omega), hk1, show (n && decide (1 % 2 = 1)) = n from by simp, up_one d n m hmI z, show (n && !(m == 0)) = n from by simp [z]]
    rw [e] at h
    exact h
  · by_cases n2 : N = 2
    · have hk2 : k = 2 := by omega
      rw [n2]
      refine ppow2_ d n m hmI Z w ?_
      by_cases z : m = 0
      · have e : Z = 0 := by rw [hZ, if_pos z, if_neg (by omega)]
        rw [e]
        have hp := Fq.plain_d (n ^^ n) 0 (by decide) w
        rw [show Fq.wD ((n ^^ n) && !((0 : Nat) == 0)) 0 = 0 from by simp; rfl] at hp
        exact pmulP_ d n n m m hm hm (fun h => h.2.2.1 z) w w (Fq.wD (n ^^ n) 0) 0 (run_float_arith w .mul 22 .f64 _ _ _ (mul_zero n n m m hmI hmI (Or.inl z))) (Kp.refl _) hp
      · have e : Z = mulW d (n ^^ n) (Fq.vV Ieee.double m * Fq.vV Ieee.double m) := by
          rw [hZ, if_neg z, if_neg (by omega), hk2, show (n && decide (2 % 2 = 1)) = false from by simp, mul_up d n _ (fun h => z ((vV_zero m).1 h))]
        rw [e]
        by_cases ct : (2580562586483294208 ≤ m ∧ m ≤ 6633802251116740608) ∧ (2580562586483294208 ≤ m ∧ m ≤ 6633802251116740608)
        · exact pmulQ_ d n n m m ct.1 ct.2 w
        · exact pmulE_ d n n m m hmI hmI z z ct w hT hQ hd1 hd2
    · by_cases n3 : N = -1
      · have hk3 : k = 1 := by omega
        rw [n3]
        refine ppowM_ d n m hmI Z w ?_
        by_cases z : m = 0
        · have e : Z = Fq.wD false 9218868437227405312 := by rw [hZ, if_pos z, if_pos (by omega)]; rfl
          have h := pdivN_ d false n 4607182418800017408 (by decide) w
          rw [if_neg (by decide)] at h
          rw [e, z]
          exact h
        · have e : Z = divW d (false ^^ n) (Fq.vV Ieee.double 4607182418800017408) (Fq.vV Ieee.double m) := by
            obtain ⟨K, hK⟩ : ∃ K : Nat, K = 1074 := ⟨_, rfl⟩
            rw [hZ, if_neg z, if_pos (by omega), hk3, show (n && decide (1 % 2 = 1)) = n from by simp, div_dn d n _ _ K hK (vV_one K hK) (fun h => z ((vV_zero m).1 h))]
          rw [e]
          have e2 : (#[.int .i64 d, .float .f64 4607182418800017408, .float .f64 (Fq.wD n m)] : Array Value) = #[.int .i64 d, .float .f64 (Fq.wD false 4607182418800017408), .float .f64 (Fq.wD n m)] := rfl
          rw [e2]
          by_cases ct : (2580562586483294208 ≤ (4607182418800017408 : Nat) ∧ (4607182418800017408 : Nat) ≤ 6633802251116740608) ∧ (2580562586483294208 ≤ m ∧ m ≤ 6633802251116740608)
          · exact pdivQ_ d false n 4607182418800017408 m ct.1 ct.2 w
          · exact pdivE_ d false n 4607182418800017408 m (by decide) hmI (by decide) z ct w hQ hd1 hd2
      · rw [hZ]
        exact ppowG_ d n m N k hmI (by omega) (by omega) c0 hk n1 n2 n3 w hT hQ hd1 hd2
theorem pz_pw (z : Int) : pz z = pw z := rfl
theorem vZ_iv (z : Int) : vZ z = Iv (decide (z < 0)) z.natAbs := rfl
theorem vZ_abs (z : Int) : (vZ z).natAbs = Fq.vV Ieee.double z.natAbs := by
  rw [vZ_iv]; unfold Iv
  by_cases c : z < 0 <;> simp [c]
theorem powZ_ (K : Nat) (hK : K = 1074) (d : Int) (z N : Int) (hz : BdZ z) (h1 : -1024 ≤ N) (h2 : N ≤ 1024) (hd1 : -9223372036854775808 ≤ d) (hd2 : d < 9223372036854775808) (w : World) (hT : Tab w) (hQ : Fq.Tab w) : Calls Tryz.prog 77 #[.int .i64 d, .float .f64 (pw z), .int .i64 N] w fun e w' => e = .returned (.float .f64 (pw (pnZ K d N z))) ∧ Kp w w' := by
  unfold pnZ
  by_cases c0 : N = 0
  · rw [if_pos c0, c0]
    have h := ppow0_ d (decide (z < 0)) z.natAbs (abs_pw z hz) w
    rw [show pw 4607182418800017408 = 4607182418800017408 from by decide]
    exact h
  rw [if_neg c0]
  obtain ⟨k, hk⟩ : ∃ k : Nat, k = N.natAbs := ⟨_, rfl⟩
  rw [← hk]
  have hkN : N = (k : Int) ∨ N = -(k : Int) := by omega
  by_cases ci : z = 9218868437227405312 ∨ z = -9218868437227405312
  · have h := ppowI_ d (decide (z < 0)) z.natAbs N k (by omega) h1 h2 c0 hkN w
    have e : (if N < 0 then 0 else Fq.wD (decide (z < 0) && decide (k % 2 = 1)) 9218868437227405312) = pw (if 0 < N then pU K d k z else pD K d k z) := by
      by_cases c : N < 0
      · rw [if_pos c, if_neg (by omega)]
        unfold pD; rw [if_pos ci]; decide
      · rw [if_neg c, if_pos (by omega)]
        unfold pU
        by_cases a : z = 9218868437227405312
        · rw [if_pos a, a, pw_I]; rfl
        · rw [if_neg a, if_pos (by omega), decide_eq_true (show z < 0 by omega)]
          by_cases b : k % 2 = 1
          · rw [if_pos b, pw_MI, decide_eq_true b]; rfl
          · rw [if_neg b, pw_I, decide_eq_false b]; rfl
    rw [e] at h
    exact h
  · have hmI : z.natAbs < 9218868437227405312 := by unfold BdZ at hz; omega
    have h := powW_ d (decide (z < 0)) z.natAbs N k hmI h1 h2 c0 hkN hd1 hd2 w hT hQ
    have e : (if z.natAbs = 0 then (if N < 0 then 9218868437227405312 else 0) else if N < 0 then dnW d (decide (z < 0) && decide (k % 2 = 1)) (Fq.vV Ieee.double z.natAbs) k else upW d (decide (z < 0) && decide (k % 2 = 1)) (Fq.vV Ieee.double z.natAbs) k) = pw (if 0 < N then pU K d k z else pD K d k z) := by
      by_cases z0 : z = 0
      · rw [if_pos (by omega)]
        by_cases c : N < 0
        · rw [if_pos c, if_neg (by omega)]
          unfold pD; rw [if_neg (by omega), if_pos z0, pw_I]
        · rw [if_neg c, if_pos (by omega)]
          unfold pU; rw [if_neg (by omega), if_neg (by omega), z0, vZ_0, Int.zero_pow (show k ≠ 0 by omega)]
          unfold g53 gpl; rw [if_pos rfl]; decide
      · rw [if_neg (by omega)]
        by_cases c : N < 0
        · rw [if_pos c, if_neg (by omega), dnW_g K hK]
          unfold pD
          rw [if_neg ci, if_neg z0, vZ_abs, pz_pw]
          by_cases s : z < 0 ∧ k % 2 = 1
          · rw [if_pos s, show (decide (z < 0) && decide (k % 2 = 1)) = true from by simp [s.1, s.2]]; rfl
          · rw [if_neg s, show (decide (z < 0) && decide (k % 2 = 1)) = false from by simp; omega]; rfl
        · rw [if_neg c, if_pos (by omega), upW_g K hK d _ _ k (by omega) (fun h => z0 (by have := (vV_zero z.natAbs).1 h; omega)) (vZ z ^ k) (by rw [vZ_iv]; exact iv_pow _ _ k)]
          unfold pU
          rw [if_neg (by omega), if_neg (by omega), pz_pw]
    rw [e] at h
    exact h
end Go.Proofs.YthdnajcgdngmcaaGreatDoor
