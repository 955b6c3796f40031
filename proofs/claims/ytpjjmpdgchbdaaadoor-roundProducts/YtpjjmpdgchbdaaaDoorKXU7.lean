import Derived.Test.YtpjjmpdgchbdaaaDoorProg
import Derived.Test.YtpjjmpdgchbdaaaDoorKXA0
import Derived.Test.YtpjjmpdgchbdaaaDoorKXM
import Derived.Test.YtpjjmpdgchbdaaaDoorKXY
import Derived.Test.YtpjjmpdgchbdaaaDoorKXQF
import Derived.Test.YtpjjmpdgchbdaaaDoorKQA
import Derived.Test.YtpjjmpdgchbdaaaDoorKQP
import Derived.Test.YtpjjmpdgchbdaaaDoorKXQU
import Derived.Test.YtpjjmpdgchbdaaaDoorKQB
import Derived.Test.YtpjjmpdgchbdaaaDoorKQBT
import Derived.Test.YtpjjmpdgchbdaaaDoorKQJd
import Derived.Test.YtpjjmpdgchbdaaaDoorKHB
import Derived.Test.YtpjjmpdgchbdaaaDoorKLX
import Derived.Test.YtpjjmpdgchbdaaaDoorKMR7Q
import Derived.Test.YtpjjmpdgchbdaaaDoorKXG1
import Derived.Test.YtpjjmpdgchbdaaaDoorKXH2Q
import Derived.Test.YtpjjmpdgchbdaaaDoorKXMR
import Derived.Test.YtpjjmpdgchbdaaaDoorKNSm
import Derived.Test.YtpjjmpdgchbdaaaDoorKXT
import Derived.Test.YtpjjmpdgchbdaaaDoorKRX
import Derived.Test.YtpjjmpdgchbdaaaDoorKXRL
import Derived.Test.YtpjjmpdgchbdaaaDoorKXCO
import Derived.Test.YtpjjmpdgchbdaaaDoorKLN
import Derived.Test.YtpjjmpdgchbdaaaDoorKXRN
import Derived.Test.YtpjjmpdgchbdaaaDoorKW4
import Derived.Test.YtpjjmpdgchbdaaaDoorKBY
import Derived.Test.YtpjjmpdgchbdaaaDoorKBW
import Derived.Test.YtpjjmpdgchbdaaaDoorKXTZ
import Derived.Test.YtpjjmpdgchbdaaaDoorKMR17
import Derived.Test.YtpjjmpdgchbdaaaDoorKXMQ
import Derived.Test.YtpjjmpdgchbdaaaDoorKMR23
import Derived.Test.YtpjjmpdgchbdaaaDoorKO6
import Derived.Test.YtpjjmpdgchbdaaaDoorKXO3
import Derived.Test.YtpjjmpdgchbdaaaDoorKXO
import Derived.Test.YtpjjmpdgchbdaaaDoorKXG4
import Derived.Test.YtpjjmpdgchbdaaaDoorKU6
import Derived.Test.YtpjjmpdgchbdaaaDoorKMR18
import Derived.Test.YtpjjmpdgchbdaaaDoorKXS2
import Derived.Test.YtpjjmpdgchbdaaaDoorKXU3
import Derived.Test.YtpjjmpdgchbdaaaDoorKXU1
import Derived.Test.YtpjjmpdgchbdaaaDoorKU5
import Derived.WalkKit
import Derived.ProofKit
import Derived.RowKit3
import Derived.WalkSpells
import Derived.StillTactics
import Derived.Deep.QuietTactic
import Derived.BigQuiet
import Derived.Below
import Derived.Deep.OwnRows
import Derived.OwnWalk
import Derived.Laws.BitsAllLaws
import Derived.Laws.Slices
import Derived.Laws.Bits64b
import Derived.Laws.FloatArith
namespace Go.Proofs.YtpjjmpdgchbdaaaDoor
open Go.RowKit
set_option maxRecDepth 20000 in
set_option maxHeartbeats 400000 in
theorem fromV_ (n : Bool) (m : Nat) (hm : m < 9218868437227405312) (K : Nat) (hK : K = 1074) (w : World) : Calls Tryd.prog 25 #[.int .u64 ((Fq.wD n m : Nat) : Int)] w fun e w' => ∃ (p q : Option Addr) (c d a b : Nat) (s : Bool), e = .returned (.agg #[.bool s, .slice p (dig a).length c, .slice q (dig b).length d]) ∧ Arr w' p (dig a) ∧ (dig a).length ≤ c ∧ Arr w' q (dig b) ∧ (dig b).length ≤ d ∧ (b ≠ 0 ∧ a * 2 ^ K = Fq.vV Ieee.double m * b ∧ Iv n m = (if s then -((Fq.vV Ieee.double m : Nat) : Int) else ((Fq.vV Ieee.double m : Nat) : Int)) ∧ blen a ≤ 1500 ∧ blen b ≤ 1500) ∧ Kp w w' := by
  have h := fromBits_ n m hm w
  refine Calls.mono (show Calls Tryd.prog 25 #[.int .u64 ((Fq.wD n m : Nat) : Int)] w _ from h) ?_
  rintro e w' ⟨vn, vd, a, b, s, rfl, o1, o2, ⟨hF, hs⟩, k⟩
  obtain ⟨p, c, rfl, a1, l1⟩ := o1.arr
  obtain ⟨q, d, rfl, a2, l2⟩ := o2.arr
  obtain ⟨v1, v2, v3, v4, v5⟩ := Fq.vlsgD m hm
  have hF' : FracOf (Fq.sgD m) 1 (Fq.epD m) a b := hF
  have hs' : Fq.sgD m ≠ 0 → s = n := hs
  have hval : Fq.vV Ieee.double m = Fq.sgD m * 2 ^ (Fq.epD m + 1074).toNat := v1.symm
  refine ⟨p, q, c, d, a, b, s, rfl, a1, l1, a2, l2, ⟨hF'.1, ?_, ?_, ?_, ?_⟩, k⟩
  · by_cases c0 : Fq.sgD m = 0
    · rw [hval, c0, hF'.2.1.2 c0]; simp
    · rw [hval]
      exact frac_exact (Fq.sgD m) (Fq.epD m) a b K (Fq.epD m + 1074).toNat hF' c0 (by omega)
  · unfold Iv
    by_cases c0 : Fq.sgD m = 0
    · have : Fq.vV Ieee.double m = 0 := by rw [hval, c0]; simp
      rw [this]; cases n <;> cases s <;> simp
    · rw [hs' c0]
  · have h1 := hF'.2.2.2.1
    have h2 : blen (Fq.sgD m) ≤ 53 := by rw [blen_le_iff, show (2 : Nat) ^ 53 = 9007199254740992 from by decide]; exact v2
    omega
  · have h1 := hF'.2.2.2.2
    have h2 : blen 1 = 1 := blen_uniq 1 0 (by decide) (by decide)
    omega
set_option maxRecDepth 20000 in
set_option maxHeartbeats 400000 in
theorem zero3_ (n : Bool) (m : Nat) (hm : m < 9223372036854775808) (w : World) : Calls Tryd.prog 20 #[.int .u64 ((Fq.wD n m : Nat) : Int)] w fun e w' => e = .returned (.bool (decide (m = 0))) ∧ w' = w := by
  obtain ⟨X, hX⟩ : ∃ X, X = Fq.wD n m := ⟨_, rfl⟩
  have f1 := (noTop n m X hm hX).1
  rw [← hX]
  clear hX hm
  by_cases c : m = 0
  · have t1 : ((m : Int) == 0) = true := by rw [c]; rfl
    rw [decide_eq_true c]
    clear c
    go_enter Tryd.func20, Tryd.ntmps20
    go_wp2
    exact bodyPost_ret (v := .bool true) (by simp [results, Tryd.results20, go_sem]) rfl ⟨rfl, rfl⟩
  · have t1 : ((m : Int) == 0) = false := by simp; omega
    rw [decide_eq_false c]
    clear c
    go_enter Tryd.func20, Tryd.ntmps20
    go_wp2
    exact bodyPost_ret (v := .bool false) (by simp [results, Tryd.results20, go_sem]) rfl ⟨rfl, rfl⟩
theorem neg3_ (n : Bool) (m : Nat) (hm : m < 9223372036854775808) (z : m ≠ 0) (w : World) : Calls Tryd.prog 22 #[.int .u64 ((Fq.wD n m : Nat) : Int)] w fun e w' => e = .returned (.bool n) ∧ w' = w := by
  obtain ⟨X, hX⟩ : ∃ X, X = Fq.wD n m := ⟨_, rfl⟩
  have t1 : (9223372036854775808 < (X : Int)) ↔ n = true := by
    rw [hX]; unfold Fq.wD
    cases n <;> simp <;> omega
  rw [← hX]
  clear hX hm z
  cases n
  · have t2 : ¬ (9223372036854775808 < (X : Int)) := fun h => by simp at t1; omega
    clear t1
    go_enter Tryd.func22, Tryd.ntmps22
    go_wp2
    exact bodyPost_ret (v := .bool false) (by simp [results, Tryd.results22, go_sem] <;> omega) rfl ⟨rfl, rfl⟩
  · have t2 : 9223372036854775808 < (X : Int) := t1.2 rfl
    clear t1
    go_enter Tryd.func22, Tryd.ntmps22
    go_wp2
    exact bodyPost_ret (v := .bool true) (by simp [results, Tryd.results22, go_sem] <;> omega) rfl ⟨rfl, rfl⟩
theorem infin3_ (b : Bool) (w : World) : Calls Tryd.prog 21 #[.bool b] w fun e w' => e = .returned (.int .u64 ((Fq.wD b 9218868437227405312 : Nat) : Int)) ∧ w' = w := by
  cases b
  · rw [show ((Fq.wD false 9218868437227405312 : Nat) : Int) = 9218868437227405312 from rfl]
    go_enter Tryd.func21, Tryd.ntmps21
    go_wp2
    exact bodyPost_ret (v := .int .u64 9218868437227405312) (by simp [results, Tryd.results21, go_sem]) rfl ⟨rfl, rfl⟩
  · rw [show ((Fq.wD true 9218868437227405312 : Nat) : Int) = 18442240474082181120 from rfl]
    go_enter Tryd.func21, Tryd.ntmps21
    go_wp2
    exact bodyPost_ret (v := .int .u64 18442240474082181120) (by simp [results, Tryd.results21, go_sem]) rfl ⟨rfl, rfl⟩
theorem sgn_iv (n sa : Bool) (m : Nat) (h : Iv n m = (if sa then -((Fq.vV Ieee.double m : Nat) : Int) else ((Fq.vV Ieee.double m : Nat) : Int))) (hv : Fq.vV Ieee.double m ≠ 0) : sa = n := by
  unfold Iv at h
  cases n <;> cases sa <;> simp at h ⊢ <;> omega
theorem blen_mul9 (u v : Nat) (h1 : blen u ≤ 1500) (h2 : blen v ≤ 1500) : blen (u * v) ≤ 3000 := by
  obtain ⟨T5, hT5⟩ : ∃ T5 : Nat, T5 = 1500 := ⟨_, rfl⟩
  have g : blen (u * v) ≤ T5 + T5 := by
    rw [blen_le_iff, Nat.pow_add]
    exact Nat.mul_lt_mul'' ((blen_le_iff u T5).1 (by omega)) ((blen_le_iff v T5).1 (by omega))
  omega
set_option maxRecDepth 20000 in
set_option maxHeartbeats 400000 in
theorem rmulV_ (d : Int) (n n' : Bool) (m m' : Nat) (K : Nat) (hK : K = 1074) (sa sb : Bool) (a1 a2 b1 b2 : Nat) (P1 P2 Q1 Q2 : Option Addr) (C1 C2 D1 D2 : Nat) (w : World) (h1 : Arr w P1 (dig a1)) (l1 : (dig a1).length ≤ C1) (h2 : Arr w P2 (dig a2)) (l2 : (dig a2).length ≤ C2) (h3 : Arr w Q1 (dig b1)) (l3 : (dig b1).length ≤ D1) (h4 : Arr w Q2 (dig b2)) (l4 : (dig b2).length ≤ D2) (ha : (a2 ≠ 0 ∧ a1 * 2 ^ K = Fq.vV Ieee.double m * a2 ∧ Iv n m = (if sa then -((Fq.vV Ieee.double m : Nat) : Int) else ((Fq.vV Ieee.double m : Nat) : Int)) ∧ blen a1 ≤ 1500 ∧ blen a2 ≤ 1500)) (hb : (b2 ≠ 0 ∧ b1 * 2 ^ K = Fq.vV Ieee.double m' * b2 ∧ Iv n' m' = (if sb then -((Fq.vV Ieee.double m' : Nat) : Int) else ((Fq.vV Ieee.double m' : Nat) : Int)) ∧ blen b1 ≤ 1500 ∧ blen b2 ≤ 1500)) :
    Calls Tryd.prog 24 #[.agg #[.bool sa, .slice P1 (dig a1).length C1, .slice P2 (dig a2).length C2], .agg #[.bool sb, .slice Q1 (dig b1).length D1, .slice Q2 (dig b2).length D2]] w fun e w' => ∃ (vn vd : Value) (a' b' : Nat) (ng : Bool), e = .returned (.agg #[.bool ng, vn, vd]) ∧ Ls w' vn (dig a') ∧ Ls w' vd (dig b') ∧ (refW 53 1074 2098 9218868437227405311 0 d ng a' b' = mulW d (n ^^ n') (Fq.vV Ieee.double m * Fq.vV Ieee.double m') ∧ b' ≠ 0 ∧ blen a' ≤ 4194304 ∧ blen b' ≤ 4194304) ∧ Kp w w' := by
  obtain ⟨za, ea, ia, ba1, ba2⟩ := ha
  obtain ⟨zb, eb, ib, bb1, bb2⟩ := hb
  obtain ⟨X, hX⟩ : ∃ X, X = a1 * b1 := ⟨_, rfl⟩
  obtain ⟨D, hD⟩ : ∃ D, D = a2 * b2 := ⟨_, rfl⟩
  have hzD : D ≠ 0 := by rw [hD]; exact Nat.mul_ne_zero za zb
  have bX : blen X ≤ 3000 := by rw [hX]; exact blen_mul9 _ _ ba1 bb1
  have bD : blen D ≤ 3000 := by rw [hD]; exact blen_mul9 _ _ ba2 bb2
  have eX : X * 2 ^ (K + K) = Fq.vV Ieee.double m * Fq.vV Ieee.double m' * D := by
    have h : X * 2 ^ (K + K) = a1 * 2 ^ K * (b1 * 2 ^ K) := by rw [hX, Nat.pow_add]; simp only [Nat.mul_assoc, Nat.mul_left_comm]
    rw [h, ea, eb, hD]; simp only [Nat.mul_assoc, Nat.mul_left_comm]
  have hsg : X ≠ 0 → (sa ^^ sb) = (n ^^ n') := fun hx => by
    have q1 : Fq.vV Ieee.double m ≠ 0 := fun h0 => by
      rw [h0, Nat.zero_mul] at ea
      rcases Nat.mul_eq_zero.1 ea with h | h
      · exact hx (by rw [hX, h, Nat.zero_mul])
      · have := Nat.two_pow_pos K; omega
    have q2 : Fq.vV Ieee.double m' ≠ 0 := fun h0 => by
      rw [h0, Nat.zero_mul] at eb
      rcases Nat.mul_eq_zero.1 eb with h | h
      · exact hx (by rw [hX, h, Nat.mul_zero])
      · have := Nat.two_pow_pos K; omega
    rw [sgn_iv n sa m ia q1, sgn_iv n' sb m' ib q2]
  refine (rmul9_ sa sb a1 a2 b1 b2 P1 P2 Q1 Q2 C1 C2 D1 D2 w h1 l1 h2 l2 h3 l3 h4 l4 (dlen a1 4000 (by omega)) (dlen a2 4000 (by omega)) (dlen b1 4000 (by omega)) (dlen b2 4000 (by omega)) za zb X D hX hD (dlen X 16000 (by omega)) (dlen D 16000 (by omega))).mono ?_
  rintro e w' ⟨vn, vd, a', b', ng, he, q1, q2, ⟨q3, q5⟩, q4⟩
  refine ⟨vn, vd, a', b', ng, he, q1, q2, ⟨ref_mul d ng (n ^^ n') X D a' b' _ K hK hzD q3 (fun hx => (q5 hx).trans (hsg hx)) eX, q3.1, ?_, ?_⟩, q4⟩
  · have g1 := q3.2.2.2.1; simp at g1; omega
  · have g1 := q3.2.2.2.2; simp at g1; omega
set_option maxRecDepth 20000 in
set_option maxHeartbeats 1000000 in
theorem rprodF_ (d : Int) (n n' : Bool) (m m' : Nat) (hm : m < 9218868437227405312) (hm' : m' < 9218868437227405312) (w : World) :
    Calls Tryd.prog 7 #[.int .i64 d, .int .u64 ((Fq.wD n m : Nat) : Int), .int .u64 ((Fq.wD n' m' : Nat) : Int)] w fun e w' => e = .returned (.int .u64 ((mulW d (n ^^ n') (Fq.vV Ieee.double m * Fq.vV Ieee.double m') : Nat) : Int)) ∧ Kp w w' := by
  have i1 := fun w => isnan_ n m (by omega) w
  have i2 := fun w => isnan_ n' m' (by omega) w
  have j1 := fun w => isinf_ n m (by omega) w
  have j2 := fun w => isinf_ n' m' (by omega) w
  rw [decide_eq_false (by omega)] at i1 i2 j1 j2
  obtain ⟨K, hK⟩ : ∃ K : Nat, K = 1074 := ⟨_, rfl⟩
  have b1 := fromV_ n m hm K hK w
  have b2 := fun w1 => fromV_ n' m' hm' K hK w1
  have ra := fun sa sb a1 a2 b1 b2 P1 P2 Q1 Q2 C1 C2 D1 D2 w => rmulV_ d n n' m m' K hK sa sb a1 a2 b1 b2 P1 P2 Q1 Q2 C1 C2 D1 D2 w
  obtain ⟨Z, hZ⟩ : ∃ Z, Z = mulW d (n ^^ n') (Fq.vV Ieee.double m * Fq.vV Ieee.double m') := ⟨_, rfl⟩
  obtain ⟨X, hX⟩ : ∃ X, X = Fq.wD n m := ⟨_, rfl⟩
  obtain ⟨Y, hY⟩ : ∃ Y, Y = Fq.wD n' m' := ⟨_, rfl⟩
  rw [← hX] at i1 j1 b1
  rw [← hY] at i2 j2 b2
  rw [← hZ] at ra
  rw [← hX, ← hY, ← hZ]
  have HR : Hid (∀ sa sb a1 a2 b1 b2 P1 P2 Q1 Q2 C1 C2 D1 D2 w, _) := ra
  clear ra hX hY hZ hK hm hm'
  go_enter Tryd.func7, Tryd.ntmps7
  go_wp2_with fail
  refine (i1 w).mono ?_; rintro e w' ⟨rfl, hw'⟩; obtain rfl := hw'.symm; clear hw'
  go_wp2_with fail
  refine (i2 w).mono ?_; rintro e w' ⟨rfl, hw'⟩; obtain rfl := hw'.symm; clear hw'
  go_wp2_with fail
  refine (j1 w).mono ?_; rintro e w' ⟨rfl, hw'⟩; obtain rfl := hw'.symm; clear hw'
  go_wp2_with fail
  refine (j2 w).mono ?_; rintro e w' ⟨rfl, hw'⟩; obtain rfl := hw'.symm; clear hw'
  clear i1 i2 j1 j2
  go_wp2_with fail
  refine b1.mono ?_; rintro e w1 ⟨p1, p2, c1, c2, a1, a2, sa, rfl, u1, u2, u3, u4, fa, k1⟩
  have b3 := b2 w1
  clear b1 b2
  obtain ⟨E1, g1⟩ : ∃ E, E = (dig a1).length := ⟨_, rfl⟩
  obtain ⟨E2, g2⟩ : ∃ E, E = (dig a2).length := ⟨_, rfl⟩
  rw [← g1, ← g2]
  have G1 : Hid (E1 = (dig a1).length ∧ E2 = (dig a2).length ∧ _) := ⟨g1, g2, fa⟩
  clear g1 g2 fa
  go_wp2_with fail
  refine b3.mono ?_; rintro e w2 ⟨q1, q2, d1, d2, e1, e2, sb, rfl, v1, v2, v3, v4, fb, k2⟩
  have hr := HR.out sa sb a1 a2 e1 e2 p1 p2 q1 q2 c1 c2 d1 d2 w2 (u1.grown k2) u2 (u3.grown k2) u4 v1 v2 v3 v4 G1.out.2.2 fb
  rw [← G1.out.1, ← G1.out.2.1] at hr
  obtain ⟨E3, g3⟩ : ∃ E, E = (dig e1).length := ⟨_, rfl⟩
  obtain ⟨E4, g4⟩ : ∃ E, E = (dig e2).length := ⟨_, rfl⟩
  rw [← g3, ← g4] at hr ⊢
  have k02 := k1.trans k2
  clear b3 u1 u2 u3 u4 v1 v2 v3 v4 fb k1 k2 g3 g4 G1 HR
  go_wp2_with fail
  refine hr.mono ?_; rintro e w3 ⟨vn, vd, a', b', ng, rfl, lv1, lv2, ⟨hw1, hw2, hw3, hw4⟩, k3⟩
  have hb := rbits_ d ng vn vd a' b' w3 lv1 lv2 hw2 hw3 hw4
  rw [hw1] at hb
  have k03 := k02.trans k3
  clear hr lv1 lv2 hw1 hw2 hw3 hw4 k02 k3
  go_wp2_with fail
  refine hb.mono ?_; rintro e w4 ⟨rfl, k4⟩
  have k04 := k03.trans k4
  clear hb k03 k4
  go_wp2
  exact bodyPost_ret (v := .int .u64 (Z : Int)) (by simp [results, Tryd.results7, go_sem]) rfl ⟨rfl, k04⟩
set_option maxRecDepth 20000 in
set_option maxHeartbeats 1000000 in
theorem rprodB_ (d : Int) (n n' : Bool) (m m' : Nat) (hm : m < 9223372036854775808) (hm' : m' < 9223372036854775808) (hb : badP m m') (w : World) :
    Calls Tryd.prog 7 #[.int .i64 d, .int .u64 ((Fq.wD n m : Nat) : Int), .int .u64 ((Fq.wD n' m' : Nat) : Int)] w fun e w' => e = .returned (.int .u64 9221120237041090561) ∧ Kp w w' := by
  have i1 := fun w => isnan_ n m hm w
  have i2 := fun w => isnan_ n' m' hm' w
  have j1 := fun w => isinf_ n m hm w
  have j2 := fun w => isinf_ n' m' hm' w
  have z1 := fun w => zero3_ n m hm w
  have z2 := fun w => zero3_ n' m' hm' w
  obtain ⟨X, hX⟩ : ∃ X, X = Fq.wD n m := ⟨_, rfl⟩
  obtain ⟨Y, hY⟩ : ∃ Y, Y = Fq.wD n' m' := ⟨_, rfl⟩
  rw [← hX] at i1 j1 z1
  rw [← hY] at i2 j2 z2
  rw [← hX, ← hY]
  unfold badP at hb
  by_cases c1 : 9218868437227405312 < m
  · rw [decide_eq_true c1] at i1
    clear hX hY i2 j1 j2 z1 z2 c1 hb hm hm'
    go_enter Tryd.func7, Tryd.ntmps7
    go_wp2_with fail
    refine (i1 w).mono ?_; rintro e w' ⟨rfl, hw'⟩; obtain rfl := hw'.symm; clear hw'
    go_wp2
    exact bodyPost_ret (v := .int .u64 9221120237041090561) (by simp [results, Tryd.results7, go_sem]) rfl ⟨rfl, Kp.refl _⟩
  · rw [decide_eq_false c1] at i1
    by_cases c2 : 9218868437227405312 < m'
    · rw [decide_eq_true c2] at i2
      clear hX hY j1 j2 z1 z2 c1 c2 hb hm hm'
      go_enter Tryd.func7, Tryd.ntmps7
      go_wp2_with fail
      refine (i1 w).mono ?_; rintro e w' ⟨rfl, hw'⟩; obtain rfl := hw'.symm; clear hw'
      go_wp2_with fail
      refine (i2 w).mono ?_; rintro e w' ⟨rfl, hw'⟩; obtain rfl := hw'.symm; clear hw'
      go_wp2
      exact bodyPost_ret (v := .int .u64 9221120237041090561) (by simp [results, Tryd.results7, go_sem]) rfl ⟨rfl, Kp.refl _⟩
    · rw [decide_eq_false c2] at i2
      rcases (hb.resolve_left c1).resolve_left c2 with ⟨e1, e2⟩ | ⟨e1, e2⟩
      · rw [decide_eq_true e1] at j1
        rw [decide_eq_false (by omega)] at z1
        rw [decide_eq_true e2] at z2
        clear hX hY j2 c1 c2 hb hm hm' e1 e2
        go_enter Tryd.func7, Tryd.ntmps7
        go_wp2_with fail
        refine (i1 w).mono ?_; rintro e w' ⟨rfl, hw'⟩; obtain rfl := hw'.symm; clear hw'
        go_wp2_with fail
        refine (i2 w).mono ?_; rintro e w' ⟨rfl, hw'⟩; obtain rfl := hw'.symm; clear hw'
        go_wp2_with fail
        refine (j1 w).mono ?_; rintro e w' ⟨rfl, hw'⟩; obtain rfl := hw'.symm; clear hw'
        go_wp2_with fail
        refine (z1 w).mono ?_; rintro e w' ⟨rfl, hw'⟩; obtain rfl := hw'.symm; clear hw'
        go_wp2_with fail
        refine (z2 w).mono ?_; rintro e w' ⟨rfl, hw'⟩; obtain rfl := hw'.symm; clear hw'
        go_wp2
        exact bodyPost_ret (v := .int .u64 9221120237041090561) (by simp [results, Tryd.results7, go_sem]) rfl ⟨rfl, Kp.refl _⟩
      · rw [decide_eq_false (by omega)] at j1
        rw [decide_eq_true e2] at j2
        rw [decide_eq_true e1] at z1
        clear hX hY z2 c1 c2 hb hm hm' e1 e2
        go_enter Tryd.func7, Tryd.ntmps7
        go_wp2_with fail
        refine (i1 w).mono ?_; rintro e w' ⟨rfl, hw'⟩; obtain rfl := hw'.symm; clear hw'
        go_wp2_with fail
        refine (i2 w).mono ?_; rintro e w' ⟨rfl, hw'⟩; obtain rfl := hw'.symm; clear hw'
        go_wp2_with fail
        refine (j1 w).mono ?_; rintro e w' ⟨rfl, hw'⟩; obtain rfl := hw'.symm; clear hw'
        go_wp2_with fail
        refine (j2 w).mono ?_; rintro e w' ⟨rfl, hw'⟩; obtain rfl := hw'.symm; clear hw'
        go_wp2_with fail
        refine (z1 w).mono ?_; rintro e w' ⟨rfl, hw'⟩; obtain rfl := hw'.symm; clear hw'
        go_wp2
        exact bodyPost_ret (v := .int .u64 9221120237041090561) (by simp [results, Tryd.results7, go_sem]) rfl ⟨rfl, Kp.refl _⟩
set_option maxRecDepth 20000 in
set_option maxHeartbeats 1000000 in
theorem rprodI_ (d : Int) (n n' : Bool) (m m' : Nat) (hm : m < 9223372036854775808) (hm' : m' < 9223372036854775808) (hb : ¬ badP m m') (hi : ¬ (m < 9218868437227405312 ∧ m' < 9218868437227405312)) (w : World) :
    Calls Tryd.prog 7 #[.int .i64 d, .int .u64 ((Fq.wD n m : Nat) : Int), .int .u64 ((Fq.wD n' m' : Nat) : Int)] w fun e w' => e = .returned (.int .u64 ((Fq.wD (n ^^ n') 9218868437227405312 : Nat) : Int)) ∧ Kp w w' := by
  unfold badP at hb
  have hz : m ≠ 0 := by omega
  have hz' : m' ≠ 0 := by omega
  have i1 := fun w => isnan_ n m hm w
  have i2 := fun w => isnan_ n' m' hm' w
  have j1 := fun w => isinf_ n m hm w
  have j2 := fun w => isinf_ n' m' hm' w
  have z1 := fun w => zero3_ n m hm w
  have z2 := fun w => zero3_ n' m' hm' w
  obtain ⟨X, hX⟩ : ∃ X, X = Fq.wD n m := ⟨_, rfl⟩
  obtain ⟨Y, hY⟩ : ∃ Y, Y = Fq.wD n' m' := ⟨_, rfl⟩
  have n1 := fun w => neg3_ n m hm hz w
  have n2 := fun w => neg3_ n' m' hm' hz' w
  have f1 := fun w => infin3_ (n ^^ n') w
  rw [← hX] at i1 j1 z1 n1
  rw [← hY] at i2 j2 z2 n2
  obtain ⟨Z, hZ⟩ : ∃ Z, Z = Fq.wD (n ^^ n') 9218868437227405312 := ⟨_, rfl⟩
  rw [← hZ] at f1
  rw [← hX, ← hY, ← hZ]
  rw [decide_eq_false (by omega)] at i1 i2 z1 z2
  obtain ⟨st, hst⟩ : ∃ st, st = (n ^^ n') := ⟨_, rfl⟩
  have hst2 : (n != n') = st := by rw [hst]
  have hst3 : (!decide (n = n')) = st := by rw [hst]; cases n <;> cases n' <;> rfl
  have hst4 : (!(n == n')) = st := by rw [hst]; cases n <;> cases n' <;> rfl
  rw [← hst] at f1
  clear hst hZ hX hY hz hz'
  by_cases c3 : m = 9218868437227405312
  · rw [decide_eq_true c3] at j1
    clear hb hi hm hm' c3 j2
    go_enter Tryd.func7, Tryd.ntmps7
    go_wp2_with fail
    refine (i1 w).mono ?_; rintro e w' ⟨rfl, hw'⟩; obtain rfl := hw'.symm; clear hw'
    go_wp2_with fail
    refine (i2 w).mono ?_; rintro e w' ⟨rfl, hw'⟩; obtain rfl := hw'.symm; clear hw'
    go_wp2_with fail
    refine (j1 w).mono ?_; rintro e w' ⟨rfl, hw'⟩; obtain rfl := hw'.symm; clear hw'
    go_wp2_with fail
    refine (z1 w).mono ?_; rintro e w' ⟨rfl, hw'⟩; obtain rfl := hw'.symm; clear hw'
    go_wp2_with fail
    refine (z2 w).mono ?_; rintro e w' ⟨rfl, hw'⟩; obtain rfl := hw'.symm; clear hw'
    go_wp2_with fail
    refine (n1 w).mono ?_; rintro e w' ⟨rfl, hw'⟩; obtain rfl := hw'.symm; clear hw'
    go_wp2_with fail
    refine (n2 w).mono ?_; rintro e w' ⟨rfl, hw'⟩; obtain rfl := hw'.symm; clear hw'
    go_wp2_with fail
    refine (f1 w).mono ?_; rintro e w' ⟨rfl, hw'⟩; obtain rfl := hw'.symm; clear hw'
    go_wp2
    exact bodyPost_ret (v := .int .u64 (Z : Int)) (by simp [results, Tryd.results7, go_sem]) rfl ⟨rfl, Kp.refl _⟩
  · rw [decide_eq_false c3] at j1
    rw [decide_eq_true (by omega)] at j2
    clear hb hi hm hm' c3
    go_enter Tryd.func7, Tryd.ntmps7
    go_wp2_with fail
    refine (i1 w).mono ?_; rintro e w' ⟨rfl, hw'⟩; obtain rfl := hw'.symm; clear hw'
    go_wp2_with fail
    refine (i2 w).mono ?_; rintro e w' ⟨rfl, hw'⟩; obtain rfl := hw'.symm; clear hw'
    go_wp2_with fail
    refine (j1 w).mono ?_; rintro e w' ⟨rfl, hw'⟩; obtain rfl := hw'.symm; clear hw'
    go_wp2_with fail
    refine (j2 w).mono ?_; rintro e w' ⟨rfl, hw'⟩; obtain rfl := hw'.symm; clear hw'
    go_wp2_with fail
    refine (z1 w).mono ?_; rintro e w' ⟨rfl, hw'⟩; obtain rfl := hw'.symm; clear hw'
    go_wp2_with fail
    refine (z2 w).mono ?_; rintro e w' ⟨rfl, hw'⟩; obtain rfl := hw'.symm; clear hw'
    go_wp2_with fail
    refine (n1 w).mono ?_; rintro e w' ⟨rfl, hw'⟩; obtain rfl := hw'.symm; clear hw'
    go_wp2_with fail
    refine (n2 w).mono ?_; rintro e w' ⟨rfl, hw'⟩; obtain rfl := hw'.symm; clear hw'
    go_wp2_with fail
    refine (f1 w).mono ?_; rintro e w' ⟨rfl, hw'⟩; obtain rfl := hw'.symm; clear hw'
    go_wp2
    exact bodyPost_ret (v := .int .u64 (Z : Int)) (by simp [results, Tryd.results7, go_sem]) rfl ⟨rfl, Kp.refl _⟩
theorem iv_zero9 (n : Bool) : Iv n 0 = 0 := by unfold Iv; cases n <;> rfl
theorem ordfin (n : Bool) (R : Nat) (h : R ≤ 9218868437227405312) : (FloatKind.f64.format.order (Fq.wD n R) (Fq.wD n R) != some .eq) = false := by
  rw [Fq.ordD n n R R h h, Fq.cmp_eq rfl]; rfl
theorem ordnn (r : Nat) (h1 : 9218868437227405312 < r % 9223372036854775808) (h2 : r < 18446744073709551616) : (FloatKind.f64.format.order r r != some .eq) = true := by
  have e : r = Fq.wD (decide (9223372036854775808 ≤ r)) (r % 9223372036854775808) := by
    unfold Fq.wD
    by_cases c : 9223372036854775808 ≤ r
    · rw [decide_eq_true c, if_pos rfl]; omega
    · rw [decide_eq_false c, if_neg (by simp)]; omega
  have h3 := Fq.ordD_nanl (decide (9223372036854775808 ≤ r)) (r % 9223372036854775808) r h1 (Nat.mod_lt _ (by decide))
  rw [← e] at h3
  rw [h3]; rfl
theorem ordmul (d : Int) (ng : Bool) (P : Nat) : (FloatKind.f64.format.order (mulW d ng P) (mulW d ng P) != some .eq) = false := by
  unfold mulW
  by_cases c : P = 0
  · rw [if_pos c]; exact ordfin false 0 (by decide)
  · rw [if_neg c]; exact ordselfD _ _ (fin_leD _ _)
theorem prod_both (d : Int) (n n' : Bool) (m m' : Nat) (hm : m < 9223372036854775808) (hm' : m' < 9223372036854775808) (hd1 : -9223372036854775808 ≤ d) (hd2 : d < 9223372036854775808) :
    ∃ Z : Nat, (∀ w : World, Tab w → Fq.Tab w → Calls Tryd.prog 5 #[.int .i64 d, .float .f64 (Fq.wD n m), .float .f64 (Fq.wD n' m')] w fun e w' => ∃ R, e = .returned (.float .f64 R) ∧ (∀ w1 : World, Calls Tryd.prog 4 #[.float .f64 R] w1 fun e w' => e = .returned (.int .u64 (Z : Int)) ∧ w' = w1) ∧ Kp w w') ∧ (∀ w : World, Calls Tryd.prog 7 #[.int .i64 d, .int .u64 ((Fq.wD n m : Nat) : Int), .int .u64 ((Fq.wD n' m' : Nat) : Int)] w fun e w' => e = .returned (.int .u64 (Z : Int)) ∧ Kp w w') := by
  by_cases hi : m < 9218868437227405312 ∧ m' < 9218868437227405312
  · obtain ⟨c1, c2⟩ := hi
    refine ⟨mulW d (n ^^ n') (Fq.vV Ieee.double m * Fq.vV Ieee.double m'), fun w hT hQ => ?_, fun w => rprodF_ d n n' m m' c1 c2 w⟩
    suffices h : Calls Tryd.prog 5 #[.int .i64 d, .float .f64 (Fq.wD n m), .float .f64 (Fq.wD n' m')] w fun e w' => e = .returned (.float .f64 (mulW d (n ^^ n') (Fq.vV Ieee.double m * Fq.vV Ieee.double m'))) ∧ Kp w w' from
      h.mono fun e w' h => ⟨_, h.1, fun w1 => bitsN_ _ (ordmul _ _ _) w1, h.2⟩
    by_cases z : m = 0 ∨ m' = 0
    · have h0 : mulW d (n ^^ n') (Fq.vV Ieee.double m * Fq.vV Ieee.double m') = 0 := by
        unfold mulW
        refine if_pos (Nat.mul_eq_zero.2 ?_)
        rcases z with z | z
        · exact Or.inl ((vV_zero m).2 z)
        · exact Or.inr ((vV_zero m').2 z)
      rw [h0]
      have hp := Fq.plain_d (n ^^ n') 0 (by decide) w
      rw [show Fq.wD ((n ^^ n') && !((0 : Nat) == 0)) 0 = 0 from by simp; rfl] at hp
      exact pmulP_ d n n' m m' hm hm' (fun h => by omega) w w (Fq.wD (n ^^ n') 0) 0 (run_float_arith w .mul 24 .f64 _ _ _ (mul_zero n n' m m' c1 c2 z)) (Kp.refl _) hp
    · by_cases ct : (2580562586483294208 ≤ m ∧ m ≤ 6633802251116740608) ∧ (2580562586483294208 ≤ m' ∧ m' ≤ 6633802251116740608)
      · exact pmulQ_ d n n' m m' ct.1 ct.2 w
      · exact pmulE_ d n n' m m' c1 c2 (fun h => z (Or.inl h)) (fun h => z (Or.inr h)) ct w hT hQ hd1 hd2
  · by_cases hb : badP m m'
    · refine ⟨9221120237041090561, fun w hT hQ => ?_, fun w => rprodB_ d n n' m m' hm hm' hb w⟩
      obtain ⟨R, p1, p2, hrun⟩ := run_nan_mul _ _ (mul_bad n n' m m' hm hm' hb) w
      obtain ⟨a, b, hb9, hR⟩ := word_of R p2
      have hp := Fq.plain_d a b (by omega) w.drew
      rw [show (a && !(b == 0)) = a from by simp; omega, ← hR] at hp
      refine (pmulP_ d n n' m m' hm hm' (fun h => hi ⟨h.1, h.2.1⟩) w w.drew R R hrun (Kp.refl _).drew hp).mono fun e w' h => ?_
      exact ⟨R, h.1, fun w1 => bitsNaN_ _ (ordnn R p1 p2) w1, h.2⟩
    · refine ⟨Fq.wD (n ^^ n') 9218868437227405312, fun w hT hQ => ?_, fun w => rprodI_ d n n' m m' hm hm' hb hi w⟩
      have hp := Fq.plain_d (n ^^ n') 9218868437227405312 (by decide) w
      rw [show ((n ^^ n') && !((9218868437227405312 : Nat) == 0)) = (n ^^ n') from by simp] at hp
      refine (pmulP_ d n n' m m' hm hm' (fun h => hi ⟨h.1, h.2.1⟩) w w _ _ (run_float_arith w .mul 24 .f64 _ _ _ (mul_inf n n' m m' hb hi)) (Kp.refl _) hp).mono fun e w' h => ?_
      exact ⟨_, h.1, fun w1 => bitsN_ _ (ordfin _ _ (Nat.le_refl _)) w1, h.2⟩
set_option maxRecDepth 20000 in
set_option maxHeartbeats 1000000 in
theorem products_ (d : Int) (X Y : Nat) (w : World) (hT : Tab w) (hQ : Fq.Tab w) (hd1 : -9223372036854775808 ≤ d) (hd2 : d < 9223372036854775808) (hX : X < 18446744073709551616) (hY : Y < 18446744073709551616) :
    Calls Tryd.prog 3 #[.int .i64 d, .int .u64 (X : Int), .int .u64 (Y : Int)] w fun e w' => e = .returned (.bool true) ∧ Kp w w' := by
  obtain ⟨n, m, hm, eX⟩ := word_of X hX
  obtain ⟨n', m', hm', eY⟩ := word_of Y hY
  obtain ⟨Z1, p1, q1⟩ := prod_both d n n' m m' (by omega) (by omega) hd1 hd2
  rw [← eX, ← eY] at p1 q1
  have f1 := fl_ X
  have f2 := fl_ Y
  clear eX eY hm hm' hX hY hd1 hd2
  go_enter Tryd.func3, Tryd.ntmps3
  go_wp2_with fail
  refine (f1 _).mono ?_; rintro e w' ⟨rfl, hw'⟩; obtain rfl := hw'.symm; clear hw'
  go_wp2_with fail
  refine (f2 _).mono ?_; rintro e w' ⟨rfl, hw'⟩; obtain rfl := hw'.symm; clear hw'
  have hc := p1 _ hT hQ
  go_wp2_with fail
  refine hc.mono ?_; rintro e w1 ⟨R1, rfl, hb1, k1⟩; clear hc
  go_wp2_with fail
  refine (hb1 _).mono ?_; rintro e w' ⟨rfl, hw'⟩; obtain rfl := hw'.symm; clear hw' hb1
  have hc := q1 w1
  go_wp2_with fail
  refine hc.mono ?_; rintro e w2 ⟨rfl, k2⟩; clear hc
  have kk := k1.trans k2
  clear f1 f2 p1 q1 k1 k2 hT hQ
  go_wp2
  exact bodyPost_ret (v := .bool true) (by simp [results, Tryd.results3, go_sem]) rfl ⟨rfl, kk⟩
end Go.Proofs.YtpjjmpdgchbdaaaDoor
