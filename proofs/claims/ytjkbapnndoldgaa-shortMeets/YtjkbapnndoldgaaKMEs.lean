import Derived.Test.YtjkbapnndoldgaaKEC4
import Derived.Test.YtjkbapnndoldgaaKTMR
namespace Go.Proofs.Ytjkbapnndoldgaa
open Go.RowKit

theorem iv_lt8 (n n' : Bool) (m m' : Nat) : Iv n m < Iv n' m' ↔ Fq.plz n m < Fq.plz n' m' := by
  have h1 := Fq.vV_lt_iff Ieee.double m m'
  have h2 := Fq.vV_lt_iff Ieee.double m' m
  have h3 := vV_zero_iff m
  have h4 := vV_zero_iff m'
  unfold Iv Fq.plz
  cases n <;> cases n' <;> simp <;> omega

theorem RF.iv {s : Bool} {a b : Nat} {n : Bool} {m : Nat} (h : RF s a b n m) (K : Nat) (hK : K = 1074) : rvI s a * ((2 ^ K : Nat) : Int) = Iv n m * (b : Int) := by
  obtain ⟨h0, h1, h2, -, -⟩ := h K hK
  rw [h2]
  have h3 : ((a * 2 ^ K : Nat) : Int) = ((Fq.vV Ieee.double m * b : Nat) : Int) := by rw [h1]
  unfold rvI
  rw [Int.natCast_mul, Int.natCast_mul] at h3
  cases s
  · simpa using h3
  · simp only [if_true, Int.neg_mul]; rw [h3]
theorem cmI_scale (x y k : Int) (hk : 0 < k) : cmI (x * k) (y * k) = cmI x y := by
  unfold cmI
  have e1 : x * k < y * k ↔ x < y := ⟨fun h => Int.lt_of_mul_lt_mul_right h (Int.le_of_lt hk), fun h => Int.mul_lt_mul_of_pos_right h hk⟩
  have e2 : y * k < x * k ↔ y < x := ⟨fun h => Int.lt_of_mul_lt_mul_right h (Int.le_of_lt hk), fun h => Int.mul_lt_mul_of_pos_right h hk⟩
  simp only [e1, e2]
theorem rcmpP8_ (B1 B2 : Nat) (n n' : Bool) (m m' : Nat) (s : Bool) (p : Option Addr) (l c : Nat) (q : Option Addr) (k d : Nat) (s2 : Bool) (p2 : Option Addr) (l2 c2 : Nat) (q2 : Option Addr) (k2 d2 : Nat) (w : World) (h1 : RP B1 w s p l c q k d n m) (h2 : RP B2 w s2 p2 l2 c2 q2 k2 d2 n' m') : Calls Try.prog 119 #[.agg #[.bool s, .slice p l c, .slice q k d], .agg #[.bool s2, .slice p2 l2 c2, .slice q2 k2 d2]] w fun e w' => e = .returned (.int .i64 (cmI (Iv n m) (Iv n' m'))) ∧ Kp w w' := by
  obtain ⟨a, b, o1, o2, f1⟩ := h1
  obtain ⟨x, y, o3, o4, f2⟩ := h2
  obtain ⟨K, hK⟩ : ∃ K : Nat, K = 1074 := ⟨_, rfl⟩
  have i1 := f1.iv K hK
  have i2 := f2.iv K hK
  obtain ⟨zb, -, -, j1, j2⟩ := f1 K hK
  obtain ⟨zy, -, -, j3, j4⟩ := f2 K hK
  have h := rcmp6_ s p l c q k d s2 p2 l2 c2 q2 k2 d2 a b x y B1 B2 w o1 o2 o3 o4 zb zy (by omega) (by omega) (by omega) (by omega)
  have e : cmI (rvI s a * (y : Int)) (rvI s2 x * (b : Int)) = cmI (Iv n m) (Iv n' m') := by
    have pk : (0 : Int) < ((2 ^ K : Nat) : Int) := by have := Nat.two_pow_pos K; omega
    have pb : (0 : Int) < (b : Int) * (y : Int) := Int.mul_pos (by omega) (by omega)
    rw [← cmI_scale _ _ _ pk, ← cmI_scale (Iv n m) (Iv n' m') _ pb]
    rw [Int.mul_right_comm, i1, Int.mul_right_comm (rvI s2 x), i2, Int.mul_assoc, Int.mul_assoc, Int.mul_comm (y : Int) (b : Int)]
  rw [e] at h
  exact h
theorem cmI_iv (n n' : Bool) (m m' : Nat) : cmI (Iv n m) (Iv n' m') = cmI (Fq.plz n m) (Fq.plz n' m') := by
  unfold cmI
  simp only [iv_lt8]
theorem cmI_lt (x y : Int) (h : x < y) : cmI x y = -1 := by unfold cmI; rw [if_pos h]
theorem cmI_gt (x y : Int) (h : y < x) : cmI x y = 1 := by unfold cmI; rw [if_neg (by omega), if_pos h]
theorem cmI_eq (x : Int) : cmI x x = 0 := by unfold cmI; rw [if_neg (by omega), if_neg (by omega)]
theorem cmpE_ (B1 B2 : Nat) (n n' : Bool) (m m' : Nat) (hm : m ≤ 9218868437227405312) (hm' : m' ≤ 9218868437227405312) (s : Bool) (p : Option Addr) (l c : Nat) (q : Option Addr) (k d : Nat) (s2 : Bool) (p2 : Option Addr) (l2 c2 : Nat) (q2 : Option Addr) (k2 d2 : Nat) (w : World) (h1 : RP B1 w s p l c q k d (fN n m) (fM m)) (h2 : RP B2 w s2 p2 l2 c2 q2 k2 d2 (fN n' m') (fM m')) : Calls Try.prog 108 #[.agg #[.int .i64 (infS n m), .bool s, .slice p l c, .slice q k d], .agg #[.int .i64 (infS n' m'), .bool s2, .slice p2 l2 c2, .slice q2 k2 d2]] w fun e w' => e = .returned (.int .i64 (cmI (Fq.plz n m) (Fq.plz n' m'))) ∧ Kp w w' := by
  have P1 : Fq.plz n m = if n then -(m : Int) else m := by unfold Fq.plz; cases n <;> rfl
  have P2 : Fq.plz n' m' = if n' then -(m' : Int) else m' := by unfold Fq.plz; cases n' <;> rfl
  by_cases z1 : m = 9218868437227405312
  · by_cases z2 : m' = 9218868437227405312
    · subst z1 z2
      have e1 : infS n 9218868437227405312 = if n then -1 else 1 := by unfold infS; rw [if_pos rfl]
      have e2 : infS n' 9218868437227405312 = if n' then -1 else 1 := by unfold infS; rw [if_pos rfl]
      rw [e1, e2]
      cases n <;> cases n'
      · rw [cmI_eq]; exact endE_ 1 s p l c q k d s2 p2 l2 c2 q2 k2 d2 (by decide) w
      · rw [cmI_gt _ _ (by rw [P1, P2]; decide)]; exact endG_ 1 (-1) s p l c q k d s2 p2 l2 c2 q2 k2 d2 (by decide) (by decide) w
      · rw [cmI_lt _ _ (by rw [P1, P2]; decide)]; exact endL_ (-1) 1 s p l c q k d s2 p2 l2 c2 q2 k2 d2 (by decide) (by decide) w
      · rw [cmI_eq]; exact endE_ (-1) s p l c q k d s2 p2 l2 c2 q2 k2 d2 (by decide) w
    · have e1 : infS n m = if n then -1 else 1 := by unfold infS; rw [if_pos z1]
      have e2 : infS n' m' = 0 := by unfold infS; rw [if_neg z2]
      rw [e1, e2]
      cases n
      · rw [cmI_gt _ _ (by rw [P1, P2]; cases n' <;> simp <;> omega)]; exact endG_ 1 0 s p l c q k d s2 p2 l2 c2 q2 k2 d2 (by decide) (by decide) w
      · rw [cmI_lt _ _ (by rw [P1, P2]; cases n' <;> simp <;> omega)]; exact endL_ (-1) 0 s p l c q k d s2 p2 l2 c2 q2 k2 d2 (by decide) (by decide) w
  · have e1 : infS n m = 0 := by unfold infS; rw [if_neg z1]
    by_cases z2 : m' = 9218868437227405312
    · have e2 : infS n' m' = if n' then -1 else 1 := by unfold infS; rw [if_pos z2]
      rw [e1, e2]
      cases n'
      · rw [cmI_lt _ _ (by rw [P1, P2]; cases n <;> simp <;> omega)]; exact endL_ 0 1 s p l c q k d s2 p2 l2 c2 q2 k2 d2 (by decide) (by decide) w
      · rw [cmI_gt _ _ (by rw [P1, P2]; cases n <;> simp <;> omega)]; exact endG_ 0 (-1) s p l c q k d s2 p2 l2 c2 q2 k2 d2 (by decide) (by decide) w
    · have e2 : infS n' m' = 0 := by unfold infS; rw [if_neg z2]
      have f1 : fN n m = n ∧ fM m = m := by unfold fN fM; rw [if_neg z1, if_neg z1]; exact ⟨rfl, rfl⟩
      have f2 : fN n' m' = n' ∧ fM m' = m' := by unfold fN fM; rw [if_neg z2, if_neg z2]; exact ⟨rfl, rfl⟩
      rw [f1.1, f1.2] at h1
      rw [f2.1, f2.2] at h2
      rw [e1, e2, ← cmI_iv]
      exact endZ_ _ s p l c q k d s2 p2 l2 c2 q2 k2 d2 w (fun W g => rcmpP8_ B1 B2 n n' m m' s p l c q k d s2 p2 l2 c2 q2 k2 d2 W (h1.kp g) (h2.kp g))
end Go.Proofs.Ytjkbapnndoldgaa
