import Derived.Test.YtmgfbalhgfkibaaGreatDoorKEC2
import Derived.Test.YtmgfbalhgfkibaaGreatDoorKXMQ
namespace Go.Proofs.YtmgfbalhgfkibaaGreatDoor
open Go.RowKit
theorem rU_floor (p A B : Nat) (h : blen (A / B) ≤ p) : rU (-1) p A B = A / B := by
  have hE : rE p A B = 0 := by unfold rE; omega
  unfold rU rS rR
  rw [hE, Nat.pow_zero, Nat.mul_one, Nat.mul_one]
  have e : upw (-1) (A / B) (A % B) B = false := by unfold upw; simp
  rw [e]; simp
theorem frac_exact (sg : Nat) (ep : Int) (a b K e : Nat) (hF : FracOf sg 1 ep a b) (h0 : sg ≠ 0) (he : (e : Int) = ep + (K : Int)) : a * 2 ^ K = sg * 2 ^ e * b := by
  obtain ⟨hb, -, hrv, -, -⟩ := hF
  have hbp : 0 < b := by omega
  have hfl : ∀ j : Nat, a * 2 ^ K * 2 ^ j / b = sg * 2 ^ e * 2 ^ j := fun j => by
    obtain ⟨p, hp⟩ : ∃ p, p = blen (a * 2 ^ (K + j) / b) + blen (sg * 2 ^ (e + j)) := ⟨_, rfl⟩
    have h := hrv (-1) p ((K + j : Nat) : Int) h0
    unfold rV at h
    rw [show (((K + j : Nat) : Int)).toNat = K + j from by omega, show (-((K + j : Nat) : Int)).toNat = 0 from by omega, show (((K + j : Nat) : Int) + ep).toNat = e + j from by omega, show (-(((K + j : Nat) : Int) + ep)).toNat = 0 from by omega, Nat.pow_zero, Nat.mul_one, Nat.mul_one, rU_floor p _ b (by rw [hp]; omega), rU_floor p _ 1 (by rw [Nat.div_one, hp]; omega), Nat.div_one, Nat.pow_add, Nat.pow_add] at h
    rw [Nat.mul_assoc, h, Nat.mul_assoc]
  obtain ⟨A, hA⟩ : ∃ A, A = a * 2 ^ K := ⟨_, rfl⟩
  obtain ⟨S, hS⟩ : ∃ S, S = sg * 2 ^ e := ⟨_, rfl⟩
  rw [← hA, ← hS] at hfl ⊢
  have h1 := hfl 0
  rw [Nat.pow_zero, Nat.mul_one, Nat.mul_one] at h1
  have h2 : S * b ≤ A := by rw [← h1]; exact Nat.div_mul_le_self A b
  obtain ⟨D, hD⟩ : ∃ D, D = A - S * b := ⟨_, rfl⟩
  by_cases c : D = 0
  · omega
  · exfalso
    have h3 := hfl (blen b)
    have h4 : b < 2 ^ blen b := (blen_spec b hb).2.1
    have e1 : A = S * b + D := by omega
    rw [e1, Nat.add_mul, Nat.mul_right_comm, Nat.add_comm, Nat.add_mul_div_right _ _ hbp] at h3
    have h5 : D * 2 ^ blen b / b = 0 := by omega
    have h6 : b ≤ D * 2 ^ blen b := Nat.le_trans (Nat.le_of_lt h4) (Nat.le_mul_of_pos_left _ (by omega))
    have h7 := (Nat.le_div_iff_mul_le hbp (x := 1)).2 (by rw [Nat.one_mul]; exact h6)
    omega
theorem ratio_sum (d V : Int) (x D a b K : Nat) (neg : Bool) (hK : K = 1074) (hD : D ≠ 0) (hF : FracOf x D 0 a b) (hx : x * 2 ^ K = V.natAbs * D) (ng : Bool) (hng : x ≠ 0 → ng = neg) (hneg : V ≠ 0 → neg = decide (V < 0)) : refW 53 1074 2098 9218868437227405311 0 d ng a b = sumW d V := by
  have h := refW_fin d ng neg x D a b 0 hF hng K hK
  rw [← hK]
  rw [h]
  unfold sumW
  have hx0 : x = 0 ↔ V = 0 := by
    have hp := Nat.two_pow_pos K
    constructor
    · intro h0; rw [h0, Nat.zero_mul] at hx
      rcases Nat.mul_eq_zero.1 hx.symm with h1 | h1 <;> omega
    · intro h0; rw [h0] at hx
      rw [Int.natAbs_zero, Nat.zero_mul] at hx
      rcases Nat.mul_eq_zero.1 hx with h1 | h1
      · exact h1
      · omega
  by_cases c : x = 0
  · rw [if_pos c, if_pos (hx0.1 c)]
  · have hv : V ≠ 0 := fun h0 => c (hx0.2 h0)
    rw [if_neg c, if_neg hv, ← hneg hv]
    have e : rV (dirN neg d) 53 x D (0 + 1074) = rU (dirN neg d) 53 V.natAbs 1 := by
      unfold rV
      rw [show ((0 : Int) + 1074).toNat = K from by omega, show (-((0 : Int) + 1074)).toNat = 0 from by omega, Nat.pow_zero, Nat.mul_one, hx]
      exact rU_ratio _ _ _ _ _ _ (by omega) (by omega) (by rw [Nat.mul_one])
    rw [e]
def mulW (d : Int) (ng : Bool) (P : Nat) : Nat := if P = 0 then 0 else mdW ng (finU 53 2098 9218868437227405311 9218868437227405312 (dirN ng d) (rV (dirN ng d) 53 P 1 (-1074)))
theorem of_mul (d : Int) (ng : Bool) (c : Nat) (low : Int) (P : Nat) (h1 : -2148 ≤ low) (h2 : low ≤ 8192) (hb : blen c ≤ 524288) (hP : P = c * 2 ^ (low + 2148).toNat) : ofW d ng c low = mulW d ng P := by
  have hl : ¬ 16384 < len32 c := mt (long_iff c).2 (by omega)
  rw [of_rat]
  unfold ratW mulW
  rw [if_neg (by rw [len32_one]; omega), if_neg (by decide)]
  obtain ⟨k, hk⟩ : ∃ k, k = (low + 2148).toNat := ⟨_, rfl⟩
  rw [← hk] at hP
  by_cases c0 : c = 0
  · rw [if_pos c0, if_pos (by rw [hP, c0, Nat.zero_mul])]
  · have hp : P ≠ 0 := by rw [hP]; exact Nat.mul_ne_zero c0 (Nat.ne_of_gt (Nat.two_pow_pos k))
    rw [if_neg c0, if_neg hp, hP, rV_up _ _ _ _ _ _ (by decide), show (-1074 : Int) + (k : Int) = low + 1074 from by omega]
theorem sum_mul (d V : Int) (ng : Bool) (P K : Nat) (hK : K = 1074) (hP : V.natAbs * 2 ^ K = P) (hng : V ≠ 0 → ng = decide (V < 0)) : sumW d V = mulW d ng P := by
  unfold sumW mulW
  by_cases c : V = 0
  · rw [if_pos c, if_pos (by rw [← hP, c]; simp)]
  · have hp : P ≠ 0 := by rw [← hP]; exact Nat.mul_ne_zero (by omega) (Nat.ne_of_gt (Nat.two_pow_pos K))
    rw [if_neg c, if_neg hp, ← hng c, ← hP, rV_up _ _ _ _ _ _ (by decide), show (-1074 : Int) + (K : Int) = 0 from by omega]
    unfold rV
    rw [show ((0 : Int)).toNat = 0 from rfl, show (-(0 : Int)).toNat = 0 from rfl, Nat.pow_zero, Nat.mul_one, Nat.mul_one]
theorem ref_mul (d : Int) (ng neg : Bool) (x D a b P K : Nat) (hK : K = 1074) (hD : D ≠ 0) (hF : FracOf x D 0 a b) (hg : x ≠ 0 → ng = neg) (hx : x * 2 ^ (K + K) = P * D) : refW 53 1074 2098 9218868437227405311 0 d ng a b = mulW d neg P := by
  have h := refW_fin d ng neg x D a b 0 hF hg K hK
  rw [← hK, h]
  unfold mulW
  have hp := Nat.two_pow_pos (K + K)
  by_cases c : x = 0
  · have h0 : P = 0 := by
      rw [c, Nat.zero_mul] at hx
      rcases Nat.mul_eq_zero.1 hx.symm with h1 | h1
      · exact h1
      · exact absurd h1 hD
    rw [if_pos c, if_pos h0]
  · have h0 : P ≠ 0 := fun h1 => by
      rw [h1, Nat.zero_mul] at hx
      rcases Nat.mul_eq_zero.1 hx with h2 | h2 <;> omega
    rw [if_neg c, if_neg h0]
    have e : rV (dirN neg d) 53 x D (0 + 1074) = rV (dirN neg d) 53 P 1 (-1074) := by
      rw [← rV_ratio _ _ (x * 2 ^ (K + K)) D P 1 _ (by omega) (by decide) (by rw [Nat.mul_one]; exact hx), rV_up _ _ _ _ _ _ (by omega)]
      congr 1
      omega
    rw [e]
theorem sgn_v (n n' : Bool) (m m' K : Nat) (V : Int) (hV : V * ((2 ^ K : Nat) : Int) = Iv n m * Iv n' m') (hv : V ≠ 0) : (n ^^ n') = decide (V < 0) := by
  have hp : (0 : Int) < ((2 ^ K : Nat) : Int) := by have := Nat.two_pow_pos K; omega
  obtain ⟨q, hq⟩ : ∃ q : Int, q = ((2 ^ K : Nat) : Int) := ⟨_, rfl⟩
  rw [← hq] at hV hp
  have hz : V * q ≠ 0 := fun h => by rcases Int.mul_eq_zero.1 h with h | h <;> omega
  have hs : V < 0 ↔ V * q < 0 := by
    constructor
    · intro h; exact Int.mul_neg_of_neg_of_pos h hp
    · intro h
      rcases Int.lt_or_le V 0 with c | c
      · exact c
      · have := Int.mul_nonneg c (Int.le_of_lt hp); omega
  obtain ⟨x, hx⟩ : ∃ x : Int, x = ((Fq.vV Ieee.double m : Nat) : Int) := ⟨_, rfl⟩
  obtain ⟨y, hy⟩ : ∃ y : Int, y = ((Fq.vV Ieee.double m' : Nat) : Int) := ⟨_, rfl⟩
  have hxy : 0 ≤ x * y := Int.mul_nonneg (by omega) (by omega)
  unfold Iv at hV
  rw [← hx, ← hy] at hV
  cases n <;> cases n' <;> simp only [if_true, if_false, Bool.false_eq_true, Int.neg_mul, Int.mul_neg, Int.neg_neg] at hV <;> by_cases c : V < 0 <;> simp [c] <;> omega
theorem abs_v (n n' : Bool) (m m' K : Nat) (V : Int) (hV : V * ((2 ^ K : Nat) : Int) = Iv n m * Iv n' m') : V.natAbs * 2 ^ K = Fq.vV Ieee.double m * Fq.vV Ieee.double m' := by
  have h1 := congrArg Int.natAbs hV
  rw [Int.natAbs_mul, Int.natAbs_mul, Int.natAbs_natCast, iv_abs, iv_abs] at h1
  exact h1
theorem vV_zero (m : Nat) : Fq.vV Ieee.double m = 0 ↔ m = 0 := by
  unfold Fq.vV Fq.mM Fq.eE
  rw [Fq.binD]
  have := Nat.two_pow_pos (if m < 4503599627370496 then 0 else m / 4503599627370496 - 1)
  constructor
  · intro h
    rcases Nat.mul_eq_zero.1 h with h | h
    · split at h <;> omega
    · omega
  · intro h; subst h; simp
theorem Nr.mag {v s : Int} {T : Nat} (h : Nr v s T) (h1 : T ≠ 1) : 4503599627370496 * T ≤ s.natAbs := by
  have hl := h.low.resolve_left h1
  have hn := h.near
  have hp := h.pos
  obtain ⟨k, hk⟩ := h.dvd
  have e : s.natAbs = T * k.natAbs := by rw [hk, Int.natAbs_mul, Int.natAbs_natCast]
  rw [e]
  rcases Nat.lt_or_ge k.natAbs 4503599627370496 with c | c
  · exfalso
    have h5 : T * k.natAbs ≤ T * 4503599627370495 := Nat.mul_le_mul_left T (by omega)
    omega
  · have h5 := Nat.mul_le_mul_left T c
    omega
set_option maxRecDepth 20000 in
set_option maxHeartbeats 400000 in
theorem timesR (v1 v2 : Value) (a b : Nat) (w : World) (h1 : Ls w v1 (dig a)) (h2 : Ls w v2 (dig b)) (l1 : len32 a ≤ 16384) (l2 : len32 b ≤ 16384) :
    Calls Tryz.prog 70 #[v1, v2] w fun e w' => ∃ p c, e = .returned (.slice p (dig (a * b)).length c) ∧ Arr w' p (dig (a * b)) ∧ (dig (a * b)).length ≤ c ∧ Kp w w' := by
  obtain ⟨p, c, rfl, hA, hc⟩ := h1
  obtain ⟨q, d, rfl, hB, hd⟩ := h2
  have h := rtimes_ p q c d (dig a) (dig b) w hA hB (Wd_dig a) (Wd_dig b) (by change len32 a ≤ _; omega) (by change len32 b ≤ _; omega)
  rw [val_dig, val_dig] at h
  refine h.mono ?_
  rintro e w' ⟨v, h1, h2, h3⟩
  obtain ⟨p, c, rfl, h4, h5⟩ := h2.arr
  exact ⟨p, c, h1, h4, h5, h3⟩

def rvI (s : Bool) (a : Nat) : Int := if s then -(a : Int) else a
def cmI (x y : Int) : Int := if x < y then -1 else if y < x then 1 else 0
theorem rcmp6_ (s : Bool) (p : Option Addr) (l c : Nat) (q : Option Addr) (k d : Nat) (s2 : Bool) (p2 : Option Addr) (l2 c2 : Nat) (q2 : Option Addr) (k2 d2 : Nat) (a b x y : Nat) (B1 B2 : Nat) (w : World) (h1 : Own w B1 (.slice p l c) (dig a)) (h2 : Own w B1 (.slice q k d) (dig b)) (h3 : Own w B2 (.slice p2 l2 c2) (dig x)) (h4 : Own w B2 (.slice q2 k2 d2) (dig y)) (zb : b ≠ 0) (zy : y ≠ 0) (la : blen a ≤ 200000) (lb : blen b ≤ 200000) (lx : blen x ≤ 200000) (ly : blen y ≤ 200000) : Calls Tryz.prog 71 #[.agg #[.bool s, .slice p l c, .slice q k d], .agg #[.bool s2, .slice p2 l2 c2, .slice q2 k2 d2]] w fun e w' => e = .returned (.int .i64 (cmI (rvI s a * y) (rvI s2 x * b))) ∧ Kp w w' := by
  have hs1 : ∀ W : World, Kp w W → Calls Tryz.prog 59 #[.agg #[.bool s, .slice p l c, .slice q k d]] W fun e w' => e = .returned (.int .i64 (if a = 0 then 0 else if s then -1 else 1)) ∧ Kp W w' := fun W g => rsign_ s _ _ a W (h1.kp g).ls (by omega)
  have hs2 : ∀ W : World, Kp w W → Calls Tryz.prog 59 #[.agg #[.bool s2, .slice p2 l2 c2, .slice q2 k2 d2]] W fun e w' => e = .returned (.int .i64 (if x = 0 then 0 else if s2 then -1 else 1)) ∧ Kp W w' := fun W g => rsign_ s2 _ _ x W (h3.kp g).ls (by omega)
  have len : ∀ z : Nat, blen z ≤ 200000 → len32 z ≤ 16384 := fun z hz => dlen z 16384 (by omega)
  have hT1 : ∀ W : World, Kp w W → Calls Tryz.prog 70 #[.slice p l c, .slice q2 k2 d2] W fun e w' => ∃ v, e = .returned v ∧ Ls w' v (dig (a * y)) ∧ Kp W w' := fun W g => (timesR _ _ a y W (h1.kp g).ls (h4.kp g).ls (len a la) (len y ly)).mono (fun e w' ⟨pp, cc, e1, ar, ll, g2⟩ => ⟨_, e1, ⟨pp, cc, rfl, ar, ll⟩, g2⟩)
  have hT2 : ∀ W : World, Kp w W → Calls Tryz.prog 70 #[.slice p2 l2 c2, .slice q k d] W fun e w' => ∃ v, e = .returned v ∧ Ls w' v (dig (x * b)) ∧ Kp W w' := fun W g => (timesR _ _ x b W (h3.kp g).ls (h2.kp g).ls (len x lx) (len b lb)).mono (fun e w' ⟨pp, cc, e1, ar, ll, g2⟩ => ⟨_, e1, ⟨pp, cc, rfl, ar, ll⟩, g2⟩)
  have bl : ∀ u v : Nat, blen u ≤ 200000 → blen v ≤ 200000 → blen (u * v) ≤ 33554432 := fun u v h1 h2 => by
    obtain ⟨T5, hT5⟩ : ∃ T5 : Nat, T5 = 200000 := ⟨_, rfl⟩
    have g : blen (u * v) ≤ T5 + T5 := by
      rw [blen_le_iff, Nat.pow_add]
      exact Nat.mul_lt_mul'' ((blen_le_iff u T5).1 (by omega)) ((blen_le_iff v T5).1 (by omega))
    omega
  have hC : ∀ (W : World) (u v : Value), Kp w W → Ls W u (dig (a * y)) → Ls W v (dig (x * b)) → Calls Tryz.prog 61 #[u, v] W fun e w' => e = .returned (.int .i64 (cmpN (a * y) (x * b))) ∧ Kp W w' := fun W u v _ g1 g2 => cmpR u v (a * y) (x * b) W g1 g2 (bl a y la ly) (bl x b lx lb)
  have hk : ∀ (W W' : World) (v : Value), Kp W W' → Ls W v (dig (a * y)) → Ls W' v (dig (a * y)) := fun W W' v g h => h.kp g
  have py : 0 < y := by omega
  have pb : 0 < b := by omega
  have key : ∀ u v : Nat, 0 < v → 0 < u → 0 < u * v := fun u v h1 h2 => Nat.mul_pos h2 h1
  obtain ⟨A9, hA9⟩ : ∃ A9, A9 = a * y := ⟨_, rfl⟩
  obtain ⟨X9, hX9⟩ : ∃ X9, X9 = x * b := ⟨_, rfl⟩
  have eA : rvI s a * (y : Int) = rvI s A9 := by unfold rvI; rw [hA9]; cases s <;> simp [Int.neg_mul]
  have eX : rvI s2 x * (b : Int) = rvI s2 X9 := by unfold rvI; rw [hX9]; cases s2 <;> simp [Int.neg_mul]
  have zA : a = 0 ↔ A9 = 0 := by rw [hA9]; constructor <;> intro h; rw [h]; simp; rcases Nat.mul_eq_zero.1 h with h | h; exact h; omega
  have zX : x = 0 ↔ X9 = 0 := by rw [hX9]; constructor <;> intro h; rw [h]; simp; rcases Nat.mul_eq_zero.1 h with h | h; exact h; omega
  rw [eA, eX]
  rw [← hA9] at hT1 hC hk
  rw [← hX9] at hT2 hC
  simp only [zA] at hs1
  simp only [zX] at hs2
  obtain ⟨S, hS⟩ : ∃ S : Int, S = if A9 = 0 then 0 else if s then -1 else 1 := ⟨_, rfl⟩
  obtain ⟨U, hU⟩ : ∃ U : Int, U = if X9 = 0 then 0 else if s2 then -1 else 1 := ⟨_, rfl⟩
  rw [← hS] at hs1
  rw [← hU] at hs2
  have hcm : cmpN A9 X9 = cmI (A9 : Int) X9 := by
    unfold cmpN cmI
    by_cases c1 : A9 < X9
    · rw [if_pos c1, if_pos (show (A9 : Int) < X9 by omega)]
    · rw [if_neg c1, if_neg (show ¬ (A9 : Int) < X9 by omega)]
      by_cases c2 : X9 < A9
      · rw [if_pos c2, if_pos (show (X9 : Int) < A9 by omega)]
      · rw [if_neg c2, if_neg (show ¬ (X9 : Int) < A9 by omega)]
  clear eA eX zA zX hA9 hX9 h1 h2 h3 h4
  have e1 : S < U → cmI (rvI s A9) (rvI s2 X9) = -1 := fun g => by
    rw [hS, hU] at g
    unfold cmI rvI
    rw [if_pos]
    by_cases c1 : A9 = 0 <;> by_cases c2 : X9 = 0 <;> cases s <;> cases s2 <;> simp [c1, c2] at g ⊢ <;> omega
  have e2 : U < S → cmI (rvI s A9) (rvI s2 X9) = 1 := fun g => by
    rw [hS, hU] at g
    have : rvI s2 X9 < rvI s A9 := by
      unfold rvI
      by_cases c1 : A9 = 0 <;> by_cases c2 : X9 = 0 <;> cases s <;> cases s2 <;> simp [c1, c2] at g ⊢ <;> omega
    unfold cmI
    rw [if_neg (by omega), if_pos this]
  rcases Int.lt_trichotomy S U with g | g | g
  · rw [e1 g]
    exact rcmpL_ S U s p l c q k d s2 p2 l2 c2 q2 k2 d2 w hs1 hs2 g
  · rw [← g] at hs2
    by_cases z : A9 = 0
    · have zU : X9 = 0 := by
        rw [hS, hU, if_pos z] at g
        by_cases c2 : X9 = 0
        · exact c2
        · rw [if_neg c2] at g; cases s2 <;> simp at g
      have e3 : cmI (rvI s A9) (rvI s2 X9) = 0 := by rw [z, zU]; cases s <;> cases s2 <;> rfl
      rw [e3]
      exact rcmpZ_ S _ _ _ s p l c q k d s2 p2 l2 c2 q2 k2 d2 w hk hs1 hs2 hT1 hT2 hC (by rw [hS, if_pos z]; rfl)
    · have zS : (S == 0) = false := by rw [hS, if_neg z]; cases s <;> rfl
      have ss : s = s2 := by
        rw [hS, hU, if_neg z] at g
        by_cases c2 : X9 = 0
        · rw [if_pos c2] at g; cases s <;> simp at g
        · rw [if_neg c2] at g; cases s <;> cases s2 <;> simp at g ⊢
      subst ss
      cases s
      · have e3 : cmI (rvI false A9) (rvI false X9) = cmpN A9 X9 := hcm.symm
        rw [e3]
        exact rcmpP_ S _ _ _ p l c q k d false p2 l2 c2 q2 k2 d2 w hk hs1 hs2 hT1 hT2 hC zS
      · have e3 : cmI (rvI true A9) (rvI true X9) = - cmpN A9 X9 := by
          rw [hcm]; unfold cmI rvI
          by_cases c1 : A9 < X9
          · rw [if_neg (by simp; omega), if_pos (by simp; omega), if_pos (by omega)]; rfl
          · by_cases c2 : X9 < A9
            · rw [if_pos (by simp; omega), if_neg (by omega), if_pos (by omega)]
            · rw [if_neg (by simp; omega), if_neg (by simp; omega), if_neg (by omega), if_neg (by omega)]; rfl
        have wr : IntKind.i64.wrap (-(cmpN A9 X9)) = -(cmpN A9 X9) := by
          rw [hcm]; unfold cmI
          by_cases c1 : (A9 : Int) < X9
          · rw [if_pos c1]; decide +kernel
          · rw [if_neg c1]
            by_cases c2 : (X9 : Int) < A9
            · rw [if_pos c2]; decide +kernel
            · rw [if_neg c2]; decide +kernel
        rw [e3]
        exact rcmpN_ S _ _ _ p l c q k d true p2 l2 c2 q2 k2 d2 w hk hs1 hs2 hT1 hT2 hC zS wr
  · rw [e2 g]
    exact rcmpG_ S U s p l c q k d s2 p2 l2 c2 q2 k2 d2 w hs1 hs2 g
end Go.Proofs.YtmgfbalhgfkibaaGreatDoor
