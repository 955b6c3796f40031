import Derived.Test.YtbbmoaiilnfmgaaKET
import Derived.Test.YtbbmoaiilnfmgaaKS6O
namespace Go.Proofs.Ytbbmoaiilnfmgaa
open Go.RowKit

set_option linter.unusedVariables false
theorem RP.nought {base : Nat} {w : World} {s : Bool} {p : Option Addr} {l c : Nat} {q : Option Addr} {k d : Nat} {n : Bool} (h : RP base w s p l c q k d n 0) (n' : Bool) : RP base w s p l c q k d n' 0 := by
  obtain ⟨a, b, h1, h2, h3⟩ := h
  refine ⟨a, b, h1, h2, fun K hK => ?_⟩
  obtain ⟨f1, f2, f3, f4, f5⟩ := h3 K hK
  exact ⟨f1, f2, by rw [← f3]; unfold Iv; rw [Fq.vV_zero]; cases n <;> cases n' <;> rfl, f4, f5⟩
theorem cmI_scale (x y k : Int) (hk : 0 < k) : cmI (x * k) (y * k) = cmI x y := by
  unfold cmI
  have e1 : x * k < y * k ↔ x < y := ⟨fun h => Int.lt_of_mul_lt_mul_right h (Int.le_of_lt hk), fun h => Int.mul_lt_mul_of_pos_right h hk⟩
  have e2 : y * k < x * k ↔ y < x := ⟨fun h => Int.lt_of_mul_lt_mul_right h (Int.le_of_lt hk), fun h => Int.mul_lt_mul_of_pos_right h hk⟩
  simp only [e1, e2]
theorem frac_ratio (x D a b : Nat) (hD : D ≠ 0) (hF : FracOf x D 0 a b) : a * D = x * b := by
  have hb := hF.1
  by_cases c0 : x = 0
  · rw [hF.2.1.2 c0, c0, Nat.zero_mul, Nat.zero_mul]
  · have hfl : ∀ t : Nat, a * 2 ^ t / b = x * 2 ^ t / D := fun t => by
      have h := hF.2.2.1 (-1) (blen (a * 2 ^ t / b) + blen (x * 2 ^ t / D)) (t : Int) c0
      unfold rV at h
      rw [show ((t : Int)).toNat = t from by omega, show (-(t : Int)).toNat = 0 from by omega, show ((t : Int) + 0).toNat = t from by omega, show (-((t : Int) + 0)).toNat = 0 from by omega, Nat.pow_zero, Nat.mul_one, Nat.mul_one, rU_floor _ _ _ (by omega), rU_floor _ _ _ (by omega)] at h
      exact h
    obtain ⟨t, ht⟩ : ∃ t, b * D < 2 ^ t := ⟨b * D, Nat.lt_two_pow_self⟩
    have h := hfl t
    obtain ⟨f, hf⟩ : ∃ f, f = a * 2 ^ t / b := ⟨_, rfl⟩
    have f1 : f * b ≤ a * 2 ^ t := by rw [hf]; exact Nat.div_mul_le_self _ _
    have f2 : a * 2 ^ t < (f + 1) * b := by rw [hf]; exact Nat.lt_mul_of_div_lt (Nat.lt_succ_self _) (by omega)
    have f3 : f * D ≤ x * 2 ^ t := by rw [hf, h]; exact Nat.div_mul_le_self _ _
    have f4 : x * 2 ^ t < (f + 1) * D := by rw [hf, h]; exact Nat.lt_mul_of_div_lt (Nat.lt_succ_self _) (by omega)
    have g1 := Nat.mul_le_mul_right D f1
    have g2 := Nat.mul_lt_mul_of_pos_right f2 (show 0 < D by omega)
    have g3 := Nat.mul_le_mul_right b f3
    have g4 := Nat.mul_lt_mul_of_pos_right f4 (show 0 < b by omega)
    rw [show f * b * D = f * (b * D) from Nat.mul_assoc _ _ _, show a * 2 ^ t * D = a * D * 2 ^ t from Nat.mul_right_comm _ _ _] at g1
    rw [show (f + 1) * b * D = f * (b * D) + b * D from by rw [Nat.mul_assoc, Nat.add_mul, Nat.one_mul], show a * 2 ^ t * D = a * D * 2 ^ t from Nat.mul_right_comm _ _ _] at g2
    rw [show f * D * b = f * (b * D) from by rw [Nat.mul_assoc, Nat.mul_comm D b], show x * 2 ^ t * b = x * b * 2 ^ t from Nat.mul_right_comm _ _ _] at g3
    rw [show (f + 1) * D * b = f * (b * D) + b * D from by rw [Nat.mul_assoc, Nat.mul_comm D b, Nat.add_mul, Nat.one_mul], show x * 2 ^ t * b = x * b * 2 ^ t from Nat.mul_right_comm _ _ _] at g4
    rcases Nat.lt_trichotomy (a * D) (x * b) with c | c | c
    · exfalso
      have h5 := Nat.mul_le_mul_right (2 ^ t) (show a * D + 1 ≤ x * b from c)
      rw [Nat.add_mul, Nat.one_mul] at h5
      omega
    · exact c
    · exfalso
      have h5 := Nat.mul_le_mul_right (2 ^ t) (show x * b + 1 ≤ a * D from c)
      rw [Nat.add_mul, Nat.one_mul] at h5
      omega

set_option linter.unusedVariables false
def XF (s : Bool) (a b : Nat) (V : Int) (C N : Nat) : Prop := b ≠ 0 ∧ C ≠ 0 ∧ rvI s a * (C : Int) = V * (b : Int) ∧ blen a ≤ N ∧ blen b ≤ N
def XP (base : Nat) (w : World) (s : Bool) (p : Option Addr) (l c : Nat) (q : Option Addr) (k d : Nat) (V : Int) (C N : Nat) : Prop := ∃ a b, Own w base (.slice p l c) (dig a) ∧ Own w base (.slice q k d) (dig b) ∧ XF s a b V C N
theorem XP.kp {base : Nat} {w : World} {s : Bool} {p : Option Addr} {l c : Nat} {q : Option Addr} {k d : Nat} {V : Int} {C N : Nat} {w' : World} (h : XP base w s p l c q k d V C N) (g : Kp w w') : XP base w' s p l c q k d V C N := by
  obtain ⟨a, b, h1, h2, h3⟩ := h
  exact ⟨a, b, h1.kp g, h2.kp g, h3⟩
theorem XP.mono {base : Nat} {w : World} {s : Bool} {p : Option Addr} {l c : Nat} {q : Option Addr} {k d : Nat} {V : Int} {C N : Nat} {base' : Nat} (h : XP base w s p l c q k d V C N) (g : base' ≤ base) : XP base' w s p l c q k d V C N := by
  obtain ⟨a, b, h1, h2, h3⟩ := h
  exact ⟨a, b, h1.mono g, h2.mono g, h3⟩
theorem XP.set {base : Nat} {w : World} {s : Bool} {p : Option Addr} {l c : Nat} {q : Option Addr} {k d : Nat} {V : Int} {C N : Nat} (h : XP base w s p l c q k d V C N) {x : Addr} (hx : x.block < base) (u : Value) : XP base (w.setCell x u) s p l c q k d V C N := by
  obtain ⟨a, b, h1, h2, h3⟩ := h
  exact ⟨a, b, h1.setOther hx u, h2.setOther hx u, h3⟩
theorem XP.as {base : Nat} {w : World} {s : Bool} {p : Option Addr} {l c : Nat} {q : Option Addr} {k d : Nat} {V : Int} {C N : Nat} (h : XP base w s p l c q k d V C N) (V2 : Int) (C2 N2 : Nat) (hc : C2 ≠ 0) (e : V * (C2 : Int) = V2 * (C : Int)) (hN : N ≤ N2) : XP base w s p l c q k d V2 C2 N2 := by
  obtain ⟨a, b, h1, h2, f1, f2, f3, f4, f5⟩ := h
  refine ⟨a, b, h1, h2, f1, hc, ?_, by omega, by omega⟩
  refine Int.eq_of_mul_eq_mul_right (show (C : Int) ≠ 0 by omega) ?_
  have e1 : rvI s a * (C2 : Int) * (C : Int) = rvI s a * (C : Int) * (C2 : Int) := by ac_rfl
  have e2 : V2 * (b : Int) * (C : Int) = V2 * (C : Int) * (b : Int) := by ac_rfl
  rw [e1, f3, e2, ← e]; ac_rfl
theorem RP.xp {base : Nat} {w : World} {s : Bool} {p : Option Addr} {l c : Nat} {q : Option Addr} {k d : Nat} {n : Bool} {m : Nat} (h : RP base w s p l c q k d n m) (K : Nat) (hK : K = 1074) : XP base w s p l c q k d (Iv n m) (2 ^ K) 1500 := by
  obtain ⟨a, b, h1, h2, h3⟩ := h
  obtain ⟨f1, f2, f3, f4, f5⟩ := h3 K hK
  refine ⟨a, b, h1, h2, f1, by have := Nat.two_pow_pos K; omega, ?_, f4, f5⟩
  have e : (a : Int) * ((2 ^ K : Nat) : Int) = ((Fq.vV Ieee.double m : Nat) : Int) * (b : Int) := by rw [← Int.natCast_mul, f2, Int.natCast_mul]
  rw [f3]; unfold rvI
  cases s
  · rw [if_neg (by decide), if_neg (by decide)]; exact e
  · rw [if_pos rfl, if_pos rfl, Int.neg_mul, e, Int.neg_mul]
theorem rvI_mul (s : Bool) (a b : Nat) : rvI s (a * b) = rvI s a * (b : Int) := by
  unfold rvI; cases s
  · rw [if_neg (by decide), if_neg (by decide), Int.natCast_mul]
  · rw [if_pos rfl, if_pos rfl, Int.natCast_mul, Int.neg_mul]
theorem frac_x (x D a' b' : Nat) (ng neg : Bool) (hD : D ≠ 0) (hF : FracOf x D 0 a' b') (hn : x ≠ 0 → ng = neg) : rvI ng a' * (D : Int) = rvI neg x * (b' : Int) := by
  have h := frac_ratio x D a' b' hD hF
  by_cases z : x = 0
  · have z' := hF.2.1.2 z
    rw [z, z']; unfold rvI; simp
  · rw [hn z, ← rvI_mul, ← rvI_mul, h]
theorem blen_mulX (u v N1 N2 : Nat) (h1 : blen u ≤ N1) (h2 : blen v ≤ N2) : blen (u * v) ≤ N1 + N2 := by
  rw [blen_le_iff, Nat.pow_add]
  exact Nat.mul_lt_mul'' ((blen_le_iff u N1).1 h1) ((blen_le_iff v N2).1 h2)
theorem xcmp_ (B1 B2 : Nat) (V V' : Int) (C C' N N' : Nat) (hN : N ≤ 200000) (hN' : N' ≤ 200000) (s : Bool) (p : Option Addr) (l c : Nat) (q : Option Addr) (k d : Nat) (s2 : Bool) (p2 : Option Addr) (l2 c2 : Nat) (q2 : Option Addr) (k2 d2 : Nat) (w : World) (h1 : XP B1 w s p l c q k d V C N) (h2 : XP B2 w s2 p2 l2 c2 q2 k2 d2 V' C' N') : Calls Try.prog 49 #[.agg #[.bool s, .slice p l c, .slice q k d], .agg #[.bool s2, .slice p2 l2 c2, .slice q2 k2 d2]] w fun e w' => e = .returned (.int .i64 (cmI (V * (C' : Int)) (V' * (C : Int)))) ∧ Kp w w' := by
  obtain ⟨a, b, o1, o2, zb, zc, i1, j1, j2⟩ := h1
  obtain ⟨x, y, o3, o4, zy, zc', i2, j3, j4⟩ := h2
  have h := rcmp6_ s p l c q k d s2 p2 l2 c2 q2 k2 d2 a b x y B1 B2 w o1 o2 o3 o4 zb zy (by omega) (by omega) (by omega) (by omega)
  have e : cmI (rvI s a * (y : Int)) (rvI s2 x * (b : Int)) = cmI (V * (C' : Int)) (V' * (C : Int)) := by
    have pk : (0 : Int) < (C : Int) * (C' : Int) := Int.mul_pos (by omega) (by omega)
    have pb : (0 : Int) < (b : Int) * (y : Int) := Int.mul_pos (by omega) (by omega)
    rw [← cmI_scale _ _ _ pk, ← cmI_scale (V * (C' : Int)) (V' * (C : Int)) _ pb]
    have e1 : rvI s a * (y : Int) * ((C : Int) * (C' : Int)) = rvI s a * (C : Int) * ((y : Int) * (C' : Int)) := by ac_rfl
    have e2 : rvI s2 x * (b : Int) * ((C : Int) * (C' : Int)) = rvI s2 x * (C' : Int) * ((b : Int) * (C : Int)) := by ac_rfl
    rw [e1, e2, i1, i2]
    have e3 : V * (b : Int) * ((y : Int) * (C' : Int)) = V * (C' : Int) * ((b : Int) * (y : Int)) := by ac_rfl
    have e4 : V' * (y : Int) * ((b : Int) * (C : Int)) = V' * (C : Int) * ((b : Int) * (y : Int)) := by ac_rfl
    rw [e3, e4]
  rw [e] at h
  exact h
theorem XF.add (s s' ng : Bool) (a1 a2 b1 b2 a' b' : Nat) (V V' : Int) (C C' N N' M : Nat) (h1 : XF s a1 a2 V C N) (h2 : XF s' b1 b2 V' C' N') (hb : b' ≠ 0) (h : rvI ng a' * ((a2 : Int) * (b2 : Int)) = (rvI s a1 * (b2 : Int) + rvI s' b1 * (a2 : Int)) * (b' : Int)) (m1 : blen a' ≤ M) (m2 : blen b' ≤ M) : XF ng a' b' (V * (C' : Int) + V' * (C : Int)) (C * C') M := by
  obtain ⟨za, zc, i1, -, -⟩ := h1
  obtain ⟨zb, zc', i2, -, -⟩ := h2
  refine ⟨hb, Nat.mul_ne_zero zc zc', ?_, m1, m2⟩
  have pn : (a2 : Int) * (b2 : Int) ≠ 0 := by have : (0 : Int) < (a2 : Int) * (b2 : Int) := Int.mul_pos (by omega) (by omega); omega
  refine Int.eq_of_mul_eq_mul_right pn ?_
  rw [Int.natCast_mul]
  have e1 : rvI ng a' * ((C : Int) * (C' : Int)) * ((a2 : Int) * (b2 : Int)) = rvI ng a' * ((a2 : Int) * (b2 : Int)) * ((C : Int) * (C' : Int)) := by ac_rfl
  rw [e1, h]
  simp only [Int.add_mul]
  have e2 : rvI s a1 * (b2 : Int) * (b' : Int) * ((C : Int) * (C' : Int)) = rvI s a1 * (C : Int) * ((b2 : Int) * (b' : Int) * (C' : Int)) := by ac_rfl
  have e3 : rvI s' b1 * (a2 : Int) * (b' : Int) * ((C : Int) * (C' : Int)) = rvI s' b1 * (C' : Int) * ((a2 : Int) * (b' : Int) * (C : Int)) := by ac_rfl
  rw [e2, e3, i1, i2]
  have e4 : V * (a2 : Int) * ((b2 : Int) * (b' : Int) * (C' : Int)) = V * (C' : Int) * (b' : Int) * ((a2 : Int) * (b2 : Int)) := by ac_rfl
  have e5 : V' * (b2 : Int) * ((a2 : Int) * (b' : Int) * (C : Int)) = V' * (C : Int) * (b' : Int) * ((a2 : Int) * (b2 : Int)) := by ac_rfl
  rw [e4, e5]
set_option maxRecDepth 20000 in
set_option maxHeartbeats 400000 in
theorem raddX_ (sa sb : Bool) (a1 a2 b1 b2 : Nat) (P1 P2 Q1 Q2 : Option Addr) (C1 C2 D1 D2 : Nat) (w : World) (h1 : Arr w P1 (dig a1)) (l1 : (dig a1).length ≤ C1) (h2 : Arr w P2 (dig a2)) (l2 : (dig a2).length ≤ C2) (h3 : Arr w Q1 (dig b1)) (l3 : (dig b1).length ≤ D1) (h4 : Arr w Q2 (dig b2)) (l4 : (dig b2).length ≤ D2) (N1 N2 : Nat) (hN : N1 + N2 ≤ 100000) (ba1 : blen a1 ≤ N1) (ba2 : blen a2 ≤ N1) (bb1 : blen b1 ≤ N2) (bb2 : blen b2 ≤ N2) (za : a2 ≠ 0) (zb : b2 ≠ 0) : Calls Try.prog 54 #[.agg #[.bool sa, .slice P1 (dig a1).length C1, .slice P2 (dig a2).length C2], .agg #[.bool sb, .slice Q1 (dig b1).length D1, .slice Q2 (dig b2).length D2]] w fun e w' => ∃ (vn vd : Value) (a' b' : Nat) (ng : Bool), e = .returned (.agg #[.bool ng, vn, vd]) ∧ Own w' w.heap.size vn (dig a') ∧ Own w' w.heap.size vd (dig b') ∧ (rvI ng a' * ((a2 : Int) * (b2 : Int)) = (rvI sa a1 * (b2 : Int) + rvI sb b1 * (a2 : Int)) * (b' : Int) ∧ b' ≠ 0 ∧ blen a' ≤ 2 * (N1 + N2) + 3 ∧ blen b' ≤ 2 * (N1 + N2) + 3) ∧ Kp w w' := by
  obtain ⟨X, hX⟩ : ∃ X, X = a1 * b2 := ⟨_, rfl⟩
  obtain ⟨Y, hY⟩ : ∃ Y, Y = b1 * a2 := ⟨_, rfl⟩
  obtain ⟨D, hD⟩ : ∃ D, D = a2 * b2 := ⟨_, rfl⟩
  have hzD : D ≠ 0 := by rw [hD]; exact Nat.mul_ne_zero za zb
  have bX : blen X ≤ N1 + N2 := by rw [hX]; exact blen_mulX _ _ _ _ ba1 bb2
  have bY : blen Y ≤ N1 + N2 := by rw [hY, Nat.add_comm]; exact blen_mulX _ _ _ _ bb1 ba2
  have bD : blen D ≤ N1 + N2 := by rw [hD]; exact blen_mulX _ _ _ _ ba2 bb2
  obtain ⟨T9, hT9⟩ : ∃ T9 : Nat, T9 = N1 + N2 := ⟨_, rfl⟩
  have bS : ∀ c, c ≤ X + Y → blen c ≤ T9 + 1 := fun c hc => by
    have g1 := (blen_le_iff X T9).1 (by omega)
    have g2 := (blen_le_iff Y T9).1 (by omega)
    rw [blen_le_iff, Nat.pow_succ]; omega
  have lX : len32 X ≤ 16000 := dlen X 16000 (by omega)
  have lY : len32 Y ≤ 16000 := dlen Y 16000 (by omega)
  have lD : len32 D ≤ 16000 := dlen D 16000 (by omega)
  have lS : len32 (X + Y) ≤ 16000 := dlen (X + Y) 16000 (by have := bS (X + Y) (Nat.le_refl _); omega)
  have k1 : len32 a1 ≤ 4000 := dlen a1 4000 (by omega)
  have k2 : len32 a2 ≤ 4000 := dlen a2 4000 (by omega)
  have k3 : len32 b1 ≤ 4000 := dlen b1 4000 (by omega)
  have k4 : len32 b2 ≤ 4000 := dlen b2 4000 (by omega)
  have eX : rvI sa a1 * (b2 : Int) = rvI sa X := by rw [hX, rvI_mul]
  have eY : rvI sb b1 * (a2 : Int) = rvI sb Y := by rw [hY, rvI_mul]
  have eD : (a2 : Int) * (b2 : Int) = (D : Int) := by rw [hD, Int.natCast_mul]
  rw [eX, eY, eD]
  have fin : ∀ (x : Nat) (neg : Bool) (a' b' : Nat) (ng : Bool), x ≤ X + Y → rvI neg x = rvI sa X + rvI sb Y → (FracOf x D 0 a' b' ∧ (x ≠ 0 → ng = neg)) → (rvI ng a' * (D : Int) = (rvI sa X + rvI sb Y) * (b' : Int) ∧ b' ≠ 0 ∧ blen a' ≤ 2 * (N1 + N2) + 3 ∧ blen b' ≤ 2 * (N1 + N2) + 3) := fun x neg a' b' ng hx hv hF => by
    refine ⟨by rw [← hv]; exact frac_x x D a' b' ng neg hzD hF.1 hF.2, hF.1.1, ?_, ?_⟩
    · have g1 := hF.1.2.2.2.1; have g2 := bS x hx; simp at g1; omega
    · have g1 := hF.1.2.2.2.2; simp at g1; omega
  by_cases c1 : sa = sb
  · refine (raddEqO_ sa sb a1 a2 b1 b2 P1 P2 Q1 Q2 C1 C2 D1 D2 w h1 l1 h2 l2 h3 l3 h4 l4 k1 k2 k3 k4 za zb X Y D hX hY hD lX lY lD lS c1).mono ?_
    rintro e w' ⟨vn, vd, a', b', ng, he, q1, q2, q3, q4⟩
    refine ⟨vn, vd, a', b', ng, he, q1, q2, fin (X + Y) sa a' b' ng (Nat.le_refl _) ?_ q3, q4⟩
    rw [← c1]; unfold rvI; cases sa <;> simp <;> omega
  · by_cases c2 : Y ≤ X
    · refine (raddGeO_ sa sb a1 a2 b1 b2 P1 P2 Q1 Q2 C1 C2 D1 D2 w h1 l1 h2 l2 h3 l3 h4 l4 k1 k2 k3 k4 za zb X Y D hX hY hD lX lY lD lS c1 c2).mono ?_
      rintro e w' ⟨vn, vd, a', b', ng, he, q1, q2, q3, q4⟩
      refine ⟨vn, vd, a', b', ng, he, q1, q2, fin (X - Y) sa a' b' ng (by omega) ?_ q3, q4⟩
      unfold rvI; cases sa <;> cases sb <;> simp at c1 ⊢ <;> omega
    · refine (raddLtO_ sa sb a1 a2 b1 b2 P1 P2 Q1 Q2 C1 C2 D1 D2 w h1 l1 h2 l2 h3 l3 h4 l4 k1 k2 k3 k4 za zb X Y D hX hY hD lX lY lD lS c1 (by omega)).mono ?_
      rintro e w' ⟨vn, vd, a', b', ng, he, q1, q2, q3, q4⟩
      refine ⟨vn, vd, a', b', ng, he, q1, q2, fin (Y - X) sb a' b' ng (by omega) ?_ q3, q4⟩
      unfold rvI; cases sa <;> cases sb <;> simp at c1 ⊢ <;> omega
theorem xadd_ (V : Int) (V' : Int) (C C' N N' : Nat) (hN : N + N' ≤ 100000) (s : Bool) (p : Option Addr) (l c : Nat) (q : Option Addr) (k d : Nat) (s2 : Bool) (p2 : Option Addr) (l2 c2 : Nat) (q2 : Option Addr) (k2 d2 : Nat) (B1 B2 : Nat) (w : World) (h1 : XP B1 w s p l c q k d V C N) (h2 : XP B2 w s2 p2 l2 c2 q2 k2 d2 (V') C' N') : Calls Try.prog 54 #[.agg #[.bool s, .slice p l c, .slice q k d], .agg #[.bool s2, .slice p2 l2 c2, .slice q2 k2 d2]] w fun e w' => ∃ (s3 : Bool) (p3 : Option Addr) (l3 c3 : Nat) (q3 : Option Addr) (k3 d3 : Nat), e = .returned (.agg #[.bool s3, .slice p3 l3 c3, .slice q3 k3 d3]) ∧ XP w.heap.size w' s3 p3 l3 c3 q3 k3 d3 (V * (C' : Int) + V' * (C : Int)) (C * C') (2 * (N + N') + 3) ∧ Kp w w' := by
  obtain ⟨a1, a2, u1, u2, u3⟩ := h1
  obtain ⟨b1, b2, v1, v2, v3⟩ := h2
  obtain ⟨P1, C1, e1, x1, y1⟩ := u1.arr
  obtain ⟨P2, C2, e2, x2, y2⟩ := u2.arr
  obtain ⟨Q1, D1, e3, x3, y3⟩ := v1.arr
  obtain ⟨Q2, D2, e4, x4, y4⟩ := v2.arr
  rw [e1, e2, e3, e4]
  refine (raddX_ s s2 a1 a2 b1 b2 P1 P2 Q1 Q2 C1 C2 D1 D2 w x1 y1 x2 y2 x3 y3 x4 y4 N N' hN u3.2.2.2.1 u3.2.2.2.2 v3.2.2.2.1 v3.2.2.2.2 u3.1 v3.1).mono ?_
  rintro e w' ⟨vn, vd, a', b', ng, rfl, o1, o2, ⟨f1, f2, f3, f4⟩, g⟩
  obtain ⟨p3, c3, rfl, -, -⟩ := o1.arr
  obtain ⟨q3, d3, rfl, -, -⟩ := o2.arr
  exact ⟨ng, p3, _, c3, q3, _, d3, rfl, ⟨a', b', o1, o2, XF.add s s2 ng a1 a2 b1 b2 a' b' V V' C C' N N' _ u3 v3 f2 f1 f3 f4⟩, g⟩
set_option maxRecDepth 20000 in
set_option maxHeartbeats 1000000 in
theorem int1X_ (w : World) : Calls Try.prog 43 #[.int .i64 1] w fun e w' => ∃ (s : Bool) (p : Option Addr) (l c : Nat) (q : Option Addr) (k d : Nat), e = .returned (.agg #[.bool s, .slice p l c, .slice q k d]) ∧ XP w.heap.size w' s p l c q k d 1 1 1500 ∧ Kp w w' := by
  obtain ⟨B, hB⟩ : ∃ B, B = w.heap.size := ⟨_, rfl⟩
  obtain ⟨w0, hw0⟩ : ∃ w0, w0 = w.alloc (.cells #[.bool false, .slice none 0 0, .slice none 0 0] 38) := ⟨_, rfl⟩
  have kw : Kp w w0 := by rw [hw0]; exact (Kp.refl w).alloc _
  have r0 : w0.cell? ⟨B, 0, none⟩ = some (.bool false) := by rw [hw0, hB]; simp [go_sem]
  have r1 : w0.cell? ⟨B, 1, none⟩ = some (.slice none 0 0) := by rw [hw0, hB]; simp [go_sem]
  have r2 : w0.cell? ⟨B, 2, none⟩ = some (.slice none 0 0) := by rw [hw0, hB]; simp [go_sem]
  have f0 : w0.frozen? ⟨B, 0, none⟩ = false := by rw [hw0, hB]; simp [go_sem]
  have f1 : w0.frozen? ⟨B, 1, none⟩ = false := by rw [hw0, hB]; simp [go_sem]
  have f2 : w0.frozen? ⟨B, 2, none⟩ = false := by rw [hw0, hB]; simp [go_sem]
  have hlt := cell_lt r0
  have hs := rsmall_ 1 (by decide) w0
  have HW : Hid (w0 = w.alloc (.cells #[.bool false, .slice none 0 0, .slice none 0 0] 38) ∧ B = w.heap.size ∧ Kp w w0) := ⟨hw0, hB, kw⟩
  clear hw0 hB kw
  go_enter Try.func43, Try.ntmps43
  go_wp2_with fail
  rw [← HW.out.2.1]
  try rw [← HW.out.1]
  refine hs.mono ?_; rintro e w1 ⟨v, rfl, ho, k1⟩
  obtain ⟨pv, cv, rfl, hav, hcv⟩ := ho.arr
  obtain ⟨L, hL⟩ : ∃ L, L = (dig 1).length := ⟨_, rfl⟩
  rw [← hL]
  obtain ⟨g4, hg4⟩ : ∃ g4, g4 = w1.heap.size := ⟨_, rfl⟩
  obtain ⟨w4, hw4⟩ : ∃ w4, w4 = w1.alloc (.cells #[.int .u32 1] 67) := ⟨_, rfl⟩
  have k4 : Kp w1 w4 := by rw [hw4]; exact (Kp.refl _).alloc _
  have ar4 : Arr w4 (some ⟨g4, 0, none⟩) (dig 1) := by
    have h := (row1 w1 1).all rfl
    rw [← hw4, ← hg4] at h
    rw [dig_one6]
    exact h
  have h := frac_ false (.slice pv (dig 1).length cv) (.slice (some ⟨g4, 0, none⟩) (dig 1).length 1) (dig 1) (dig 1) 0 w4 ⟨pv, cv, rfl, hav.grown k4, hcv⟩ ⟨some ⟨g4, 0, none⟩, 1, rfl, ar4, by rw [dig_one6]; decide⟩ (Wd_dig _) (Wd_dig _) (by rw [dig_one6]; decide) (by rw [dig_one6]; decide) (by rw [val_dig]; decide) (by decide)
  simp only [val_dig] at h
  rw [show (dig 1).length = 1 from by rw [dig_one6]; rfl] at h
  have hL1 : L = 1 := by rw [hL, dig_one6]; rfl
  subst hL1
  have k04 := k1.trans k4
  have HG : Hid (g4 = w1.heap.size ∧ w4 = w1.alloc (.cells #[.int .u32 1] 67)) := ⟨hg4, hw4⟩
  replace r0 := kkeep k04 r0
  replace r1 := kkeep k04 r1
  replace r2 := kkeep k04 r2
  replace f0 := (kfro k04 hlt).trans f0
  replace f1 := (kfro k04 hlt).trans f1
  replace f2 := (kfro k04 hlt).trans f2
  have HK : Hid (Kp w0 w4 ∧ B < w0.heap.size) := ⟨k04, hlt⟩
  have hlt4 := cell_lt r0
  clear hs ho hav hcv hL hg4 hw4 k4 ar4 k1 k04 hlt
  go_wp2_with fail
  rw [← HG.out.1, ← HG.out.2]
  refine h.mono ?_; rintro e w5 ⟨vn, vd, a', b', ng, rfl, o1, o2, ff, k5⟩
  obtain ⟨pn, cn, rfl, an, ln⟩ := o1.arr
  obtain ⟨pd, cd, rfl, ad, ld⟩ := o2.arr
  replace r0 := kkeep k5 r0
  replace r1 := kkeep k5 r1
  replace r2 := kkeep k5 r2
  replace f0 := (kfro k5 hlt4).trans f0
  replace f1 := (kfro k5 hlt4).trans f1
  replace f2 := (kfro k5 hlt4).trans f2
  have hp : XP w4.heap.size w5 ng pn (dig a').length cn pd (dig b').length cd 1 1 1500 := by
    have e := frac_x 1 1 a' b' ng false (by decide) ff.1 (fun h => ff.2 h)
    have b1 := ff.1.2.2.2.1
    have b2 := ff.1.2.2.2.2
    have h2 : blen 1 = 1 := blen_uniq 1 0 (by decide) (by decide)
    refine ⟨a', b', o1, o2, ff.1.1, by decide, ?_, by simp at b1; omega, by simp at b2; omega⟩
    simpa [rvI] using e
  have hq := (((hp.set (x := ⟨B, 0, none⟩) hlt4 (.bool ng)).set (x := ⟨B, 1, none⟩) hlt4 (.slice pn (dig a').length cn)).set (x := ⟨B, 2, none⟩) hlt4 (.slice pd (dig b').length cd)).mono (base' := w.heap.size) (by have h1 := Below.size HW.out.2.2; have h2 := Below.size HK.out.1; omega)
  have hkw : Kp w (((w5.setCell ⟨B, 0, none⟩ (.bool ng)).setCell ⟨B, 1, none⟩ (.slice pn (dig a').length cn)).setCell ⟨B, 2, none⟩ (.slice pd (dig b').length cd)) := by
    have hB := HW.out.2.1
    exact ((((HW.out.2.2.trans HK.out.1).trans k5).setCell (by rw [hB]; exact Nat.le_refl _) _).setCell (by rw [hB]; exact Nat.le_refl _) _).setCell (by rw [hB]; exact Nat.le_refl _) _
  generalize (dig a').length = La at hq hkw ⊢
  generalize (dig b').length = Lb at hq hkw ⊢
  have HO : Hid (_ ∧ _) := ⟨hq, hkw⟩
  clear h hp hq hkw o1 o2 ff k5 an ln ad ld hlt4 HG
  go_wp2
  exact bodyPost_ret (v := .agg #[.bool ng, .slice pn La cn, .slice pd Lb cd]) (by simp [results, Try.results43, go_sem, r0, r1, r2]) rfl ⟨ng, pn, La, cn, pd, Lb, cd, rfl, HO.out.1, HO.out.2⟩
set_option linter.unusedVariables false

def H3c (w : World) (b : Nat) (v0 v1 v2 : Value) : Prop := w.cell? ⟨b, 0, none⟩ = some v0 ∧ w.cell? ⟨b, 1, none⟩ = some v1 ∧ w.cell? ⟨b, 2, none⟩ = some v2 ∧ w.frozen? ⟨b, 0, none⟩ = false ∧ w.frozen? ⟨b, 1, none⟩ = false ∧ w.frozen? ⟨b, 2, none⟩ = false
theorem H3c.keep {W w : World} {b : Nat} {v0 v1 v2 : Value} (h : H3c W b v0 v1 v2) (g : Kp W w) : H3c w b v0 v1 v2 := by
  obtain ⟨h0, h1, h2, h3, h4, h5⟩ := h
  exact ⟨kkeep g h0, kkeep g h1, kkeep g h2, (kfro g (cell_lt h0)).trans h3, (kfro g (cell_lt h0)).trans h4, (kfro g (cell_lt h0)).trans h5⟩
theorem H3c.new (w : World) (v0 v1 v2 : Value) (t : TypeId) : H3c (w.alloc (.cells #[v0, v1, v2] t)) w.heap.size v0 v1 v2 := by
  unfold H3c; simp [go_sem]
theorem H3c.lt {w : World} {b : Nat} {v0 v1 v2 : Value} (h : H3c w b v0 v1 v2) : b < w.heap.size := cell_lt h.1
set_option maxRecDepth 20000 in
set_option maxHeartbeats 1000000 in
theorem H3c.put {w : World} {b : Nat} {v0 v1 v2 : Value} (h : H3c w b v0 v1 v2) (u0 u1 u2 : Value) : H3c ((((w.setCell ⟨b, 0, none⟩ u0).setCell ⟨b, 1, none⟩ u1).setCell ⟨b, 2, none⟩ u2)) b u0 u1 u2 := by
  obtain ⟨h0, h1, h2, h3, h4, h5⟩ := h
  unfold H3c; simp [go_sem, h0, h1, h2, h3, h4, h5]
theorem H3c.far1 {w : World} {b : Nat} {v0 v1 v2 : Value} (h : H3c w b v0 v1 v2) (x : Addr) (hne : x.block ≠ b) (u : Value) : H3c (w.setCell x u) b v0 v1 v2 := by
  obtain ⟨h0, h1, h2, h3, h4, h5⟩ := h
  exact ⟨(World.cell?_setCell_far _ _ _ _ hne).trans h0, (World.cell?_setCell_far _ _ _ _ hne).trans h1, (World.cell?_setCell_far _ _ _ _ hne).trans h2, (World.frozen?_setCell _ _ _ _).trans h3, (World.frozen?_setCell _ _ _ _).trans h4, (World.frozen?_setCell _ _ _ _).trans h5⟩
set_option maxRecDepth 20000 in
set_option maxHeartbeats 1000000 in
theorem rfF_ (p : Option Addr) (l c : Nat) (q : Option Addr) (k d lq lr : Nat) (QP : World → Option Addr → Nat → Prop) (w : World) (hby : ∀ W : World, Kp w W → Calls Try.prog 70 #[.slice p l c, .slice q k d] W fun e w' => ∃ (p1 : Option Addr) (c1 : Nat) (p2 : Option Addr) (c2 : Nat), e = .returned (.tuple #[.slice p1 lq c1, .slice p2 lr c2]) ∧ QP w' p1 c1 ∧ Kp W w') : Calls Try.prog 74 #[.agg #[.bool false, .slice p l c, .slice q k d]] w fun e w' => ∃ (p1 : Option Addr) (c1 : Nat), e = .returned (.tuple #[.bool false, .slice p1 lq c1]) ∧ QP w' p1 c1 ∧ Kp w w' := by
  have k0 : Kp w (w.alloc (.cells #[.bool false, .slice p l c, .slice q k d] 38)) := (Kp.refl w).alloc _
  have q0 := H3c.new w (.bool false) (.slice p l c) (.slice q k d) 38
  obtain ⟨x0, x1, x2, x3, x4, x5⟩ := id q0
  go_enter Try.func74, Try.ntmps74
  go_wp2_with (first | (go_at_call 70; refine (hby _ k0).mono ?_; rintro e w1 ⟨p1, c1, p2, c2, rfl, h1, g1⟩; have q1 := H3c.keep q0 g1; have kw := Kp.trans k0 g1; clear x0 x1 x2 x3 x4 x5; obtain ⟨x0, x1, x2, x3, x4, x5⟩ := id q1))
  exact bodyPost_ret (v := .tuple #[.bool false, .slice p1 lq c1]) (by simp [results, Try.results74, go_sem]) rfl ⟨p1, c1, rfl, h1, kw⟩
set_option maxRecDepth 20000 in
set_option maxHeartbeats 1000000 in
theorem rfZ0_ (p : Option Addr) (l c : Nat) (q : Option Addr) (k d lq lr : Nat) (QP : World → Option Addr → Nat → Prop) (t1 : lr = 0) (t2 : lq = 0) (w : World) (hby : ∀ W : World, Kp w W → Calls Try.prog 70 #[.slice p l c, .slice q k d] W fun e w' => ∃ (p1 : Option Addr) (c1 : Nat) (p2 : Option Addr) (c2 : Nat), e = .returned (.tuple #[.slice p1 lq c1, .slice p2 lr c2]) ∧ QP w' p1 c1 ∧ Kp W w') : Calls Try.prog 74 #[.agg #[.bool true, .slice p l c, .slice q k d]] w fun e w' => ∃ (p1 : Option Addr) (c1 : Nat), e = .returned (.tuple #[.bool false, .slice p1 lq c1]) ∧ QP w' p1 c1 ∧ Kp w w' := by
  subst t1; subst t2
  have k0 : Kp w (w.alloc (.cells #[.bool true, .slice p l c, .slice q k d] 38)) := (Kp.refl w).alloc _
  have q0 := H3c.new w (.bool true) (.slice p l c) (.slice q k d) 38
  obtain ⟨x0, x1, x2, x3, x4, x5⟩ := id q0
  go_enter Try.func74, Try.ntmps74
  go_wp2_with (first | (go_at_call 70; refine (hby _ k0).mono ?_; rintro e w1 ⟨p1, c1, p2, c2, rfl, h1, g1⟩; have q1 := H3c.keep q0 g1; have kw := Kp.trans k0 g1; clear x0 x1 x2 x3 x4 x5; obtain ⟨x0, x1, x2, x3, x4, x5⟩ := id q1))
  exact bodyPost_ret (v := .tuple #[.bool false, .slice p1 0 c1]) (by simp [results, Try.results74, go_sem]) rfl ⟨p1, c1, rfl, h1, kw⟩
set_option maxRecDepth 20000 in
set_option maxHeartbeats 1000000 in
theorem rfZ1_ (p : Option Addr) (l c : Nat) (q : Option Addr) (k d lq lr : Nat) (QP : World → Option Addr → Nat → Prop) (t1 : lr = 0) (t2 : 0 < lq) (w : World) (hby : ∀ W : World, Kp w W → Calls Try.prog 70 #[.slice p l c, .slice q k d] W fun e w' => ∃ (p1 : Option Addr) (c1 : Nat) (p2 : Option Addr) (c2 : Nat), e = .returned (.tuple #[.slice p1 lq c1, .slice p2 lr c2]) ∧ QP w' p1 c1 ∧ Kp W w') : Calls Try.prog 74 #[.agg #[.bool true, .slice p l c, .slice q k d]] w fun e w' => ∃ (p1 : Option Addr) (c1 : Nat), e = .returned (.tuple #[.bool true, .slice p1 lq c1]) ∧ QP w' p1 c1 ∧ Kp w w' := by
  subst t1; have t3 : (0 : Int) < (lq : Int) := by omega
  have k0 : Kp w (w.alloc (.cells #[.bool true, .slice p l c, .slice q k d] 38)) := (Kp.refl w).alloc _
  have q0 := H3c.new w (.bool true) (.slice p l c) (.slice q k d) 38
  obtain ⟨x0, x1, x2, x3, x4, x5⟩ := id q0
  go_enter Try.func74, Try.ntmps74
  go_wp2_with (first | (go_at_call 70; refine (hby _ k0).mono ?_; rintro e w1 ⟨p1, c1, p2, c2, rfl, h1, g1⟩; have q1 := H3c.keep q0 g1; have kw := Kp.trans k0 g1; clear x0 x1 x2 x3 x4 x5; obtain ⟨x0, x1, x2, x3, x4, x5⟩ := id q1))
  exact bodyPost_ret (v := .tuple #[.bool true, .slice p1 lq c1]) (by simp [results, Try.results74, go_sem]) rfl ⟨p1, c1, rfl, h1, kw⟩
set_option maxRecDepth 20000 in
set_option maxHeartbeats 1000000 in
theorem rfP_ (p : Option Addr) (l c : Nat) (q : Option Addr) (k d lq lr : Nat) (QP : World → Option Addr → Nat → Prop) (l3 : Nat) (QS : World → Option Addr → Nat → Prop) (t1 : 0 < lr) (t2 : 0 < l3) (w : World) (hby : ∀ W : World, Kp w W → Calls Try.prog 70 #[.slice p l c, .slice q k d] W fun e w' => ∃ (p1 : Option Addr) (c1 : Nat) (p2 : Option Addr) (c2 : Nat), e = .returned (.tuple #[.slice p1 lq c1, .slice p2 lr c2]) ∧ QP w' p1 c1 ∧ Kp W w') (hpl : ∀ (W : World) (p1 : Option Addr) (c1 : Nat), QP W p1 c1 → Calls Try.prog 79 #[.slice p1 lq c1, .slice (some ⟨W.heap.size, 0, none⟩) 1 1] (W.alloc (.cells #[.int .u32 1] 67)) fun e w' => ∃ (p3 : Option Addr) (c3 : Nat), e = .returned (.slice p3 l3 c3) ∧ QS w' p3 c3 ∧ Kp (W.alloc (.cells #[.int .u32 1] 67)) w') : Calls Try.prog 74 #[.agg #[.bool true, .slice p l c, .slice q k d]] w fun e w' => ∃ (p1 : Option Addr) (c1 : Nat), e = .returned (.tuple #[.bool true, .slice p1 l3 c1]) ∧ QS w' p1 c1 ∧ Kp w w' := by
  have t3 : (0 : Int) < (lr : Int) := by omega
  have t4 : (0 : Int) < (l3 : Int) := by omega
  have k0 : Kp w (w.alloc (.cells #[.bool true, .slice p l c, .slice q k d] 38)) := (Kp.refl w).alloc _
  have q0 := H3c.new w (.bool true) (.slice p l c) (.slice q k d) 38
  obtain ⟨x0, x1, x2, x3, x4, x5⟩ := id q0
  go_enter Try.func74, Try.ntmps74
  go_wp2_with (first | (go_at_call 70; refine (hby _ k0).mono ?_; rintro e w1 ⟨p1, c1, p2, c2, rfl, h1, g1⟩; have q1 := H3c.keep q0 g1; have kw := Kp.trans k0 g1; clear x0 x1 x2 x3 x4 x5; obtain ⟨x0, x1, x2, x3, x4, x5⟩ := id q1) | (go_at_call 79; refine (hpl _ _ _ h1).mono ?_; rintro e w2 ⟨p3, c3, rfl, h3, g2⟩; have k2 := Kp.trans kw (Kp.trans ((Kp.refl _).alloc _) g2); have q2 := H3c.keep q1 (Kp.trans ((Kp.refl _).alloc _) g2); clear x0 x1 x2 x3 x4 x5; obtain ⟨x0, x1, x2, x3, x4, x5⟩ := id q2))
  exact bodyPost_ret (v := .tuple #[.bool true, .slice p3 l3 c3]) (by simp [results, Try.results74, go_sem]) rfl ⟨p3, c3, rfl, h3, k2⟩
set_option linter.unusedVariables false

def flN (s : Bool) (a b : Nat) : Nat := if s = true ∧ a % b ≠ 0 then a / b + 1 else a / b
theorem flN_val (s : Bool) (a b : Nat) (hb : b ≠ 0) : rvI s (flN s a b) = rvI s a / (b : Int) := by
  have h0 : (0 : Int) < (b : Int) := by omega
  unfold rvI flN
  cases s
  · simp
  · rw [if_pos rfl, if_pos rfl]
    have e : (a : Int) = (b : Int) * ((a / b : Nat) : Int) + ((a % b : Nat) : Int) := by
      rw [← Int.natCast_mul, ← Int.natCast_add, Nat.div_add_mod]
    have r0 : a % b < b := Nat.mod_lt _ (by omega)
    by_cases z : a % b = 0
    · rw [if_neg (by simp [z])]
      rw [z] at e
      have e2 : -(a : Int) = -((a / b : Nat) : Int) * (b : Int) := by rw [e, Int.neg_mul, Int.mul_comm]; simp
      rw [e2, Int.mul_ediv_cancel _ (by omega)]
    · rw [if_pos ⟨rfl, z⟩]
      refine (Int.ediv_eq_iff_of_pos h0 |>.2 ?_).symm
      have e3 : -((a / b + 1 : Nat) : Int) * (b : Int) = -((b : Int) * ((a / b : Nat) : Int)) - (b : Int) := by
        rw [Int.natCast_add, Int.neg_mul, Int.add_mul, Int.mul_comm]; simp; omega
      rw [e3]
      constructor <;> omega
theorem flN_x (s : Bool) (a b : Nat) (V : Int) (C N : Nat) (h : XF s a b V C N) : rvI s (flN s a b) = V / (C : Int) := by
  obtain ⟨h1, h2, h3, h4, h5⟩ := h
  rw [flN_val s a b h1]
  have e1 : rvI s a / (b : Int) = (rvI s a * (C : Int)) / ((b : Int) * (C : Int)) := (Int.mul_ediv_mul_of_pos_left _ _ (by omega)).symm
  have e2 : V / (C : Int) = (V * (b : Int)) / ((C : Int) * (b : Int)) := (Int.mul_ediv_mul_of_pos_left _ _ (by omega)).symm
  rw [e1, e2, h3, Int.mul_comm (b : Int)]
theorem flN_blen (s : Bool) (a b N : Nat) (h : blen a ≤ N) : blen (flN s a b) ≤ N + 1 := by
  have h1 : flN s a b ≤ a + 1 := by
    have := Nat.div_le_self a b
    unfold flN; split <;> omega
  have h2 := (blen_le_iff a N).1 h
  refine (blen_le_iff _ _).2 ?_
  have := Nat.two_pow_pos N
  rw [Nat.pow_succ]; omega
set_option maxRecDepth 20000 in
set_option maxHeartbeats 400000 in
theorem rfloorX_ (s : Bool) (p : Option Addr) (l c : Nat) (q : Option Addr) (k d : Nat) (a b : Nat) (B1 B2 N : Nat) (w : World) (o1 : Own w B1 (.slice p l c) (dig a)) (o2 : Own w B2 (.slice q k d) (dig b)) (zb : b ≠ 0) (ja : blen a ≤ N) (jb : blen b ≤ N) (hN : N ≤ 200000) : Calls Try.prog 74 #[.agg #[.bool s, .slice p l c, .slice q k d]] w fun e w' => ∃ (ng : Bool) (v : Value), e = .returned (.tuple #[.bool ng, v]) ∧ Ls w' v (dig (flN s a b)) ∧ (flN s a b ≠ 0 → ng = s) ∧ Kp w w' := by
  have y1 := o1.ls
  have y2 := o2.ls
  have e0 : ∀ m : Nat, (dig m).length = 0 ↔ m = 0 := fun m => dig_len_zero m
  have hby : ∀ W : World, Kp w W → Calls Try.prog 70 #[.slice p l c, .slice q k d] W fun e w' => ∃ (p1 : Option Addr) (c1 : Nat) (p2 : Option Addr) (c2 : Nat), e = .returned (.tuple #[.slice p1 (dig (a / b)).length c1, .slice p2 (dig (a % b)).length c2]) ∧ Ls w' (.slice p1 (dig (a / b)).length c1) (dig (a / b)) ∧ Kp W w' := by
    intro W g
    refine (byR _ _ a b W (y1.kp g) (y2.kp g) (by omega) (by omega) (by omega)).mono ?_
    rintro e w' ⟨v1, v2, rfl, z1, z2, g1⟩
    obtain ⟨p1, c1, rfl, z3, z4⟩ := z1
    obtain ⟨p2, c2, rfl, z5, z6⟩ := z2
    exact ⟨p1, c1, p2, c2, rfl, ⟨p1, c1, rfl, z3, z4⟩, g1⟩
  cases s
  · have f : flN false a b = a / b := by unfold flN; rw [if_neg (by simp)]
    rw [f]
    refine (rfF_ p l c q k d _ _ (fun w' p1 c1 => Ls w' (.slice p1 (dig (a / b)).length c1) (dig (a / b))) w hby).mono ?_
    rintro e w' ⟨p1, c1, rfl, z, g⟩
    exact ⟨false, _, rfl, z, fun _ => rfl, g⟩
  · by_cases t1 : a % b = 0
    · have f : flN true a b = a / b := by unfold flN; rw [if_neg (by simp [t1])]
      rw [f]
      by_cases t2 : a / b = 0
      · refine (rfZ0_ p l c q k d _ _ (fun w' p1 c1 => Ls w' (.slice p1 (dig (a / b)).length c1) (dig (a / b))) ((e0 _).2 t1) ((e0 _).2 t2) w hby).mono ?_
        rintro e w' ⟨p1, c1, rfl, z, g⟩
        exact ⟨false, _, rfl, z, fun h => absurd t2 h, g⟩
      · refine (rfZ1_ p l c q k d _ _ (fun w' p1 c1 => Ls w' (.slice p1 (dig (a / b)).length c1) (dig (a / b))) ((e0 _).2 t1) (by have := e0 (a / b); omega) w hby).mono ?_
        rintro e w' ⟨p1, c1, rfl, z, g⟩
        exact ⟨true, _, rfl, z, fun _ => rfl, g⟩
    · have f : flN true a b = a / b + 1 := by unfold flN; rw [if_pos ⟨rfl, t1⟩]
      rw [f]
      have hq : blen (a / b) ≤ N := Nat.le_trans (blen_mono (Nat.div_le_self a b)) ja
      have hl := dlen (a / b) 32768 (by omega)
      refine (rfP_ p l c q k d _ _ (fun w' p1 c1 => Ls w' (.slice p1 (dig (a / b)).length c1) (dig (a / b))) (dig (a / b + 1)).length (fun w' p1 c1 => Ls w' (.slice p1 (dig (a / b + 1)).length c1) (dig (a / b + 1))) (Nat.pos_of_ne_zero fun h => t1 ((e0 _).1 h)) (Nat.pos_of_ne_zero fun h => absurd ((e0 _).1 h) (Nat.succ_ne_zero _)) w hby ?_).mono ?_
      · intro W p1 c1 z
        have d1 : dig 1 = [1] := dig_one6
        have z1 : Ls (W.alloc (.cells #[.int .u32 1] 67)) (.slice (some ⟨W.heap.size, 0, none⟩) 1 1) (dig 1) := by
          rw [d1]; exact ⟨_, 1, rfl, (row1 W 1).all rfl, by decide⟩
        refine (plusR _ _ (a / b) 1 _ (z.kp ((Kp.refl W).alloc _)) z1 hl (by change (dig 1).length ≤ _; rw [d1]; decide)).mono ?_
        rintro e w' ⟨p3, c3, rfl, z3, z4, g⟩
        exact ⟨p3, c3, rfl, ⟨p3, c3, rfl, z3, z4⟩, g⟩
      · rintro e w' ⟨p1, c1, rfl, z, g⟩
        exact ⟨true, _, rfl, z, fun _ => rfl, g⟩
end Go.Proofs.Ytbbmoaiilnfmgaa
