import Derived.Test.YtjleodffjjbpkaaGreatDoorProg
import Derived.Test.YtjleodffjjbpkaaGreatDoorKXA0
import Derived.Test.YtjleodffjjbpkaaGreatDoorKXM
import Derived.Test.YtjleodffjjbpkaaGreatDoorKXY
import Derived.Test.YtjleodffjjbpkaaGreatDoorKXQF
import Derived.Test.YtjleodffjjbpkaaGreatDoorKQA
import Derived.Test.YtjleodffjjbpkaaGreatDoorKQP
import Derived.Test.YtjleodffjjbpkaaGreatDoorKXQU
import Derived.Test.YtjleodffjjbpkaaGreatDoorKQB
import Derived.Test.YtjleodffjjbpkaaGreatDoorKQBT
import Derived.Test.YtjleodffjjbpkaaGreatDoorKQJd
import Derived.Test.YtjleodffjjbpkaaGreatDoorKHB
import Derived.Test.YtjleodffjjbpkaaGreatDoorKLX
import Derived.Test.YtjleodffjjbpkaaGreatDoorKMR7Q
import Derived.Test.YtjleodffjjbpkaaGreatDoorKXG1
import Derived.Test.YtjleodffjjbpkaaGreatDoorKXH2Q
import Derived.Test.YtjleodffjjbpkaaGreatDoorKXMR
import Derived.Test.YtjleodffjjbpkaaGreatDoorKNSm
import Derived.Test.YtjleodffjjbpkaaGreatDoorKXT
import Derived.Test.YtjleodffjjbpkaaGreatDoorKRX
import Derived.Test.YtjleodffjjbpkaaGreatDoorKXRL
import Derived.Test.YtjleodffjjbpkaaGreatDoorKXCO
import Derived.Test.YtjleodffjjbpkaaGreatDoorKLN
import Derived.Test.YtjleodffjjbpkaaGreatDoorKXRN
import Derived.Test.YtjleodffjjbpkaaGreatDoorKW4
import Derived.Test.YtjleodffjjbpkaaGreatDoorKBY
import Derived.Test.YtjleodffjjbpkaaGreatDoorKBW
import Derived.Test.YtjleodffjjbpkaaGreatDoorKXTZ
import Derived.Test.YtjleodffjjbpkaaGreatDoorKXG4
import Derived.Test.YtjleodffjjbpkaaGreatDoorKXO3
import Derived.Test.YtjleodffjjbpkaaGreatDoorKS6
import Derived.Test.YtjleodffjjbpkaaGreatDoorKMR18
import Derived.WalkKit
import Derived.ProofKit
import Derived.RowKit3
import Derived.WalkSpells
import Derived.StillTactics
import Derived.Deep.QuietTactic
import Derived.BigQuiet
import Derived.Below
import Derived.Deep.OwnRows
import Derived.OwnWalk
import Derived.Laws.BitsAllLaws
import Derived.Laws.Slices
import Derived.Laws.Bits64b
import Derived.Laws.FloatArith
namespace Go.Proofs.YtjleodffjjbpkaaGreatDoor
open Go.RowKit
set_option maxRecDepth 20000 in
set_option maxHeartbeats 400000 in
theorem fromV_ (n : Bool) (m : Nat) (hm : m < 9218868437227405312) (K : Nat) (hK : K = 1074) (w : World) : Calls Tryz.prog 23 #[.int .u64 ((Fq.wD n m : Nat) : Int)] w fun e w' => ∃ (p q : Option Addr) (c d a b : Nat) (s : Bool), e = .returned (.agg #[.bool s, .slice p (dig a).length c, .slice q (dig b).length d]) ∧ Arr w' p (dig a) ∧ (dig a).length ≤ c ∧ Arr w' q (dig b) ∧ (dig b).length ≤ d ∧ (b ≠ 0 ∧ a * 2 ^ K = Fq.vV Ieee.double m * b ∧ Iv n m = (if s then -((Fq.vV Ieee.double m : Nat) : Int) else ((Fq.vV Ieee.double m : Nat) : Int)) ∧ blen a ≤ 1500 ∧ blen b ≤ 1500) ∧ Kp w w' := by
  have h := fromBits_ n m hm w
  refine Calls.mono (show Calls Tryz.prog 23 #[.int .u64 ((Fq.wD n m : Nat) : Int)] w _ from h) ?_
  rintro e w' ⟨vn, vd, a, b, s, rfl, o1, o2, ⟨hF, hs⟩, k⟩
  obtain ⟨p, c, rfl, a1, l1⟩ := o1.arr
  obtain ⟨q, d, rfl, a2, l2⟩ := o2.arr
  obtain ⟨v1, v2, v3, v4, v5⟩ := Fq.vlsgD m hm
  have hF' : FracOf (Fq.sgD m) 1 (Fq.epD m) a b := hF
  have hs' : Fq.sgD m ≠ 0 → s = n := hs
  have hval : Fq.vV Ieee.double m = Fq.sgD m * 2 ^ (Fq.epD m + 1074).toNat := v1.symm
  refine ⟨p, q, c, d, a, b, s, rfl, a1, l1, a2, l2, ⟨hF'.1, ?_, ?_, ?_, ?_⟩, k⟩
  · by_cases c0 : Fq.sgD m = 0
    · rw [hval, c0, hF'.2.1.2 c0]; simp
    · rw [hval]
      exact frac_exact (Fq.sgD m) (Fq.epD m) a b K (Fq.epD m + 1074).toNat hF' c0 (by omega)
  · unfold Iv
    by_cases c0 : Fq.sgD m = 0
    · have : Fq.vV Ieee.double m = 0 := by rw [hval, c0]; simp
      rw [this]; cases n <;> cases s <;> simp
    · rw [hs' c0]
  · have h1 := hF'.2.2.2.1
    have h2 : blen (Fq.sgD m) ≤ 53 := by rw [blen_le_iff, show (2 : Nat) ^ 53 = 9007199254740992 from by decide]; exact v2
    omega
  · have h1 := hF'.2.2.2.2
    have h2 : blen 1 = 1 := blen_uniq 1 0 (by decide) (by decide)
    omega
set_option maxRecDepth 20000 in
set_option maxHeartbeats 400000 in
theorem raddV_ (d : Int) (n n' : Bool) (m m' : Nat) (K : Nat) (hK : K = 1074) (sa sb : Bool) (a1 a2 b1 b2 : Nat) (P1 P2 Q1 Q2 : Option Addr) (C1 C2 D1 D2 : Nat) (w : World) (h1 : Arr w P1 (dig a1)) (l1 : (dig a1).length ≤ C1) (h2 : Arr w P2 (dig a2)) (l2 : (dig a2).length ≤ C2) (h3 : Arr w Q1 (dig b1)) (l3 : (dig b1).length ≤ D1) (h4 : Arr w Q2 (dig b2)) (l4 : (dig b2).length ≤ D2) (ha : a2 ≠ 0 ∧ a1 * 2 ^ K = Fq.vV Ieee.double m * a2 ∧ Iv n m = (if sa then -((Fq.vV Ieee.double m : Nat) : Int) else ((Fq.vV Ieee.double m : Nat) : Int)) ∧ blen a1 ≤ 1500 ∧ blen a2 ≤ 1500) (hb : b2 ≠ 0 ∧ b1 * 2 ^ K = Fq.vV Ieee.double m' * b2 ∧ Iv n' m' = (if sb then -((Fq.vV Ieee.double m' : Nat) : Int) else ((Fq.vV Ieee.double m' : Nat) : Int)) ∧ blen b1 ≤ 1500 ∧ blen b2 ≤ 1500) :
    Calls Tryz.prog 22 #[.agg #[.bool sa, .slice P1 (dig a1).length C1, .slice P2 (dig a2).length C2], .agg #[.bool sb, .slice Q1 (dig b1).length D1, .slice Q2 (dig b2).length D2]] w fun e w' => ∃ (vn vd : Value) (a' b' : Nat) (ng : Bool), e = .returned (.agg #[.bool ng, vn, vd]) ∧ Ls w' vn (dig a') ∧ Ls w' vd (dig b') ∧ (refW 53 1074 2098 9218868437227405311 0 d ng a' b' = sumW d (Iv n m + Iv n' m') ∧ b' ≠ 0 ∧ blen a' ≤ 4194304 ∧ blen b' ≤ 4194304) ∧ Kp w w' := by
  obtain ⟨za, ea, ia, ba1, ba2⟩ := ha
  obtain ⟨zb, eb, ib, bb1, bb2⟩ := hb
  obtain ⟨X, hX⟩ : ∃ X, X = a1 * b2 := ⟨_, rfl⟩
  obtain ⟨Y, hY⟩ : ∃ Y, Y = b1 * a2 := ⟨_, rfl⟩
  obtain ⟨D, hD⟩ : ∃ D, D = a2 * b2 := ⟨_, rfl⟩
  obtain ⟨va, hva⟩ : ∃ va, va = Fq.vV Ieee.double m := ⟨_, rfl⟩
  obtain ⟨vb, hvb⟩ : ∃ vb, vb = Fq.vV Ieee.double m' := ⟨_, rfl⟩
  rw [← hva] at ea ia
  rw [← hvb] at eb ib
  have hzD : D ≠ 0 := by rw [hD]; exact Nat.mul_ne_zero za zb
  have eX : X * 2 ^ K = va * D := by rw [hX, hD, Nat.mul_right_comm, ea, Nat.mul_assoc]
  have eY : Y * 2 ^ K = vb * D := by rw [hY, hD, Nat.mul_right_comm, eb, Nat.mul_assoc, Nat.mul_comm b2 a2]
  have bl : ∀ u v : Nat, blen u ≤ 1500 → blen v ≤ 1500 → blen (u * v) ≤ 3000 := fun u v h1 h2 => by
    obtain ⟨T5, hT5⟩ : ∃ T5 : Nat, T5 = 1500 := ⟨_, rfl⟩
    have g : blen (u * v) ≤ T5 + T5 := by
      rw [blen_le_iff, Nat.pow_add]
      exact Nat.mul_lt_mul'' ((blen_le_iff u T5).1 (by omega)) ((blen_le_iff v T5).1 (by omega))
    omega
  have bX : blen X ≤ 3000 := by rw [hX]; exact bl _ _ ba1 bb2
  have bY : blen Y ≤ 3000 := by rw [hY]; exact bl _ _ bb1 ba2
  have bD : blen D ≤ 3000 := by rw [hD]; exact bl _ _ ba2 bb2
  obtain ⟨T9, hT9⟩ : ∃ T9 : Nat, T9 = 3000 := ⟨_, rfl⟩
  have bS : ∀ c, c ≤ X + Y → blen c ≤ T9 + 1 := fun c hc => by
    have g1 := (blen_le_iff X T9).1 (by omega)
    have g2 := (blen_le_iff Y T9).1 (by omega)
    rw [blen_le_iff, Nat.pow_succ]; omega
  have lX : len32 X ≤ 16000 := dlen X 16000 (by omega)
  have lY : len32 Y ≤ 16000 := dlen Y 16000 (by omega)
  have lD : len32 D ≤ 16000 := dlen D 16000 (by omega)
  have lS : len32 (X + Y) ≤ 16000 := dlen (X + Y) 16000 (by have := bS (X + Y) (Nat.le_refl _); omega)
  have k1 : len32 a1 ≤ 4000 := dlen a1 4000 (by omega)
  have k2 : len32 a2 ≤ 4000 := dlen a2 4000 (by omega)
  have k3 : len32 b1 ≤ 4000 := dlen b1 4000 (by omega)
  have k4 : len32 b2 ≤ 4000 := dlen b2 4000 (by omega)
  have fin : ∀ (x : Nat) (neg : Bool) (a' b' : Nat) (ng : Bool), x ≤ X + Y → x * 2 ^ K = (Iv n m + Iv n' m').natAbs * D → (Iv n m + Iv n' m' ≠ 0 → neg = decide (Iv n m + Iv n' m' < 0)) → (FracOf x D 0 a' b' ∧ (x ≠ 0 → ng = neg)) → (refW 53 1074 2098 9218868437227405311 0 d ng a' b' = sumW d (Iv n m + Iv n' m') ∧ b' ≠ 0 ∧ blen a' ≤ 4194304 ∧ blen b' ≤ 4194304) := fun x neg a' b' ng hx hv hn hF => by
    refine ⟨ratio_sum d _ x D a' b' K neg hK hzD hF.1 hv ng hF.2 hn, hF.1.1, ?_, ?_⟩
    · have g1 := hF.1.2.2.2.1; have g2 := bS x hx; simp at g1; omega
    · have g1 := hF.1.2.2.2.2; simp at g1; omega
  by_cases c1 : sa = sb
  · refine (raddEq_ sa sb a1 a2 b1 b2 P1 P2 Q1 Q2 C1 C2 D1 D2 w h1 l1 h2 l2 h3 l3 h4 l4 k1 k2 k3 k4 za zb X Y D hX hY hD lX lY lD lS c1).mono ?_
    rintro e w' ⟨vn, vd, a', b', ng, he, q1, q2, q3, q4⟩
    refine ⟨vn, vd, a', b', ng, he, q1, q2, fin (X + Y) sa a' b' ng (Nat.le_refl _) ?_ ?_ q3, q4⟩
    · have : (Iv n m + Iv n' m').natAbs = va + vb := by rw [ia, ib, ← c1]; cases sa <;> simp <;> omega
      rw [this, Nat.add_mul, Nat.add_mul, eX, eY]
    · intro hne
      rw [ia, ib, ← c1] at hne ⊢
      cases sa <;> simp at hne ⊢ <;> omega
  · have hcmp : Y ≤ X ↔ vb ≤ va := by
      have hp := Nat.two_pow_pos K
      constructor
      · intro h
        have g := Nat.mul_le_mul_right (2 ^ K) h
        rw [eX, eY] at g
        exact Nat.le_of_mul_le_mul_right g (by omega)
      · intro h
        have g := Nat.mul_le_mul_right D h
        rw [← eX, ← eY] at g
        exact Nat.le_of_mul_le_mul_right g hp
    by_cases c2 : Y ≤ X
    · have hv := hcmp.1 c2
      refine (raddGe_ sa sb a1 a2 b1 b2 P1 P2 Q1 Q2 C1 C2 D1 D2 w h1 l1 h2 l2 h3 l3 h4 l4 k1 k2 k3 k4 za zb X Y D hX hY hD lX lY lD lS c1 c2).mono ?_
      rintro e w' ⟨vn, vd, a', b', ng, he, q1, q2, q3, q4⟩
      refine ⟨vn, vd, a', b', ng, he, q1, q2, fin (X - Y) sa a' b' ng (by omega) ?_ ?_ q3, q4⟩
      · have : (Iv n m + Iv n' m').natAbs = va - vb := by rw [ia, ib]; cases sa <;> cases sb <;> simp at c1 ⊢ <;> omega
        rw [this, Nat.sub_mul, Nat.sub_mul, eX, eY]
      · intro hne
        rw [ia, ib] at hne ⊢
        cases sa <;> cases sb <;> simp at c1 hne ⊢ <;> omega
    · have hv : va < vb := by
        rcases Nat.lt_or_ge va vb with h | h
        · exact h
        · exact absurd (hcmp.2 h) c2
      refine (raddLt_ sa sb a1 a2 b1 b2 P1 P2 Q1 Q2 C1 C2 D1 D2 w h1 l1 h2 l2 h3 l3 h4 l4 k1 k2 k3 k4 za zb X Y D hX hY hD lX lY lD lS c1 (by omega)).mono ?_
      rintro e w' ⟨vn, vd, a', b', ng, he, q1, q2, q3, q4⟩
      refine ⟨vn, vd, a', b', ng, he, q1, q2, fin (Y - X) sb a' b' ng (by omega) ?_ ?_ q3, q4⟩
      · have : (Iv n m + Iv n' m').natAbs = vb - va := by rw [ia, ib]; cases sa <;> cases sb <;> simp at c1 ⊢ <;> omega
        rw [this, Nat.sub_mul, Nat.sub_mul, eX, eY]
      · intro hne
        rw [ia, ib] at hne ⊢
        cases sa <;> cases sb <;> simp at c1 hne ⊢ <;> omega
set_option maxRecDepth 20000 in
set_option maxHeartbeats 1000000 in
theorem rsumF_ (d : Int) (n n' : Bool) (m m' : Nat) (hm : m < 9218868437227405312) (hm' : m' < 9218868437227405312) (w : World) :
    Calls Tryz.prog 7 #[.int .i64 d, .int .u64 ((Fq.wD n m : Nat) : Int), .int .u64 ((Fq.wD n' m' : Nat) : Int)] w fun e w' => e = .returned (.int .u64 ((sumW d (Iv n m + Iv n' m') : Nat) : Int)) ∧ Kp w w' := by
  have i1 := fun w => isnan_ n m (by omega) w
  have i2 := fun w => isnan_ n' m' (by omega) w
  have j1 := fun w => isinf_ n m (by omega) w
  have j2 := fun w => isinf_ n' m' (by omega) w
  rw [decide_eq_false (by omega)] at i1 i2 j1 j2
  obtain ⟨K, hK⟩ : ∃ K : Nat, K = 1074 := ⟨_, rfl⟩
  have b1 := fromV_ n m hm K hK w
  have b2 := fun w1 => fromV_ n' m' hm' K hK w1
  have ra := fun sa sb a1 a2 b1 b2 P1 P2 Q1 Q2 C1 C2 D1 D2 w => raddV_ d n n' m m' K hK sa sb a1 a2 b1 b2 P1 P2 Q1 Q2 C1 C2 D1 D2 w
  obtain ⟨Z, hZ⟩ : ∃ Z, Z = sumW d (Iv n m + Iv n' m') := ⟨_, rfl⟩
  obtain ⟨X, hX⟩ : ∃ X, X = Fq.wD n m := ⟨_, rfl⟩
  obtain ⟨Y, hY⟩ : ∃ Y, Y = Fq.wD n' m' := ⟨_, rfl⟩
  rw [← hX] at i1 j1 b1
  rw [← hY] at i2 j2 b2
  rw [← hZ] at ra
  rw [← hX, ← hY, ← hZ]
  have HR : Hid (∀ sa sb a1 a2 b1 b2 P1 P2 Q1 Q2 C1 C2 D1 D2 w, _) := ra
  clear ra hX hY hZ hK hm hm'
  go_enter Tryz.func7, Tryz.ntmps7
  go_wp2_with fail
  refine (i1 w).mono ?_; rintro e w' ⟨rfl, hw'⟩; obtain rfl := hw'.symm; clear hw'
  go_wp2_with fail
  refine (i2 w).mono ?_; rintro e w' ⟨rfl, hw'⟩; obtain rfl := hw'.symm; clear hw'
  go_wp2_with fail
  refine (j1 w).mono ?_; rintro e w' ⟨rfl, hw'⟩; obtain rfl := hw'.symm; clear hw'
  go_wp2_with fail
  refine (j1 w).mono ?_; rintro e w' ⟨rfl, hw'⟩; obtain rfl := hw'.symm; clear hw'
  go_wp2_with fail
  refine (j2 w).mono ?_; rintro e w' ⟨rfl, hw'⟩; obtain rfl := hw'.symm; clear hw'
  clear i1 i2 j1 j2
  go_wp2_with fail
  refine b1.mono ?_; rintro e w1 ⟨p1, p2, c1, c2, a1, a2, sa, rfl, u1, u2, u3, u4, fa, k1⟩
  have b3 := b2 w1
  clear b1 b2
  obtain ⟨E1, g1⟩ : ∃ E, E = (dig a1).length := ⟨_, rfl⟩
  obtain ⟨E2, g2⟩ : ∃ E, E = (dig a2).length := ⟨_, rfl⟩
  rw [← g1, ← g2]
  have G1 : Hid (E1 = (dig a1).length ∧ E2 = (dig a2).length ∧ _) := ⟨g1, g2, fa⟩
  clear g1 g2 fa
  go_wp2_with fail
  refine b3.mono ?_; rintro e w2 ⟨q1, q2, d1, d2, e1, e2, sb, rfl, v1, v2, v3, v4, fb, k2⟩
  have hr := HR.out sa sb a1 a2 e1 e2 p1 p2 q1 q2 c1 c2 d1 d2 w2 (u1.grown k2) u2 (u3.grown k2) u4 v1 v2 v3 v4 G1.out.2.2 fb
  rw [← G1.out.1, ← G1.out.2.1] at hr
  obtain ⟨E3, g3⟩ : ∃ E, E = (dig e1).length := ⟨_, rfl⟩
  obtain ⟨E4, g4⟩ : ∃ E, E = (dig e2).length := ⟨_, rfl⟩
  rw [← g3, ← g4] at hr ⊢
  have k02 := k1.trans k2
  clear b3 u1 u2 u3 u4 v1 v2 v3 v4 fb k1 k2 g3 g4 G1 HR
  go_wp2_with fail
  refine hr.mono ?_; rintro e w3 ⟨vn, vd, a', b', ng, rfl, lv1, lv2, ⟨hw1, hw2, hw3, hw4⟩, k3⟩
  have hb := rbits_ d ng vn vd a' b' w3 lv1 lv2 hw2 hw3 hw4
  rw [hw1] at hb
  have k03 := k02.trans k3
  clear hr lv1 lv2 hw1 hw2 hw3 hw4 k02 k3
  go_wp2_with fail
  refine hb.mono ?_; rintro e w4 ⟨rfl, k4⟩
  have k04 := k03.trans k4
  clear hb k03 k4
  go_wp2
  exact bodyPost_ret (v := .int .u64 (Z : Int)) (by simp [results, Tryz.results7, go_sem]) rfl ⟨rfl, k04⟩
end Go.Proofs.YtjleodffjjbpkaaGreatDoor
