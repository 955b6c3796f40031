import Derived.Test.YtnjbheammpdjfaaProg
import Derived.Test.YtnjbheammpdjfaaKXA0
import Derived.Test.YtnjbheammpdjfaaKXM
import Derived.Test.YtnjbheammpdjfaaKXY
import Derived.Test.YtnjbheammpdjfaaKXQF
import Derived.Test.YtnjbheammpdjfaaKQA
import Derived.Test.YtnjbheammpdjfaaKQP
import Derived.Test.YtnjbheammpdjfaaKXQU
import Derived.Test.YtnjbheammpdjfaaKXEA
import Derived.Test.YtnjbheammpdjfaaKXEE
import Derived.Test.YtnjbheammpdjfaaKMR7Q
import Derived.Test.YtnjbheammpdjfaaKXMR
import Derived.Test.YtnjbheammpdjfaaKXM3
import Derived.Test.YtnjbheammpdjfaaKXO
import Derived.Test.YtnjbheammpdjfaaKXO3
import Derived.Test.YtnjbheammpdjfaaKXT
import Derived.Test.YtnjbheammpdjfaaKXLB
import Derived.Test.YtnjbheammpdjfaaKRX
import Derived.Test.YtnjbheammpdjfaaKXRL
import Derived.Test.YtnjbheammpdjfaaKXCO
import Derived.Test.YtnjbheammpdjfaaKLN
import Derived.Test.YtnjbheammpdjfaaKXRN
import Derived.Test.YtnjbheammpdjfaaKW4
import Derived.Test.YtnjbheammpdjfaaKBY
import Derived.Test.YtnjbheammpdjfaaKBW
import Derived.Test.YtnjbheammpdjfaaKXTZ
import Derived.Test.YtnjbheammpdjfaaKXG1
import Derived.Test.YtnjbheammpdjfaaKNSm
import Derived.Test.YtnjbheammpdjfaaKXH2Q
import Derived.Test.YtnjbheammpdjfaaKXG4
import Derived.Test.YtnjbheammpdjfaaKXS6
import Derived.Test.YtnjbheammpdjfaaKEKF
import Derived.Test.YtnjbheammpdjfaaKXET
import Derived.Test.YtnjbheammpdjfaaKRP
import Derived.Test.YtnjbheammpdjfaaKXEC
import Derived.WalkKit
import Derived.ProofKit
import Derived.RowKit3
import Derived.WalkSpells
import Derived.StillTactics
import Derived.Deep.QuietTactic
import Derived.BigQuiet
import Derived.Below
import Derived.Deep.OwnRows
import Derived.OwnWalk
import Derived.Laws.BitsAllLaws
import Derived.Laws.Slices
import Derived.Laws.Bits64b
import Derived.Laws.FloatArith
import Derived.Deep.RegionHeld3
namespace Go.Proofs.Ytnjbheammpdjfaa
open Go.RowKit

/-- a ratio that is rounded to Z d in direction d, with rows of its own from 'base' on -/
def QP (base : Nat) (w : World) (s : Bool) (p : Option Addr) (l c : Nat) (q : Option Addr) (k d : Nat) (Z : Int → Nat) : Prop := ∃ a b, Own w base (.slice p l c) (dig a) ∧ Own w base (.slice q k d) (dig b) ∧ b ≠ 0 ∧ blen a ≤ 4194304 ∧ blen b ≤ 4194304 ∧ ∀ dd : Int, refW 53 1074 2098 9218868437227405311 0 dd s a b = Z dd
theorem QP.kp {base : Nat} {w w' : World} {s : Bool} {p : Option Addr} {l c : Nat} {q : Option Addr} {k d : Nat} {Z : Int → Nat} (h : QP base w s p l c q k d Z) (g : Kp w w') : QP base w' s p l c q k d Z := by
  obtain ⟨a, b, h1, h2, h3⟩ := h
  exact ⟨a, b, h1.kp g, h2.kp g, h3⟩
theorem QP.mono {base base' : Nat} {w : World} {s : Bool} {p : Option Addr} {l c : Nat} {q : Option Addr} {k d : Nat} {Z : Int → Nat} (h : QP base w s p l c q k d Z) (g : base' ≤ base) : QP base' w s p l c q k d Z := by
  obtain ⟨a, b, h1, h2, h3⟩ := h
  exact ⟨a, b, h1.mono g, h2.mono g, h3⟩
theorem QP.set {base : Nat} {w : World} {s : Bool} {p : Option Addr} {l c : Nat} {q : Option Addr} {k d : Nat} {Z : Int → Nat} (h : QP base w s p l c q k d Z) {x : Addr} (hx : x.block < base) (u : Value) : QP base (w.setCell x u) s p l c q k d Z := by
  obtain ⟨a, b, h1, h2, h3⟩ := h
  exact ⟨a, b, h1.setOther hx u, h2.setOther hx u, h3⟩
theorem QP.congr {base : Nat} {w : World} {s : Bool} {p : Option Addr} {l c : Nat} {q : Option Addr} {k d : Nat} {Z Y : Int → Nat} (h : QP base w s p l c q k d Z) (e : Z = Y) : QP base w s p l c q k d Y := e ▸ h
/-- a number's ratio is rounded to the number -/
theorem RP.qp {base : Nat} {w : World} {s : Bool} {p : Option Addr} {l c : Nat} {q : Option Addr} {k d : Nat} {n : Bool} {m : Nat} (h : RP base w s p l c q k d n m) : QP base w s p l c q k d (fun dd => sumW dd (Iv n m)) := by
  obtain ⟨a, b, h1, h2, h3⟩ := h
  obtain ⟨K, hK⟩ : ∃ K : Nat, K = 1074 := ⟨_, rfl⟩
  obtain ⟨f1, f2, f3, f4, f5⟩ := h3 K hK
  refine ⟨a, b, h1, h2, f1, by omega, by omega, fun dd => ?_⟩
  refine ratio_sum dd (Iv n m) a b a b K s hK f1 ⟨f1, Iff.rfl, fun d' p' t' _ => by rw [Int.add_zero], by omega, by omega⟩ ?_ s (fun _ => rfl) ?_
  · rw [f2]
    congr 1
    unfold Iv; cases n <;> simp
  · intro hne
    rw [f3] at hne ⊢
    cases s <;> simp at hne ⊢ <;> omega

theorem qadd_ (n n' : Bool) (m m' : Nat) (s : Bool) (p : Option Addr) (l c : Nat) (q : Option Addr) (k d : Nat) (s2 : Bool) (p2 : Option Addr) (l2 c2 : Nat) (q2 : Option Addr) (k2 d2 : Nat) (B1 B2 : Nat) (w : World) (h1 : RP B1 w s p l c q k d n m) (h2 : RP B2 w s2 p2 l2 c2 q2 k2 d2 n' m') : Calls Try.prog 78 #[.agg #[.bool s, .slice p l c, .slice q k d], .agg #[.bool s2, .slice p2 l2 c2, .slice q2 k2 d2]] w fun e w' => ∃ (s3 : Bool) (p3 : Option Addr) (l3 c3 : Nat) (q3 : Option Addr) (k3 d3 : Nat), e = .returned (.agg #[.bool s3, .slice p3 l3 c3, .slice q3 k3 d3]) ∧ QP w.heap.size w' s3 p3 l3 c3 q3 k3 d3 (fun dd => sumW dd (Iv n m + Iv n' m')) ∧ Kp w w' := by
  obtain ⟨a1, a2, u1, u2, u3⟩ := h1
  obtain ⟨b1, b2, v1, v2, v3⟩ := h2
  obtain ⟨K, hK⟩ : ∃ K : Nat, K = 1074 := ⟨_, rfl⟩
  obtain ⟨P1, C1, e1, x1, y1⟩ := u1.arr
  obtain ⟨P2, C2, e2, x2, y2⟩ := u2.arr
  obtain ⟨Q1, D1, e3, x3, y3⟩ := v1.arr
  obtain ⟨Q2, D2, e4, x4, y4⟩ := v2.arr
  rw [e1, e2, e3, e4]
  refine (raddVO_ n n' m m' K hK s s2 a1 a2 b1 b2 P1 P2 Q1 Q2 C1 C2 D1 D2 w x1 y1 x2 y2 x3 y3 x4 y4 (u3 K hK) (v3 K hK)).mono ?_
  rintro e w' ⟨vn, vd, a', b', ng, rfl, o1, o2, ⟨f1, f2, f3, f4⟩, g⟩
  obtain ⟨p3, c3, rfl, -, -⟩ := o1.arr
  obtain ⟨q3, d3, rfl, -, -⟩ := o2.arr
  exact ⟨ng, p3, _, c3, q3, _, d3, rfl, ⟨a', b', o1, o2, f2, f3, f4, f1⟩, g⟩
theorem qbits_ (s : Bool) (p : Option Addr) (l c : Nat) (q : Option Addr) (k d : Nat) (Z : Int → Nat) (dd : Int) (B1 : Nat) (w : World) (h : QP B1 w s p l c q k d Z) : Calls Try.prog 69 #[.int .i64 dd, .agg #[.bool s, .slice p l c, .slice q k d]] w fun e w' => e = .returned (.int .u64 ((Z dd : Nat) : Int)) ∧ Kp w w' := by
  obtain ⟨a, b, u1, u2, u3, u4, u5, u6⟩ := h
  have h := rbits_ dd s (.slice p l c) (.slice q k d) a b w u1.ls u2.ls u3 u4 u5
  rw [u6 dd] at h
  exact h

theorem frac_exact9 (x D a b K S : Nat) (hF : FracOf x D 0 a b) (hD : D ≠ 0) (hx : x * 2 ^ K = S * D) : a * 2 ^ K = S * b := by
  obtain ⟨hb, h00, hrv, -, -⟩ := hF
  have hDp : 0 < D := by omega
  by_cases h0 : x = 0
  · have hS : S = 0 := by
      rw [h0, Nat.zero_mul] at hx
      rcases Nat.mul_eq_zero.1 hx.symm with h | h
      · exact h
      · exact absurd h hD
    rw [h00.2 h0, hS, Nat.zero_mul, Nat.zero_mul]
  have hbp : 0 < b := by omega
  have hfl : ∀ j : Nat, a * 2 ^ K * 2 ^ j / b = S * 2 ^ j := fun j => by
    obtain ⟨p, hp⟩ : ∃ p, p = blen (a * 2 ^ (K + j) / b) + blen (x * 2 ^ (K + j) / D) := ⟨_, rfl⟩
    have h := hrv (-1) p ((K + j : Nat) : Int) h0
    unfold rV at h
    rw [Int.add_zero, show (((K + j : Nat) : Int)).toNat = K + j from by omega, show (-((K + j : Nat) : Int)).toNat = 0 from by omega, Nat.pow_zero, Nat.mul_one, Nat.mul_one, rU_floor p _ b (by rw [hp]; omega), rU_floor p _ D (by rw [hp]; omega), Nat.pow_add] at h
    rw [Nat.mul_assoc, h, ← Nat.mul_assoc, hx, Nat.mul_right_comm, Nat.mul_div_cancel _ hDp]
  obtain ⟨A9, hA⟩ : ∃ A9, A9 = a * 2 ^ K := ⟨_, rfl⟩
  rw [← hA] at hfl ⊢
  have h1 := hfl 0
  rw [Nat.pow_zero, Nat.mul_one, Nat.mul_one] at h1
  have h2 : S * b ≤ A9 := by rw [← h1]; exact Nat.div_mul_le_self A9 b
  obtain ⟨E9, hE⟩ : ∃ E9, E9 = A9 - S * b := ⟨_, rfl⟩
  by_cases c : E9 = 0
  · omega
  · exfalso
    have h3 := hfl (blen b)
    have h4 : b < 2 ^ blen b := (blen_spec b hb).2.1
    have e1 : A9 = S * b + E9 := by omega
    rw [e1, Nat.add_mul, Nat.mul_right_comm, Nat.add_comm, Nat.add_mul_div_right _ _ hbp] at h3
    have h5 : E9 * 2 ^ blen b / b = 0 := by omega
    have h6 : b ≤ E9 * 2 ^ blen b := Nat.le_trans (Nat.le_of_lt h4) (Nat.le_mul_of_pos_left _ (by omega))
    have h7 := (Nat.le_div_iff_mul_le hbp (x := 1)).2 (by rw [Nat.one_mul]; exact h6)
    omega
/-- a ratio's parts tell V of the least places -/
def VF (s : Bool) (a b : Nat) (V : Int) : Prop := ∀ K : Nat, K = 1074 → b ≠ 0 ∧ a * 2 ^ K = V.natAbs * b ∧ (V ≠ 0 → s = decide (V < 0)) ∧ blen a ≤ 100000 ∧ blen b ≤ 100000
/-- a ratio that is V of the least places, with rows of its own from 'base' on -/
def VP (base : Nat) (w : World) (s : Bool) (p : Option Addr) (l c : Nat) (q : Option Addr) (k d : Nat) (V : Int) : Prop := ∃ a b, Own w base (.slice p l c) (dig a) ∧ Own w base (.slice q k d) (dig b) ∧ VF s a b V
theorem VP.kp {base : Nat} {w : World} {s : Bool} {p : Option Addr} {l c : Nat} {q : Option Addr} {k d : Nat} {V : Int} {w' : World} (h : VP base w s p l c q k d V) (g : Kp w w') : VP base w' s p l c q k d V := by
  obtain ⟨a, b, h1, h2, h3⟩ := h
  exact ⟨a, b, h1.kp g, h2.kp g, h3⟩
theorem VP.mono {base : Nat} {w : World} {s : Bool} {p : Option Addr} {l c : Nat} {q : Option Addr} {k d : Nat} {V : Int} {base' : Nat} (h : VP base w s p l c q k d V) (g : base' ≤ base) : VP base' w s p l c q k d V := by
  obtain ⟨a, b, h1, h2, h3⟩ := h
  exact ⟨a, b, h1.mono g, h2.mono g, h3⟩
theorem VP.set {base : Nat} {w : World} {s : Bool} {p : Option Addr} {l c : Nat} {q : Option Addr} {k d : Nat} {V : Int} (h : VP base w s p l c q k d V) {x : Addr} (hx : x.block < base) (u : Value) : VP base (w.setCell x u) s p l c q k d V := by
  obtain ⟨a, b, h1, h2, h3⟩ := h
  exact ⟨a, b, h1.setOther hx u, h2.setOther hx u, h3⟩
theorem RP.vp {base : Nat} {w : World} {s : Bool} {p : Option Addr} {l c : Nat} {q : Option Addr} {k d : Nat} {n : Bool} {m : Nat} (h : RP base w s p l c q k d n m) : VP base w s p l c q k d (Iv n m) := by
  obtain ⟨a, b, h1, h2, h3⟩ := h
  refine ⟨a, b, h1, h2, fun K hK => ?_⟩
  obtain ⟨f1, f2, f3, f4, f5⟩ := h3 K hK
  refine ⟨f1, ?_, ?_, by omega, by omega⟩
  · rw [f2]; congr 1
    unfold Iv; cases n <;> simp
  · intro hne
    rw [f3] at hne ⊢
    cases s <;> simp at hne ⊢ <;> omega
theorem VF.iv {s : Bool} {a b : Nat} {V : Int} (h : VF s a b V) (K : Nat) (hK : K = 1074) : rvI s a * ((2 ^ K : Nat) : Int) = V * (b : Int) := by
  obtain ⟨h0, h1, h2, -, -⟩ := h K hK
  by_cases z : V = 0
  · rw [z, Int.natAbs_zero, Nat.zero_mul] at h1
    have hp := Nat.two_pow_pos K
    rcases Nat.mul_eq_zero.1 h1 with h | h
    · rw [z, h]; unfold rvI; cases s <;> simp
    · omega
  · have h2 := h2 z
    have h3 : ((a * 2 ^ K : Nat) : Int) = ((V.natAbs * b : Nat) : Int) := by rw [h1]
    rw [Int.natCast_mul, Int.natCast_mul] at h3
    unfold rvI
    by_cases c : V < 0
    · have : (V.natAbs : Int) = -V := by omega
      rw [decide_eq_true c] at h2
      rw [this] at h3
      rw [h2, if_pos rfl, Int.neg_mul, h3, Int.neg_mul, Int.neg_neg]
    · have : (V.natAbs : Int) = V := by omega
      rw [decide_eq_false c] at h2
      rw [this] at h3
      rw [h2, if_neg (by decide), h3]
theorem VF.bits {s : Bool} {a b : Nat} {V : Int} (h : VF s a b V) (dd : Int) : refW 53 1074 2098 9218868437227405311 0 dd s a b = sumW dd V := by
  obtain ⟨K, hK⟩ : ∃ K : Nat, K = 1074 := ⟨_, rfl⟩
  obtain ⟨f1, f2, f3, f4, f5⟩ := h K hK
  exact ratio_sum dd V a b a b K s hK f1 ⟨f1, Iff.rfl, fun d' p' t' _ => by rw [Int.add_zero], by omega, by omega⟩ f2 s (fun _ => rfl) f3
theorem vbits_ (s : Bool) (p : Option Addr) (l c : Nat) (q : Option Addr) (k d : Nat) (V dd : Int) (B1 : Nat) (w : World) (h : VP B1 w s p l c q k d V) : Calls Try.prog 69 #[.int .i64 dd, .agg #[.bool s, .slice p l c, .slice q k d]] w fun e w' => e = .returned (.int .u64 ((sumW dd V : Nat) : Int)) ∧ Kp w w' := by
  obtain ⟨a, b, u1, u2, u3⟩ := h
  have hf := u3 1074 rfl
  have h := rbits_ dd s (.slice p l c) (.slice q k d) a b w u1.ls u2.ls hf.1 (by have := hf.2.2.2.1; omega) (by have := hf.2.2.2.2; omega)
  rw [u3.bits dd] at h
  exact h
theorem vcmp_ (B1 B2 : Nat) (V V' : Int) (s : Bool) (p : Option Addr) (l c : Nat) (q : Option Addr) (k d : Nat) (s2 : Bool) (p2 : Option Addr) (l2 c2 : Nat) (q2 : Option Addr) (k2 d2 : Nat) (w : World) (h1 : VP B1 w s p l c q k d V) (h2 : VP B2 w s2 p2 l2 c2 q2 k2 d2 V') : Calls Try.prog 108 #[.agg #[.bool s, .slice p l c, .slice q k d], .agg #[.bool s2, .slice p2 l2 c2, .slice q2 k2 d2]] w fun e w' => e = .returned (.int .i64 (cmI V V')) ∧ Kp w w' := by
  obtain ⟨a, b, o1, o2, f1⟩ := h1
  obtain ⟨x, y, o3, o4, f2⟩ := h2
  obtain ⟨K, hK⟩ : ∃ K : Nat, K = 1074 := ⟨_, rfl⟩
  have i1 := f1.iv K hK
  have i2 := f2.iv K hK
  obtain ⟨zb, -, -, j1, j2⟩ := f1 K hK
  obtain ⟨zy, -, -, j3, j4⟩ := f2 K hK
  have h := rcmp6_ s p l c q k d s2 p2 l2 c2 q2 k2 d2 a b x y B1 B2 w o1 o2 o3 o4 zb zy (by omega) (by omega) (by omega) (by omega)
  have e : cmI (rvI s a * (y : Int)) (rvI s2 x * (b : Int)) = cmI V V' := by
    have pk : (0 : Int) < ((2 ^ K : Nat) : Int) := by have := Nat.two_pow_pos K; omega
    have pb : (0 : Int) < (b : Int) * (y : Int) := Int.mul_pos (by omega) (by omega)
    rw [← cmI_scale _ _ _ pk, ← cmI_scale V V' _ pb]
    rw [Int.mul_right_comm, i1, Int.mul_right_comm (rvI s2 x), i2, Int.mul_assoc, Int.mul_assoc, Int.mul_comm (y : Int) (b : Int)]
  rw [e] at h
  exact h
theorem vsign_ (s : Bool) (p : Option Addr) (l c : Nat) (q : Option Addr) (k d : Nat) (V : Int) (B1 : Nat) (w : World) (h : VP B1 w s p l c q k d V) : Calls Try.prog 100 #[.agg #[.bool s, .slice p l c, .slice q k d]] w fun e w' => e = .returned (.int .i64 (cmI V 0)) ∧ Kp w w' := by
  obtain ⟨a, b, u1, u2, u3⟩ := h
  obtain ⟨K, hK⟩ : ∃ K : Nat, K = 1074 := ⟨_, rfl⟩
  obtain ⟨f1, f2, f3, f4, f5⟩ := u3 K hK
  have h := rsign_ s (.slice p l c) (.slice q k d) a w u1.ls (by omega)
  have hz : a = 0 ↔ V = 0 := by
    have hp := Nat.two_pow_pos K
    constructor
    · intro h0; rw [h0, Nat.zero_mul] at f2
      rcases Nat.mul_eq_zero.1 f2.symm with h1 | h1 <;> omega
    · intro h0; rw [h0, Int.natAbs_zero, Nat.zero_mul] at f2
      rcases Nat.mul_eq_zero.1 f2 with h1 | h1
      · exact h1
      · omega
  have e : (if a = 0 then 0 else if s then (-1 : Int) else 1) = cmI V 0 := by
    by_cases c : V = 0
    · rw [if_pos (hz.2 c), c, cmI_eq]
    · rw [if_neg (fun x => c (hz.1 x)), f3 c]
      by_cases c2 : V < 0
      · rw [decide_eq_true c2, if_pos rfl, cmI_lt _ _ c2]
      · rw [decide_eq_false c2, if_neg (by decide), cmI_gt _ _ (by omega)]
  rw [e] at h
  exact h
set_option maxRecDepth 20000 in
set_option maxHeartbeats 400000 in
theorem raddVG_ (U U' : Int) (va vb : Nat) (K : Nat) (sa sb : Bool) (a1 a2 b1 b2 : Nat) (P1 P2 Q1 Q2 : Option Addr) (C1 C2 D1 D2 : Nat) (w : World) (h1 : Arr w P1 (dig a1)) (l1 : (dig a1).length ≤ C1) (h2 : Arr w P2 (dig a2)) (l2 : (dig a2).length ≤ C2) (h3 : Arr w Q1 (dig b1)) (l3 : (dig b1).length ≤ D1) (h4 : Arr w Q2 (dig b2)) (l4 : (dig b2).length ≤ D2) (ha : a2 ≠ 0 ∧ a1 * 2 ^ K = va * a2 ∧ U = (if sa then -((va : Nat) : Int) else ((va : Nat) : Int)) ∧ blen a1 ≤ 1500 ∧ blen a2 ≤ 1500) (hb : b2 ≠ 0 ∧ b1 * 2 ^ K = vb * b2 ∧ U' = (if sb then -((vb : Nat) : Int) else ((vb : Nat) : Int)) ∧ blen b1 ≤ 1500 ∧ blen b2 ≤ 1500) :
    Calls Try.prog 78 #[.agg #[.bool sa, .slice P1 (dig a1).length C1, .slice P2 (dig a2).length C2], .agg #[.bool sb, .slice Q1 (dig b1).length D1, .slice Q2 (dig b2).length D2]] w fun e w' => ∃ (vn vd : Value) (a' b' : Nat) (ng : Bool), e = .returned (.agg #[.bool ng, vn, vd]) ∧ Own w' w.heap.size vn (dig a') ∧ Own w' w.heap.size vd (dig b') ∧ ((a' * 2 ^ K = (U + U').natAbs * b' ∧ (U + U' ≠ 0 → ng = decide (U + U' < 0))) ∧ b' ≠ 0 ∧ blen a' ≤ 100000 ∧ blen b' ≤ 100000) ∧ Kp w w' := by
  obtain ⟨za, ea, ia, ba1, ba2⟩ := ha
  obtain ⟨zb, eb, ib, bb1, bb2⟩ := hb
  obtain ⟨X, hX⟩ : ∃ X, X = a1 * b2 := ⟨_, rfl⟩
  obtain ⟨Y, hY⟩ : ∃ Y, Y = b1 * a2 := ⟨_, rfl⟩
  obtain ⟨D, hD⟩ : ∃ D, D = a2 * b2 := ⟨_, rfl⟩
  have hzD : D ≠ 0 := by rw [hD]; exact Nat.mul_ne_zero za zb
  have eX : X * 2 ^ K = va * D := by rw [hX, hD, Nat.mul_right_comm, ea, Nat.mul_assoc]
  have eY : Y * 2 ^ K = vb * D := by rw [hY, hD, Nat.mul_right_comm, eb, Nat.mul_assoc, Nat.mul_comm b2 a2]
  have bl : ∀ u v : Nat, blen u ≤ 1500 → blen v ≤ 1500 → blen (u * v) ≤ 3000 := fun u v h1 h2 => by
    obtain ⟨T5, hT5⟩ : ∃ T5 : Nat, T5 = 1500 := ⟨_, rfl⟩
    have g : blen (u * v) ≤ T5 + T5 := by
      rw [blen_le_iff, Nat.pow_add]
      exact Nat.mul_lt_mul'' ((blen_le_iff u T5).1 (by omega)) ((blen_le_iff v T5).1 (by omega))
    omega
  have bX : blen X ≤ 3000 := by rw [hX]; exact bl _ _ ba1 bb2
  have bY : blen Y ≤ 3000 := by rw [hY]; exact bl _ _ bb1 ba2
  have bD : blen D ≤ 3000 := by rw [hD]; exact bl _ _ ba2 bb2
  obtain ⟨T9, hT9⟩ : ∃ T9 : Nat, T9 = 3000 := ⟨_, rfl⟩
  have bS : ∀ c, c ≤ X + Y → blen c ≤ T9 + 1 := fun c hc => by
    have g1 := (blen_le_iff X T9).1 (by omega)
    have g2 := (blen_le_iff Y T9).1 (by omega)
    rw [blen_le_iff, Nat.pow_succ]; omega
  have lX : len32 X ≤ 16000 := dlen X 16000 (by omega)
  have lY : len32 Y ≤ 16000 := dlen Y 16000 (by omega)
  have lD : len32 D ≤ 16000 := dlen D 16000 (by omega)
  have lS : len32 (X + Y) ≤ 16000 := dlen (X + Y) 16000 (by have := bS (X + Y) (Nat.le_refl _); omega)
  have k1 : len32 a1 ≤ 4000 := dlen a1 4000 (by omega)
  have k2 : len32 a2 ≤ 4000 := dlen a2 4000 (by omega)
  have k3 : len32 b1 ≤ 4000 := dlen b1 4000 (by omega)
  have k4 : len32 b2 ≤ 4000 := dlen b2 4000 (by omega)
  have fin : ∀ (x : Nat) (neg : Bool) (a' b' : Nat) (ng : Bool), x ≤ X + Y → x * 2 ^ K = (U + U').natAbs * D → (U + U' ≠ 0 → neg = decide (U + U' < 0)) → (FracOf x D 0 a' b' ∧ (x ≠ 0 → ng = neg)) → ((a' * 2 ^ K = (U + U').natAbs * b' ∧ (U + U' ≠ 0 → ng = decide (U + U' < 0))) ∧ b' ≠ 0 ∧ blen a' ≤ 100000 ∧ blen b' ≤ 100000) := fun x neg a' b' ng hx hv hn hF => by
    refine ⟨⟨frac_exact9 x D a' b' K _ hF.1 hzD hv, fun h0 => (hF.2 (fun hx0 => h0 (by rw [hx0, Nat.zero_mul] at hv; rcases Nat.mul_eq_zero.1 hv.symm with g | g; exact Int.natAbs_eq_zero.1 g; exact absurd g hzD))).trans (hn h0)⟩, hF.1.1, ?_, ?_⟩
    · have g1 := hF.1.2.2.2.1; have g2 := bS x hx; simp at g1; omega
    · have g1 := hF.1.2.2.2.2; simp at g1; omega
  by_cases c1 : sa = sb
  · refine (raddEqO_ sa sb a1 a2 b1 b2 P1 P2 Q1 Q2 C1 C2 D1 D2 w h1 l1 h2 l2 h3 l3 h4 l4 k1 k2 k3 k4 za zb X Y D hX hY hD lX lY lD lS c1).mono ?_
    rintro e w' ⟨vn, vd, a', b', ng, he, q1, q2, q3, q4⟩
    refine ⟨vn, vd, a', b', ng, he, q1, q2, fin (X + Y) sa a' b' ng (Nat.le_refl _) ?_ ?_ q3, q4⟩
    · have : (U + U').natAbs = va + vb := by rw [ia, ib, ← c1]; cases sa <;> simp <;> omega
      rw [this, Nat.add_mul, Nat.add_mul, eX, eY]
    · intro hne
      rw [ia, ib, ← c1] at hne ⊢
      cases sa <;> simp at hne ⊢ <;> omega
  · have hcmp : Y ≤ X ↔ vb ≤ va := by
      have hp := Nat.two_pow_pos K
      constructor
      · intro h
        have g := Nat.mul_le_mul_right (2 ^ K) h
        rw [eX, eY] at g
        exact Nat.le_of_mul_le_mul_right g (by omega)
      · intro h
        have g := Nat.mul_le_mul_right D h
        rw [← eX, ← eY] at g
        exact Nat.le_of_mul_le_mul_right g hp
    by_cases c2 : Y ≤ X
    · have hv := hcmp.1 c2
      refine (raddGeO_ sa sb a1 a2 b1 b2 P1 P2 Q1 Q2 C1 C2 D1 D2 w h1 l1 h2 l2 h3 l3 h4 l4 k1 k2 k3 k4 za zb X Y D hX hY hD lX lY lD lS c1 c2).mono ?_
      rintro e w' ⟨vn, vd, a', b', ng, he, q1, q2, q3, q4⟩
      refine ⟨vn, vd, a', b', ng, he, q1, q2, fin (X - Y) sa a' b' ng (by omega) ?_ ?_ q3, q4⟩
      · have : (U + U').natAbs = va - vb := by rw [ia, ib]; cases sa <;> cases sb <;> simp at c1 ⊢ <;> omega
        rw [this, Nat.sub_mul, Nat.sub_mul, eX, eY]
      · intro hne
        rw [ia, ib] at hne ⊢
        cases sa <;> cases sb <;> simp at c1 hne ⊢ <;> omega
    · have hv : va < vb := by
        rcases Nat.lt_or_ge va vb with h | h
        · exact h
        · exact absurd (hcmp.2 h) c2
      refine (raddLtO_ sa sb a1 a2 b1 b2 P1 P2 Q1 Q2 C1 C2 D1 D2 w h1 l1 h2 l2 h3 l3 h4 l4 k1 k2 k3 k4 za zb X Y D hX hY hD lX lY lD lS c1 (by omega)).mono ?_
      rintro e w' ⟨vn, vd, a', b', ng, he, q1, q2, q3, q4⟩
      refine ⟨vn, vd, a', b', ng, he, q1, q2, fin (Y - X) sb a' b' ng (by omega) ?_ ?_ q3, q4⟩
      · have : (U + U').natAbs = vb - va := by rw [ia, ib]; cases sa <;> cases sb <;> simp at c1 ⊢ <;> omega
        rw [this, Nat.sub_mul, Nat.sub_mul, eX, eY]
      · intro hne
        rw [ia, ib] at hne ⊢
        cases sa <;> cases sb <;> simp at c1 hne ⊢ <;> omega

theorem vadd_ (n n' : Bool) (m m' : Nat) (s : Bool) (p : Option Addr) (l c : Nat) (q : Option Addr) (k d : Nat) (s2 : Bool) (p2 : Option Addr) (l2 c2 : Nat) (q2 : Option Addr) (k2 d2 : Nat) (B1 B2 : Nat) (w : World) (h1 : RP B1 w s p l c q k d n m) (h2 : RP B2 w s2 p2 l2 c2 q2 k2 d2 n' m') : Calls Try.prog 78 #[.agg #[.bool s, .slice p l c, .slice q k d], .agg #[.bool s2, .slice p2 l2 c2, .slice q2 k2 d2]] w fun e w' => ∃ (s3 : Bool) (p3 : Option Addr) (l3 c3 : Nat) (q3 : Option Addr) (k3 d3 : Nat), e = .returned (.agg #[.bool s3, .slice p3 l3 c3, .slice q3 k3 d3]) ∧ VP w.heap.size w' s3 p3 l3 c3 q3 k3 d3 (Iv n m + Iv n' m') ∧ Kp w w' := by
  obtain ⟨a1, a2, u1, u2, u3⟩ := h1
  obtain ⟨b1, b2, v1, v2, v3⟩ := h2
  obtain ⟨K, hK⟩ : ∃ K : Nat, K = 1074 := ⟨_, rfl⟩
  obtain ⟨P1, C1, e1, x1, y1⟩ := u1.arr
  obtain ⟨P2, C2, e2, x2, y2⟩ := u2.arr
  obtain ⟨Q1, D1, e3, x3, y3⟩ := v1.arr
  obtain ⟨Q2, D2, e4, x4, y4⟩ := v2.arr
  rw [e1, e2, e3, e4]
  refine (raddVG_ (Iv n m) (Iv n' m') _ _ K s s2 a1 a2 b1 b2 P1 P2 Q1 Q2 C1 C2 D1 D2 w x1 y1 x2 y2 x3 y3 x4 y4 (u3 K hK) (v3 K hK)).mono ?_
  rintro e w' ⟨vn, vd, a', b', ng, rfl, o1, o2, ⟨⟨f1, f2⟩, f3, f4, f5⟩, g⟩
  obtain ⟨p3, c3, rfl, -, -⟩ := o1.arr
  obtain ⟨q3, d3, rfl, -, -⟩ := o2.arr
  exact ⟨ng, p3, _, c3, q3, _, d3, rfl, ⟨a', b', o1, o2, fun K' hK' => ⟨f3, by rw [hK', ← hK]; exact f1, f2, f4, f5⟩⟩, g⟩
end Go.Proofs.Ytnjbheammpdjfaa
