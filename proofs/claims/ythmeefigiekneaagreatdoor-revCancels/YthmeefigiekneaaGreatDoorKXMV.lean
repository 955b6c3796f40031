import Derived.Test.YthmeefigiekneaaGreatDoorProg
import Derived.Test.YthmeefigiekneaaGreatDoorKXA0
import Derived.Test.YthmeefigiekneaaGreatDoorKXM
import Derived.Test.YthmeefigiekneaaGreatDoorKXY
import Derived.Test.YthmeefigiekneaaGreatDoorKXQF
import Derived.Test.YthmeefigiekneaaGreatDoorKQA
import Derived.Test.YthmeefigiekneaaGreatDoorKQP
import Derived.Test.YthmeefigiekneaaGreatDoorKXQU
import Derived.Test.YthmeefigiekneaaGreatDoorKQB
import Derived.Test.YthmeefigiekneaaGreatDoorKQBT
import Derived.Test.YthmeefigiekneaaGreatDoorKQJd
import Derived.Test.YthmeefigiekneaaGreatDoorKXEA
import Derived.Test.YthmeefigiekneaaGreatDoorKXED
import Derived.Test.YthmeefigiekneaaGreatDoorKMR7Q
import Derived.Test.YthmeefigiekneaaGreatDoorKXMR
import Derived.Test.YthmeefigiekneaaGreatDoorKXM3
import Derived.Test.YthmeefigiekneaaGreatDoorKXO
import Derived.Test.YthmeefigiekneaaGreatDoorKXO3
import Derived.Test.YthmeefigiekneaaGreatDoorKXT
import Derived.Test.YthmeefigiekneaaGreatDoorKXLX
import Derived.Test.YthmeefigiekneaaGreatDoorKRX
import Derived.Test.YthmeefigiekneaaGreatDoorKXRL
import Derived.Test.YthmeefigiekneaaGreatDoorKXCO
import Derived.Test.YthmeefigiekneaaGreatDoorKLN
import Derived.Test.YthmeefigiekneaaGreatDoorKXRN
import Derived.Test.YthmeefigiekneaaGreatDoorKXW4
import Derived.Test.YthmeefigiekneaaGreatDoorKXBY
import Derived.Test.YthmeefigiekneaaGreatDoorKXTZ
import Derived.Test.YthmeefigiekneaaGreatDoorKXG1
import Derived.Test.YthmeefigiekneaaGreatDoorKXH2Q
import Derived.Test.YthmeefigiekneaaGreatDoorKXG4
import Derived.Test.YthmeefigiekneaaGreatDoorKXS1
import Derived.Test.YthmeefigiekneaaGreatDoorKXS6
import Derived.Test.YthmeefigiekneaaGreatDoorKXET
import Derived.Test.YthmeefigiekneaaGreatDoorKXEC
import Derived.WalkKit
import Derived.ProofKit
import Derived.RowKit3
import Derived.WalkSpells
import Derived.StillTactics
import Derived.Deep.QuietTactic
import Derived.BigQuiet
import Derived.Below
import Derived.Deep.OwnRows
import Derived.OwnWalk
import Derived.Laws.BitsAllLaws
import Derived.Laws.Slices
import Derived.Laws.Bits64b
import Derived.Laws.FloatArith
import Derived.Deep.RegionHeld3
namespace Go.Proofs.YthmeefigiekneaaGreatDoor
open Go.RowKit

/-- a ratio that is rounded to Z d in direction d, with rows of its own from 'base' on -/
def QP (base : Nat) (w : World) (s : Bool) (p : Option Addr) (l c : Nat) (q : Option Addr) (k d : Nat) (Z : Int → Nat) : Prop := ∃ a b, Own w base (.slice p l c) (dig a) ∧ Own w base (.slice q k d) (dig b) ∧ b ≠ 0 ∧ blen a ≤ 4194304 ∧ blen b ≤ 4194304 ∧ ∀ dd : Int, refW 53 1074 2098 9218868437227405311 0 dd s a b = Z dd
theorem QP.kp {base : Nat} {w w' : World} {s : Bool} {p : Option Addr} {l c : Nat} {q : Option Addr} {k d : Nat} {Z : Int → Nat} (h : QP base w s p l c q k d Z) (g : Kp w w') : QP base w' s p l c q k d Z := by
  obtain ⟨a, b, h1, h2, h3⟩ := h
  exact ⟨a, b, h1.kp g, h2.kp g, h3⟩
theorem QP.mono {base base' : Nat} {w : World} {s : Bool} {p : Option Addr} {l c : Nat} {q : Option Addr} {k d : Nat} {Z : Int → Nat} (h : QP base w s p l c q k d Z) (g : base' ≤ base) : QP base' w s p l c q k d Z := by
  obtain ⟨a, b, h1, h2, h3⟩ := h
  exact ⟨a, b, h1.mono g, h2.mono g, h3⟩
theorem QP.set {base : Nat} {w : World} {s : Bool} {p : Option Addr} {l c : Nat} {q : Option Addr} {k d : Nat} {Z : Int → Nat} (h : QP base w s p l c q k d Z) {x : Addr} (hx : x.block < base) (u : Value) : QP base (w.setCell x u) s p l c q k d Z := by
  obtain ⟨a, b, h1, h2, h3⟩ := h
  exact ⟨a, b, h1.setOther hx u, h2.setOther hx u, h3⟩
theorem QP.congr {base : Nat} {w : World} {s : Bool} {p : Option Addr} {l c : Nat} {q : Option Addr} {k d : Nat} {Z Y : Int → Nat} (h : QP base w s p l c q k d Z) (e : Z = Y) : QP base w s p l c q k d Y := e ▸ h
/-- a number's ratio is rounded to the number -/
theorem RP.qp {base : Nat} {w : World} {s : Bool} {p : Option Addr} {l c : Nat} {q : Option Addr} {k d : Nat} {n : Bool} {m : Nat} (h : RP base w s p l c q k d n m) : QP base w s p l c q k d (fun dd => sumW dd (Iv n m)) := by
  obtain ⟨a, b, h1, h2, h3⟩ := h
  obtain ⟨K, hK⟩ : ∃ K : Nat, K = 1074 := ⟨_, rfl⟩
  obtain ⟨f1, f2, f3, f4, f5⟩ := h3 K hK
  refine ⟨a, b, h1, h2, f1, by omega, by omega, fun dd => ?_⟩
  refine ratio_sum dd (Iv n m) a b a b K s hK f1 ⟨f1, Iff.rfl, fun d' p' t' _ => by rw [Int.add_zero], by omega, by omega⟩ ?_ s (fun _ => rfl) ?_
  · rw [f2]
    congr 1
    unfold Iv; cases n <;> simp
  · intro hne
    rw [f3] at hne ⊢
    cases s <;> simp at hne ⊢ <;> omega

theorem qadd_ (n n' : Bool) (m m' : Nat) (s : Bool) (p : Option Addr) (l c : Nat) (q : Option Addr) (k d : Nat) (s2 : Bool) (p2 : Option Addr) (l2 c2 : Nat) (q2 : Option Addr) (k2 d2 : Nat) (B1 B2 : Nat) (w : World) (h1 : RP B1 w s p l c q k d n m) (h2 : RP B2 w s2 p2 l2 c2 q2 k2 d2 n' m') : Calls Tryz.prog 44 #[.agg #[.bool s, .slice p l c, .slice q k d], .agg #[.bool s2, .slice p2 l2 c2, .slice q2 k2 d2]] w fun e w' => ∃ (s3 : Bool) (p3 : Option Addr) (l3 c3 : Nat) (q3 : Option Addr) (k3 d3 : Nat), e = .returned (.agg #[.bool s3, .slice p3 l3 c3, .slice q3 k3 d3]) ∧ QP w.heap.size w' s3 p3 l3 c3 q3 k3 d3 (fun dd => sumW dd (Iv n m + Iv n' m')) ∧ Kp w w' := by
  obtain ⟨a1, a2, u1, u2, u3⟩ := h1
  obtain ⟨b1, b2, v1, v2, v3⟩ := h2
  obtain ⟨K, hK⟩ : ∃ K : Nat, K = 1074 := ⟨_, rfl⟩
  obtain ⟨P1, C1, e1, x1, y1⟩ := u1.arr
  obtain ⟨P2, C2, e2, x2, y2⟩ := u2.arr
  obtain ⟨Q1, D1, e3, x3, y3⟩ := v1.arr
  obtain ⟨Q2, D2, e4, x4, y4⟩ := v2.arr
  rw [e1, e2, e3, e4]
  refine (raddVO_ n n' m m' K hK s s2 a1 a2 b1 b2 P1 P2 Q1 Q2 C1 C2 D1 D2 w x1 y1 x2 y2 x3 y3 x4 y4 (u3 K hK) (v3 K hK)).mono ?_
  rintro e w' ⟨vn, vd, a', b', ng, rfl, o1, o2, ⟨f1, f2, f3, f4⟩, g⟩
  obtain ⟨p3, c3, rfl, -, -⟩ := o1.arr
  obtain ⟨q3, d3, rfl, -, -⟩ := o2.arr
  exact ⟨ng, p3, _, c3, q3, _, d3, rfl, ⟨a', b', o1, o2, f2, f3, f4, f1⟩, g⟩
theorem qbits_ (s : Bool) (p : Option Addr) (l c : Nat) (q : Option Addr) (k d : Nat) (Z : Int → Nat) (dd : Int) (B1 : Nat) (w : World) (h : QP B1 w s p l c q k d Z) : Calls Tryz.prog 27 #[.int .i64 dd, .agg #[.bool s, .slice p l c, .slice q k d]] w fun e w' => e = .returned (.int .u64 ((Z dd : Nat) : Int)) ∧ Kp w w' := by
  obtain ⟨a, b, u1, u2, u3, u4, u5, u6⟩ := h
  have h := rbits_ dd s (.slice p l c) (.slice q k d) a b w u1.ls u2.ls u3 u4 u5
  rw [u6 dd] at h
  exact h

theorem frac_exact9 (x D a b K S : Nat) (hF : FracOf x D 0 a b) (hD : D ≠ 0) (hx : x * 2 ^ K = S * D) : a * 2 ^ K = S * b := by
  obtain ⟨hb, h00, hrv, -, -⟩ := hF
  have hDp : 0 < D := by omega
  by_cases h0 : x = 0
  · have hS : S = 0 := by
      rw [h0, Nat.zero_mul] at hx
      rcases Nat.mul_eq_zero.1 hx.symm with h | h
      · exact h
      · exact absurd h hD
    rw [h00.2 h0, hS, Nat.zero_mul, Nat.zero_mul]
  have hbp : 0 < b := by omega
  have hfl : ∀ j : Nat, a * 2 ^ K * 2 ^ j / b = S * 2 ^ j := fun j => by
    obtain ⟨p, hp⟩ : ∃ p, p = blen (a * 2 ^ (K + j) / b) + blen (x * 2 ^ (K + j) / D) := ⟨_, rfl⟩
    have h := hrv (-1) p ((K + j : Nat) : Int) h0
    unfold rV at h
    rw [Int.add_zero, show (((K + j : Nat) : Int)).toNat = K + j from by omega, show (-((K + j : Nat) : Int)).toNat = 0 from by omega, Nat.pow_zero, Nat.mul_one, Nat.mul_one, rU_floor p _ b (by rw [hp]; omega), rU_floor p _ D (by rw [hp]; omega), Nat.pow_add] at h
    rw [Nat.mul_assoc, h, ← Nat.mul_assoc, hx, Nat.mul_right_comm, Nat.mul_div_cancel _ hDp]
  obtain ⟨A9, hA⟩ : ∃ A9, A9 = a * 2 ^ K := ⟨_, rfl⟩
  rw [← hA] at hfl ⊢
  have h1 := hfl 0
  rw [Nat.pow_zero, Nat.mul_one, Nat.mul_one] at h1
  have h2 : S * b ≤ A9 := by rw [← h1]; exact Nat.div_mul_le_self A9 b
  obtain ⟨E9, hE⟩ : ∃ E9, E9 = A9 - S * b := ⟨_, rfl⟩
  by_cases c : E9 = 0
  · omega
  · exfalso
    have h3 := hfl (blen b)
    have h4 : b < 2 ^ blen b := (blen_spec b hb).2.1
    have e1 : A9 = S * b + E9 := by omega
    rw [e1, Nat.add_mul, Nat.mul_right_comm, Nat.add_comm, Nat.add_mul_div_right _ _ hbp] at h3
    have h5 : E9 * 2 ^ blen b / b = 0 := by omega
    have h6 : b ≤ E9 * 2 ^ blen b := Nat.le_trans (Nat.le_of_lt h4) (Nat.le_mul_of_pos_left _ (by omega))
    have h7 := (Nat.le_div_iff_mul_le hbp (x := 1)).2 (by rw [Nat.one_mul]; exact h6)
    omega
/-- a ratio's parts tell V of the least places -/
def VF (s : Bool) (a b : Nat) (V : Int) : Prop := ∀ K : Nat, K = 1074 → b ≠ 0 ∧ a * 2 ^ K = V.natAbs * b ∧ (V ≠ 0 → s = decide (V < 0)) ∧ blen a ≤ 100000 ∧ blen b ≤ 100000
/-- a ratio that is V of the least places, with rows of its own from 'base' on -/
def VP (base : Nat) (w : World) (s : Bool) (p : Option Addr) (l c : Nat) (q : Option Addr) (k d : Nat) (V : Int) : Prop := ∃ a b, Own w base (.slice p l c) (dig a) ∧ Own w base (.slice q k d) (dig b) ∧ VF s a b V
theorem VP.kp {base : Nat} {w : World} {s : Bool} {p : Option Addr} {l c : Nat} {q : Option Addr} {k d : Nat} {V : Int} {w' : World} (h : VP base w s p l c q k d V) (g : Kp w w') : VP base w' s p l c q k d V := by
  obtain ⟨a, b, h1, h2, h3⟩ := h
  exact ⟨a, b, h1.kp g, h2.kp g, h3⟩
theorem VP.mono {base : Nat} {w : World} {s : Bool} {p : Option Addr} {l c : Nat} {q : Option Addr} {k d : Nat} {V : Int} {base' : Nat} (h : VP base w s p l c q k d V) (g : base' ≤ base) : VP base' w s p l c q k d V := by
  obtain ⟨a, b, h1, h2, h3⟩ := h
  exact ⟨a, b, h1.mono g, h2.mono g, h3⟩
theorem VP.set {base : Nat} {w : World} {s : Bool} {p : Option Addr} {l c : Nat} {q : Option Addr} {k d : Nat} {V : Int} (h : VP base w s p l c q k d V) {x : Addr} (hx : x.block < base) (u : Value) : VP base (w.setCell x u) s p l c q k d V := by
  obtain ⟨a, b, h1, h2, h3⟩ := h
  exact ⟨a, b, h1.setOther hx u, h2.setOther hx u, h3⟩
theorem RP.vp {base : Nat} {w : World} {s : Bool} {p : Option Addr} {l c : Nat} {q : Option Addr} {k d : Nat} {n : Bool} {m : Nat} (h : RP base w s p l c q k d n m) : VP base w s p l c q k d (Iv n m) := by
  obtain ⟨a, b, h1, h2, h3⟩ := h
  refine ⟨a, b, h1, h2, fun K hK => ?_⟩
  obtain ⟨f1, f2, f3, f4, f5⟩ := h3 K hK
  refine ⟨f1, ?_, ?_, by omega, by omega⟩
  · rw [f2]; congr 1
    unfold Iv; cases n <;> simp
  · intro hne
    rw [f3] at hne ⊢
    cases s <;> simp at hne ⊢ <;> omega
theorem VF.iv {s : Bool} {a b : Nat} {V : Int} (h : VF s a b V) (K : Nat) (hK : K = 1074) : rvI s a * ((2 ^ K : Nat) : Int) = V * (b : Int) := by
  obtain ⟨h0, h1, h2, -, -⟩ := h K hK
  by_cases z : V = 0
  · rw [z, Int.natAbs_zero, Nat.zero_mul] at h1
    have hp := Nat.two_pow_pos K
    rcases Nat.mul_eq_zero.1 h1 with h | h
    · rw [z, h]; unfold rvI; cases s <;> simp
    · omega
  · have h2 := h2 z
    have h3 : ((a * 2 ^ K : Nat) : Int) = ((V.natAbs * b : Nat) : Int) := by rw [h1]
    rw [Int.natCast_mul, Int.natCast_mul] at h3
    unfold rvI
    by_cases c : V < 0
    · have : (V.natAbs : Int) = -V := by omega
      rw [decide_eq_true c] at h2
      rw [this] at h3
      rw [h2, if_pos rfl, Int.neg_mul, h3, Int.neg_mul, Int.neg_neg]
    · have : (V.natAbs : Int) = V := by omega
      rw [decide_eq_false c] at h2
      rw [this] at h3
      rw [h2, if_neg (by decide), h3]
theorem VF.bits {s : Bool} {a b : Nat} {V : Int} (h : VF s a b V) (dd : Int) : refW 53 1074 2098 9218868437227405311 0 dd s a b = sumW dd V := by
  obtain ⟨K, hK⟩ : ∃ K : Nat, K = 1074 := ⟨_, rfl⟩
  obtain ⟨f1, f2, f3, f4, f5⟩ := h K hK
  exact ratio_sum dd V a b a b K s hK f1 ⟨f1, Iff.rfl, fun d' p' t' _ => by rw [Int.add_zero], by omega, by omega⟩ f2 s (fun _ => rfl) f3
theorem vbits_ (s : Bool) (p : Option Addr) (l c : Nat) (q : Option Addr) (k d : Nat) (V dd : Int) (B1 : Nat) (w : World) (h : VP B1 w s p l c q k d V) : Calls Tryz.prog 27 #[.int .i64 dd, .agg #[.bool s, .slice p l c, .slice q k d]] w fun e w' => e = .returned (.int .u64 ((sumW dd V : Nat) : Int)) ∧ Kp w w' := by
  obtain ⟨a, b, u1, u2, u3⟩ := h
  have hf := u3 1074 rfl
  have h := rbits_ dd s (.slice p l c) (.slice q k d) a b w u1.ls u2.ls hf.1 (by have := hf.2.2.2.1; omega) (by have := hf.2.2.2.2; omega)
  rw [u3.bits dd] at h
  exact h
theorem vcmp_ (B1 B2 : Nat) (V V' : Int) (s : Bool) (p : Option Addr) (l c : Nat) (q : Option Addr) (k d : Nat) (s2 : Bool) (p2 : Option Addr) (l2 c2 : Nat) (q2 : Option Addr) (k2 d2 : Nat) (w : World) (h1 : VP B1 w s p l c q k d V) (h2 : VP B2 w s2 p2 l2 c2 q2 k2 d2 V') : Calls Tryz.prog 26 #[.agg #[.bool s, .slice p l c, .slice q k d], .agg #[.bool s2, .slice p2 l2 c2, .slice q2 k2 d2]] w fun e w' => e = .returned (.int .i64 (cmI V V')) ∧ Kp w w' := by
  obtain ⟨a, b, o1, o2, f1⟩ := h1
  obtain ⟨x, y, o3, o4, f2⟩ := h2
  obtain ⟨K, hK⟩ : ∃ K : Nat, K = 1074 := ⟨_, rfl⟩
  have i1 := f1.iv K hK
  have i2 := f2.iv K hK
  obtain ⟨zb, -, -, j1, j2⟩ := f1 K hK
  obtain ⟨zy, -, -, j3, j4⟩ := f2 K hK
  have h := rcmp6_ s p l c q k d s2 p2 l2 c2 q2 k2 d2 a b x y B1 B2 w o1 o2 o3 o4 zb zy (by omega) (by omega) (by omega) (by omega)
  have e : cmI (rvI s a * (y : Int)) (rvI s2 x * (b : Int)) = cmI V V' := by
    have pk : (0 : Int) < ((2 ^ K : Nat) : Int) := by have := Nat.two_pow_pos K; omega
    have pb : (0 : Int) < (b : Int) * (y : Int) := Int.mul_pos (by omega) (by omega)
    rw [← cmI_scale _ _ _ pk, ← cmI_scale V V' _ pb]
    rw [Int.mul_right_comm, i1, Int.mul_right_comm (rvI s2 x), i2, Int.mul_assoc, Int.mul_assoc, Int.mul_comm (y : Int) (b : Int)]
  rw [e] at h
  exact h
theorem vsign_ (s : Bool) (p : Option Addr) (l c : Nat) (q : Option Addr) (k d : Nat) (V : Int) (B1 : Nat) (w : World) (h : VP B1 w s p l c q k d V) : Calls Tryz.prog 48 #[.agg #[.bool s, .slice p l c, .slice q k d]] w fun e w' => e = .returned (.int .i64 (cmI V 0)) ∧ Kp w w' := by
  obtain ⟨a, b, u1, u2, u3⟩ := h
  obtain ⟨K, hK⟩ : ∃ K : Nat, K = 1074 := ⟨_, rfl⟩
  obtain ⟨f1, f2, f3, f4, f5⟩ := u3 K hK
  have h := rsign_ s (.slice p l c) (.slice q k d) a w u1.ls (by omega)
  have hz : a = 0 ↔ V = 0 := by
    have hp := Nat.two_pow_pos K
    constructor
    · intro h0; rw [h0, Nat.zero_mul] at f2
      rcases Nat.mul_eq_zero.1 f2.symm with h1 | h1 <;> omega
    · intro h0; rw [h0, Int.natAbs_zero, Nat.zero_mul] at f2
      rcases Nat.mul_eq_zero.1 f2 with h1 | h1
      · exact h1
      · omega
  have e : (if a = 0 then 0 else if s then (-1 : Int) else 1) = cmI V 0 := by
    by_cases c : V = 0
    · rw [if_pos (hz.2 c), c, cmI_eq]
    · rw [if_neg (fun x => c (hz.1 x)), f3 c]
      by_cases c2 : V < 0
      · rw [decide_eq_true c2, if_pos rfl, cmI_lt _ _ c2]
      · rw [decide_eq_false c2, if_neg (by decide), cmI_gt _ _ (by omega)]
  rw [e] at h
  exact h
set_option maxRecDepth 20000 in
set_option maxHeartbeats 400000 in
theorem raddVG_ (U U' : Int) (va vb : Nat) (K : Nat) (sa sb : Bool) (a1 a2 b1 b2 : Nat) (P1 P2 Q1 Q2 : Option Addr) (C1 C2 D1 D2 : Nat) (w : World) (h1 : Arr w P1 (dig a1)) (l1 : (dig a1).length ≤ C1) (h2 : Arr w P2 (dig a2)) (l2 : (dig a2).length ≤ C2) (h3 : Arr w Q1 (dig b1)) (l3 : (dig b1).length ≤ D1) (h4 : Arr w Q2 (dig b2)) (l4 : (dig b2).length ≤ D2) (ha : a2 ≠ 0 ∧ a1 * 2 ^ K = va * a2 ∧ U = (if sa then -((va : Nat) : Int) else ((va : Nat) : Int)) ∧ blen a1 ≤ 1500 ∧ blen a2 ≤ 1500) (hb : b2 ≠ 0 ∧ b1 * 2 ^ K = vb * b2 ∧ U' = (if sb then -((vb : Nat) : Int) else ((vb : Nat) : Int)) ∧ blen b1 ≤ 1500 ∧ blen b2 ≤ 1500) :
    Calls Tryz.prog 44 #[.agg #[.bool sa, .slice P1 (dig a1).length C1, .slice P2 (dig a2).length C2], .agg #[.bool sb, .slice Q1 (dig b1).length D1, .slice Q2 (dig b2).length D2]] w fun e w' => ∃ (vn vd : Value) (a' b' : Nat) (ng : Bool), e = .returned (.agg #[.bool ng, vn, vd]) ∧ Own w' w.heap.size vn (dig a') ∧ Own w' w.heap.size vd (dig b') ∧ ((a' * 2 ^ K = (U + U').natAbs * b' ∧ (U + U' ≠ 0 → ng = decide (U + U' < 0))) ∧ b' ≠ 0 ∧ blen a' ≤ 100000 ∧ blen b' ≤ 100000) ∧ Kp w w' := by
  obtain ⟨za, ea, ia, ba1, ba2⟩ := ha
  obtain ⟨zb, eb, ib, bb1, bb2⟩ := hb
  obtain ⟨X, hX⟩ : ∃ X, X = a1 * b2 := ⟨_, rfl⟩
  obtain ⟨Y, hY⟩ : ∃ Y, Y = b1 * a2 := ⟨_, rfl⟩
  obtain ⟨D, hD⟩ : ∃ D, D = a2 * b2 := ⟨_, rfl⟩
  have hzD : D ≠ 0 := by rw [hD]; exact Nat.mul_ne_zero za zb
  have eX : X * 2 ^ K = va * D := by rw [hX, hD, Nat.mul_right_comm, ea, Nat.mul_assoc]
  have eY : Y * 2 ^ K = vb * D := by rw [hY, hD, Nat.mul_right_comm, eb, Nat.mul_assoc, Nat.mul_comm b2 a2]
  have bl : ∀ u v : Nat, blen u ≤ 1500 → blen v ≤ 1500 → blen (u * v) ≤ 3000 := fun u v h1 h2 => by
    obtain ⟨T5, hT5⟩ : ∃ T5 : Nat, T5 = 1500 := ⟨_, rfl⟩
    have g : blen (u * v) ≤ T5 + T5 := by
      rw [blen_le_iff, Nat.pow_add]
      exact Nat.mul_lt_mul'' ((blen_le_iff u T5).1 (by omega)) ((blen_le_iff v T5).1 (by omega))
    omega
  have bX : blen X ≤ 3000 := by rw [hX]; exact bl _ _ ba1 bb2
  have bY : blen Y ≤ 3000 := by rw [hY]; exact bl _ _ bb1 ba2
  have bD : blen D ≤ 3000 := by rw [hD]; exact bl _ _ ba2 bb2
  obtain ⟨T9, hT9⟩ : ∃ T9 : Nat, T9 = 3000 := ⟨_, rfl⟩
  have bS : ∀ c, c ≤ X + Y → blen c ≤ T9 + 1 := fun c hc => by
    have g1 := (blen_le_iff X T9).1 (by omega)
    have g2 := (blen_le_iff Y T9).1 (by omega)
    rw [blen_le_iff, Nat.pow_succ]; omega
  have lX : len32 X ≤ 16000 := dlen X 16000 (by omega)
  have lY : len32 Y ≤ 16000 := dlen Y 16000 (by omega)
  have lD : len32 D ≤ 16000 := dlen D 16000 (by omega)
  have lS : len32 (X + Y) ≤ 16000 := dlen (X + Y) 16000 (by have := bS (X + Y) (Nat.le_refl _); omega)
  have k1 : len32 a1 ≤ 4000 := dlen a1 4000 (by omega)
  have k2 : len32 a2 ≤ 4000 := dlen a2 4000 (by omega)
  have k3 : len32 b1 ≤ 4000 := dlen b1 4000 (by omega)
  have k4 : len32 b2 ≤ 4000 := dlen b2 4000 (by omega)
  have fin : ∀ (x : Nat) (neg : Bool) (a' b' : Nat) (ng : Bool), x ≤ X + Y → x * 2 ^ K = (U + U').natAbs * D → (U + U' ≠ 0 → neg = decide (U + U' < 0)) → (FracOf x D 0 a' b' ∧ (x ≠ 0 → ng = neg)) → ((a' * 2 ^ K = (U + U').natAbs * b' ∧ (U + U' ≠ 0 → ng = decide (U + U' < 0))) ∧ b' ≠ 0 ∧ blen a' ≤ 100000 ∧ blen b' ≤ 100000) := fun x neg a' b' ng hx hv hn hF => by
    refine ⟨⟨frac_exact9 x D a' b' K _ hF.1 hzD hv, fun h0 => (hF.2 (fun hx0 => h0 (by rw [hx0, Nat.zero_mul] at hv; rcases Nat.mul_eq_zero.1 hv.symm with g | g; exact Int.natAbs_eq_zero.1 g; exact absurd g hzD))).trans (hn h0)⟩, hF.1.1, ?_, ?_⟩
    · have g1 := hF.1.2.2.2.1; have g2 := bS x hx; simp at g1; omega
    · have g1 := hF.1.2.2.2.2; simp at g1; omega
  by_cases c1 : sa = sb
  · refine (raddEqO_ sa sb a1 a2 b1 b2 P1 P2 Q1 Q2 C1 C2 D1 D2 w h1 l1 h2 l2 h3 l3 h4 l4 k1 k2 k3 k4 za zb X Y D hX hY hD lX lY lD lS c1).mono ?_
    rintro e w' ⟨vn, vd, a', b', ng, he, q1, q2, q3, q4⟩
    refine ⟨vn, vd, a', b', ng, he, q1, q2, fin (X + Y) sa a' b' ng (Nat.le_refl _) ?_ ?_ q3, q4⟩
    · have : (U + U').natAbs = va + vb := by rw [ia, ib, ← c1]; cases sa <;> simp <;> omega
      rw [this, Nat.add_mul, Nat.add_mul, eX, eY]
    · intro hne
      rw [ia, ib, ← c1] at hne ⊢
      cases sa <;> simp at hne ⊢ <;> omega
  · have hcmp : Y ≤ X ↔ vb ≤ va := by
      have hp := Nat.two_pow_pos K
      constructor
      · intro h
        have g := Nat.mul_le_mul_right (2 ^ K) h
        rw [eX, eY] at g
        exact Nat.le_of_mul_le_mul_right g (by omega)
      · intro h
        have g := Nat.mul_le_mul_right D h
        rw [← eX, ← eY] at g
        exact Nat.le_of_mul_le_mul_right g hp
    by_cases c2 : Y ≤ X
    · have hv := hcmp.1 c2
      refine (raddGeO_ sa sb a1 a2 b1 b2 P1 P2 Q1 Q2 C1 C2 D1 D2 w h1 l1 h2 l2 h3 l3 h4 l4 k1 k2 k3 k4 za zb X Y D hX hY hD lX lY lD lS c1 c2).mono ?_
      rintro e w' ⟨vn, vd, a', b', ng, he, q1, q2, q3, q4⟩
      refine ⟨vn, vd, a', b', ng, he, q1, q2, fin (X - Y) sa a' b' ng (by omega) ?_ ?_ q3, q4⟩
      · have : (U + U').natAbs = va - vb := by rw [ia, ib]; cases sa <;> cases sb <;> simp at c1 ⊢ <;> omega
        rw [this, Nat.sub_mul, Nat.sub_mul, eX, eY]
      · intro hne
        rw [ia, ib] at hne ⊢
        cases sa <;> cases sb <;> simp at c1 hne ⊢ <;> omega
    · have hv : va < vb := by
        rcases Nat.lt_or_ge va vb with h | h
        · exact h
        · exact absurd (hcmp.2 h) c2
      refine (raddLtO_ sa sb a1 a2 b1 b2 P1 P2 Q1 Q2 C1 C2 D1 D2 w h1 l1 h2 l2 h3 l3 h4 l4 k1 k2 k3 k4 za zb X Y D hX hY hD lX lY lD lS c1 (by omega)).mono ?_
      rintro e w' ⟨vn, vd, a', b', ng, he, q1, q2, q3, q4⟩
      refine ⟨vn, vd, a', b', ng, he, q1, q2, fin (Y - X) sb a' b' ng (by omega) ?_ ?_ q3, q4⟩
      · have : (U + U').natAbs = vb - va := by rw [ia, ib]; cases sa <;> cases sb <;> simp at c1 ⊢ <;> omega
        rw [this, Nat.sub_mul, Nat.sub_mul, eX, eY]
      · intro hne
        rw [ia, ib] at hne ⊢
        cases sa <;> cases sb <;> simp at c1 hne ⊢ <;> omega

theorem vadd_ (n n' : Bool) (m m' : Nat) (s : Bool) (p : Option Addr) (l c : Nat) (q : Option Addr) (k d : Nat) (s2 : Bool) (p2 : Option Addr) (l2 c2 : Nat) (q2 : Option Addr) (k2 d2 : Nat) (B1 B2 : Nat) (w : World) (h1 : RP B1 w s p l c q k d n m) (h2 : RP B2 w s2 p2 l2 c2 q2 k2 d2 n' m') : Calls Tryz.prog 44 #[.agg #[.bool s, .slice p l c, .slice q k d], .agg #[.bool s2, .slice p2 l2 c2, .slice q2 k2 d2]] w fun e w' => ∃ (s3 : Bool) (p3 : Option Addr) (l3 c3 : Nat) (q3 : Option Addr) (k3 d3 : Nat), e = .returned (.agg #[.bool s3, .slice p3 l3 c3, .slice q3 k3 d3]) ∧ VP w.heap.size w' s3 p3 l3 c3 q3 k3 d3 (Iv n m + Iv n' m') ∧ Kp w w' := by
  obtain ⟨a1, a2, u1, u2, u3⟩ := h1
  obtain ⟨b1, b2, v1, v2, v3⟩ := h2
  obtain ⟨K, hK⟩ : ∃ K : Nat, K = 1074 := ⟨_, rfl⟩
  obtain ⟨P1, C1, e1, x1, y1⟩ := u1.arr
  obtain ⟨P2, C2, e2, x2, y2⟩ := u2.arr
  obtain ⟨Q1, D1, e3, x3, y3⟩ := v1.arr
  obtain ⟨Q2, D2, e4, x4, y4⟩ := v2.arr
  rw [e1, e2, e3, e4]
  refine (raddVG_ (Iv n m) (Iv n' m') _ _ K s s2 a1 a2 b1 b2 P1 P2 Q1 Q2 C1 C2 D1 D2 w x1 y1 x2 y2 x3 y3 x4 y4 (u3 K hK) (v3 K hK)).mono ?_
  rintro e w' ⟨vn, vd, a', b', ng, rfl, o1, o2, ⟨⟨f1, f2⟩, f3, f4, f5⟩, g⟩
  obtain ⟨p3, c3, rfl, -, -⟩ := o1.arr
  obtain ⟨q3, d3, rfl, -, -⟩ := o2.arr
  exact ⟨ng, p3, _, c3, q3, _, d3, rfl, ⟨a', b', o1, o2, fun K' hK' => ⟨f3, by rw [hK', ← hK]; exact f1, f2, f4, f5⟩⟩, g⟩
set_option maxRecDepth 20000 in
set_option maxHeartbeats 1000000 in
theorem rsubA_ (P : World → World → Value → Prop) (Q : World → World → Value → Prop) (s : Bool) (p : Option Addr) (l c : Nat) (q : Option Addr) (k d : Nat) (s2 : Bool) (p2 : Option Addr) (l2 c2 : Nat) (q2 : Option Addr) (k2 d2 : Nat) (w : World) (hN : ∀ W : World, Kp w W → Calls Tryz.prog 45 #[.agg #[.bool s2, .slice p2 l2 c2, .slice q2 k2 d2]] W fun e w' => ∃ (s5 : Bool) (p5 : Option Addr) (l5 c5 : Nat) (q5 : Option Addr) (k5 d5 : Nat), e = .returned (.agg #[.bool s5, .slice p5 l5 c5, .slice q5 k5 d5]) ∧ P w w' (.agg #[.bool s5, .slice p5 l5 c5, .slice q5 k5 d5]) ∧ Kp W w') (hA : ∀ (W : World) (s5 : Bool) (p5 : Option Addr) (l5 c5 : Nat) (q5 : Option Addr) (k5 d5 : Nat), Kp w W → P w W (.agg #[.bool s5, .slice p5 l5 c5, .slice q5 k5 d5]) → Calls Tryz.prog 44 #[.agg #[.bool s, .slice p l c, .slice q k d], .agg #[.bool s5, .slice p5 l5 c5, .slice q5 k5 d5]] W fun e w' => ∃ (s3 : Bool) (p3 : Option Addr) (l3 c3 : Nat) (q3 : Option Addr) (k3 d3 : Nat), e = .returned (.agg #[.bool s3, .slice p3 l3 c3, .slice q3 k3 d3]) ∧ Q W w' (.agg #[.bool s3, .slice p3 l3 c3, .slice q3 k3 d3]) ∧ Kp W w') : Calls Tryz.prog 24 #[.agg #[.bool s, .slice p l c, .slice q k d], .agg #[.bool s2, .slice p2 l2 c2, .slice q2 k2 d2]] w fun e w' => ∃ (W wh : World) (s3 : Bool) (p3 : Option Addr) (l3 c3 : Nat) (q3 : Option Addr) (k3 d3 : Nat), e = .returned (.agg #[.bool s3, .slice p3 l3 c3, .slice q3 k3 d3]) ∧ Q W wh (.agg #[.bool s3, .slice p3 l3 c3, .slice q3 k3 d3]) ∧ w' = (((wh).setCell ⟨w.heap.size + 2, 0, none⟩ (.bool s3)).setCell ⟨w.heap.size + 2, 1, none⟩ (.slice p3 l3 c3)).setCell ⟨w.heap.size + 2, 2, none⟩ (.slice q3 k3 d3) ∧ w.heap.size + 2 < W.heap.size ∧ Kp w wh := by
  go_enter Tryz.func24, Tryz.ntmps24
  go_wp2
  generalize hW : (((w.alloc (.cells #[.bool s, .slice p l c, .slice q k d] 46)).alloc (.cells #[.bool s2, .slice p2 l2 c2, .slice q2 k2 d2] 46)).alloc (.cells #[.bool false, .slice none 0 0, .slice none 0 0] 46)) = W
  have kw : Kp w W := by rw [← hW]; exact (((Kp.refl w).alloc _).alloc _).alloc _
  have xw0 : W.cell? ⟨w.heap.size, 0, none⟩ = some (.bool s) := by rw [← hW]; simp [go_sem]
  have dw0 : W.drew.cell? ⟨w.heap.size, 0, none⟩ = some (.bool s) := xw0
  have xw1 : W.cell? ⟨w.heap.size, 1, none⟩ = some (.slice p l c) := by rw [← hW]; simp [go_sem]
  have dw1 : W.drew.cell? ⟨w.heap.size, 1, none⟩ = some (.slice p l c) := xw1
  have xw2 : W.cell? ⟨w.heap.size, 2, none⟩ = some (.slice q k d) := by rw [← hW]; simp [go_sem]
  have dw2 : W.drew.cell? ⟨w.heap.size, 2, none⟩ = some (.slice q k d) := xw2
  have xw3 : W.cell? ⟨w.heap.size + 1, 0, none⟩ = some (.bool s2) := by rw [← hW]; simp [go_sem]
  have dw3 : W.drew.cell? ⟨w.heap.size + 1, 0, none⟩ = some (.bool s2) := xw3
  have xw4 : W.cell? ⟨w.heap.size + 1, 1, none⟩ = some (.slice p2 l2 c2) := by rw [← hW]; simp [go_sem]
  have dw4 : W.drew.cell? ⟨w.heap.size + 1, 1, none⟩ = some (.slice p2 l2 c2) := xw4
  have xw5 : W.cell? ⟨w.heap.size + 1, 2, none⟩ = some (.slice q2 k2 d2) := by rw [← hW]; simp [go_sem]
  have dw5 : W.drew.cell? ⟨w.heap.size + 1, 2, none⟩ = some (.slice q2 k2 d2) := xw5
  have r0 : W.cell? ⟨w.heap.size + 2, 0, none⟩ = some (.bool false) := by rw [← hW]; simp [go_sem]
  have rz0 : W.frozen? ⟨w.heap.size + 2, 0, none⟩ = false := by rw [← hW]; simp [go_sem]
  have r1 : W.cell? ⟨w.heap.size + 2, 1, none⟩ = some (.slice none 0 0) := by rw [← hW]; simp [go_sem]
  have rz1 : W.frozen? ⟨w.heap.size + 2, 1, none⟩ = false := by rw [← hW]; simp [go_sem]
  have r2 : W.cell? ⟨w.heap.size + 2, 2, none⟩ = some (.slice none 0 0) := by rw [← hW]; simp [go_sem]
  have rz2 : W.frozen? ⟨w.heap.size + 2, 2, none⟩ = false := by rw [← hW]; simp [go_sem]
  have hBW : w.heap.size + 2 < W.heap.size := cell_lt r0
  have hn1 : w.heap.size + 2 ≠ w.heap.size := by omega
  have hn2 : w.heap.size + 2 ≠ w.heap.size + 1 := by omega
  clear hW
  go_region_held3 (fun w' => w'.cell? ⟨w.heap.size, 0, none⟩ = some (.bool s) ∧ w'.cell? ⟨w.heap.size, 1, none⟩ = some (.slice p l c) ∧ w'.cell? ⟨w.heap.size, 2, none⟩ = some (.slice q k d) ∧ w'.cell? ⟨w.heap.size + 1, 0, none⟩ = some (.bool s2) ∧ w'.cell? ⟨w.heap.size + 1, 1, none⟩ = some (.slice p2 l2 c2) ∧ w'.cell? ⟨w.heap.size + 1, 2, none⟩ = some (.slice q2 k2 d2)) (first | (with_reducible exact ⟨xw0, xw1, xw2, xw3, xw4, xw5⟩) | (with_reducible exact ⟨dw0, dw1, dw2, dw3, dw4, dw5⟩) | (with_reducible exact ⟨aw0, aw1, aw2, aw3, aw4, aw5⟩) | (with_reducible exact ⟨bw0, bw1, bw2, bw3, bw4, bw5⟩) | (exact ⟨((World.cell?_setCell_far _ _ _ _ hn1).trans ((World.cell?_setCell_far _ _ _ _ hn1).trans ((World.cell?_setCell_far _ _ _ _ hn1).trans bw0))), ((World.cell?_setCell_far _ _ _ _ hn1).trans ((World.cell?_setCell_far _ _ _ _ hn1).trans ((World.cell?_setCell_far _ _ _ _ hn1).trans bw1))), ((World.cell?_setCell_far _ _ _ _ hn1).trans ((World.cell?_setCell_far _ _ _ _ hn1).trans ((World.cell?_setCell_far _ _ _ _ hn1).trans bw2))), ((World.cell?_setCell_far _ _ _ _ hn2).trans ((World.cell?_setCell_far _ _ _ _ hn2).trans ((World.cell?_setCell_far _ _ _ _ hn2).trans bw3))), ((World.cell?_setCell_far _ _ _ _ hn2).trans ((World.cell?_setCell_far _ _ _ _ hn2).trans ((World.cell?_setCell_far _ _ _ _ hn2).trans bw4))), ((World.cell?_setCell_far _ _ _ _ hn2).trans ((World.cell?_setCell_far _ _ _ _ hn2).trans ((World.cell?_setCell_far _ _ _ _ hn2).trans bw5)))⟩)) (first | (go_at_call 45; refine (hN _ ?q0).mono ?_; (case q0 => exact kw.drew); rintro e wl ⟨s5, p5, l5, c5, q5, k5, d5, rfl, hp5, gl⟩; have kl : Kp W wl := Kp.trans (Kp.drew (Kp.refl _)) gl; have aw0 := kkeep kl xw0; have aw1 := kkeep kl xw1; have aw2 := kkeep kl xw2; have aw3 := kkeep kl xw3; have aw4 := kkeep kl xw4; have aw5 := kkeep kl xw5) | (go_at_call 44; refine (hA _ s5 p5 l5 c5 q5 k5 d5 (kw.trans kl) hp5).mono ?_; rintro e wh ⟨s3, p3, l3, c3, q3, k3, d3, rfl, hp3, gh⟩; have kh : Kp W wh := Kp.trans kl gh; have bw0 := kkeep kh xw0; have bw1 := kkeep kh xw1; have bw2 := kkeep kh xw2; have bw3 := kkeep kh xw3; have bw4 := kkeep kh xw4; have bw5 := kkeep kh xw5; have R0 := kkeep kh r0; have Rz0 : wh.frozen? ⟨w.heap.size + 2, 0, none⟩ = false := (kfro kh (cell_lt r0)).trans rz0; have R1 := kkeep kh r1; have Rz1 : wh.frozen? ⟨w.heap.size + 2, 1, none⟩ = false := (kfro kh (cell_lt r1)).trans rz1; have R2 := kkeep kh r2; have Rz2 : wh.frozen? ⟨w.heap.size + 2, 2, none⟩ = false := (kfro kh (cell_lt r2)).trans rz2))
  go_wp2
  exact bodyPost_ret (v := .agg #[.bool s3, .slice p3 l3 c3, .slice q3 k3 d3]) (by simp [results, Tryz.results24, go_sem, R0, R1, R2]) rfl ⟨wl, wh, s3, p3, l3, c3, q3, k3, d3, rfl, hp3, rfl, Nat.lt_of_lt_of_le hBW (Below.size kl), Kp.trans kw kh⟩
theorem vsub_ (n n' : Bool) (m m' : Nat) (s : Bool) (p : Option Addr) (l c : Nat) (q : Option Addr) (k d : Nat) (s2 : Bool) (p2 : Option Addr) (l2 c2 : Nat) (q2 : Option Addr) (k2 d2 : Nat) (B1 B2 : Nat) (w : World) (h1 : RP B1 w s p l c q k d n m) (h2 : RP B2 w s2 p2 l2 c2 q2 k2 d2 n' m') : Calls Tryz.prog 24 #[.agg #[.bool s, .slice p l c, .slice q k d], .agg #[.bool s2, .slice p2 l2 c2, .slice q2 k2 d2]] w fun e w' => ∃ (s3 : Bool) (p3 : Option Addr) (l3 c3 : Nat) (q3 : Option Addr) (k3 d3 : Nat), e = .returned (.agg #[.bool s3, .slice p3 l3 c3, .slice q3 k3 d3]) ∧ VP w.heap.size w' s3 p3 l3 c3 q3 k3 d3 (Iv n m - Iv n' m') ∧ Kp w w' := by
  refine (rsubA_ (fun _ w' v => ∃ (s5 : Bool) (p5 : Option Addr) (l5 c5 : Nat) (q5 : Option Addr) (k5 d5 : Nat), v = .agg #[.bool s5, .slice p5 l5 c5, .slice q5 k5 d5] ∧ RP 0 w' s5 p5 l5 c5 q5 k5 d5 (!n') m') (fun W w' v => ∃ (s3 : Bool) (p3 : Option Addr) (l3 c3 : Nat) (q3 : Option Addr) (k3 d3 : Nat), v = .agg #[.bool s3, .slice p3 l3 c3, .slice q3 k3 d3] ∧ VP W.heap.size w' s3 p3 l3 c3 q3 k3 d3 (Iv n m - Iv n' m')) s p l c q k d s2 p2 l2 c2 q2 k2 d2 w (fun W g => ?_) (fun W s5 p5 l5 c5 q5 k5 d5 g hp => ?_)).mono ?_
  · refine (rneg6_ n' m' s2 p2 l2 c2 q2 k2 d2 B2 W (h2.kp g)).mono ?_
    rintro e w' ⟨s5, p5, l5, c5, q5, k5, d5, rfl, hp, g2⟩
    exact ⟨s5, p5, l5, c5, q5, k5, d5, rfl, ⟨s5, p5, l5, c5, q5, k5, d5, rfl, hp.mono (Nat.zero_le _)⟩, g2⟩
  · obtain ⟨s6, p6, l6, c6, q6, k6, d6, e6, hp6⟩ := hp
    simp at e6
    obtain ⟨rfl, ⟨rfl, rfl, rfl⟩, rfl, rfl, rfl⟩ := e6
    refine (vadd_ n (!n') m m' s p l c q k d s5 p5 l5 c5 q5 k5 d5 B1 0 W (h1.kp g) hp6).mono ?_
    rintro e w' ⟨s3, p3, l3, c3, q3, k3, d3, rfl, hq, g2⟩
    refine ⟨s3, p3, l3, c3, q3, k3, d3, rfl, ⟨s3, p3, l3, c3, q3, k3, d3, rfl, ?_⟩, g2⟩
    rw [show Iv n m - Iv n' m' = Iv n m + Iv (!n') m' from by rw [iv_not]; omega]
    exact hq
  · rintro e w' ⟨W, wh, s3, p3, l3, c3, q3, k3, d3, rfl, ⟨s4, p4, l4, c4, q4, k4, d4, e4, hq⟩, rfl, hlt, g⟩
    simp at e4
    obtain ⟨rfl, ⟨rfl, rfl, rfl⟩, rfl, rfl, rfl⟩ := e4
    refine ⟨s3, p3, l3, c3, q3, k3, d3, rfl, VP.mono ((((hq).set (x := ⟨w.heap.size + 2, 0, none⟩) hlt (.bool s3)).set (x := ⟨w.heap.size + 2, 1, none⟩) hlt (.slice p3 l3 c3)).set (x := ⟨w.heap.size + 2, 2, none⟩) hlt (.slice q3 k3 d3)) (by omega), (((g).setCell (by simp <;> omega) _).setCell (by simp <;> omega) _).setCell (by simp <;> omega) _⟩
end Go.Proofs.YthmeefigiekneaaGreatDoor
