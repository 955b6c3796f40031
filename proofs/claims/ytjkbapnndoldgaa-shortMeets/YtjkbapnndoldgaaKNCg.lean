import Derived.Test.YtjkbapnndoldgaaKNCe
import Derived.Test.YtjkbapnndoldgaaKNCf
namespace Go.Proofs.Ytjkbapnndoldgaa
open Go.RowKit

set_option linter.unusedVariables false
theorem hsB_iff (N : Bool) (P Q p : Nat) : hsB N P Q p = true ↔ (N = false ∧ P ≤ p ∧ p ≤ Q) := by
  unfold hsB; cases N <;> simp
theorem ee5 (n P1 Q1 P2 Q2 : Nat) (N1 N2 : Bool) (m0 : n % 4 = 0) (m1 : P1 % 4 = 0) (m2 : Q1 % 4 = 0) (m3 : P2 % 4 = 0) (m4 : Q2 % 4 = 0) (n4 : 4 ≤ n) (b1 : P1 ≤ n) (b2 : Q1 ≤ n) (b3 : P2 ≤ n) (b4 : Q2 ≤ n) (v1 : N1 = false → P1 ≤ Q1 ∧ P1 < n ∧ 0 < Q1) (v2 : N2 = false → P2 ≤ Q2 ∧ P2 < n ∧ 0 < Q2) : (∀ p t, 1 ≤ p → p < n → 1 ≤ t → t < n → p % 2 = 0 → hsB N1 P1 Q1 p = true → hsB N2 P2 Q2 t = true → decide (p ≠ t) = true) ↔ (N1 = true ∨ N2 = true ∨ (Q1 < P2 ∨ Q2 < P1)) := by
  constructor
  · intro h
    rcases c1 : N1 with _ | _
    · right
      rcases c2 : N2 with _ | _
      · right
        have v1 := v1 c1
        have v2 := v2 c2
        by_cases c3 : Q1 < P2 ∨ Q2 < P1
        · exact c3
        · exfalso
          obtain ⟨p, ep⟩ : ∃ p, p = if P1 ≤ P2 then (if P2 = 0 then 2 else P2) else P1 := ⟨_, rfl⟩
          have hp : 1 ≤ p ∧ p < n ∧ p % 2 = 0 ∧ P1 ≤ p ∧ p ≤ Q1 ∧ P2 ≤ p ∧ p ≤ Q2 := by
            rw [ep]; repeat' split
            all_goals omega
          have r := of_decide_eq_true (h p p hp.1 hp.2.1 hp.1 hp.2.1 hp.2.2.1 ((hsB_iff _ _ _ _).2 ⟨c1, hp.2.2.2.1, hp.2.2.2.2.1⟩) ((hsB_iff _ _ _ _).2 ⟨c2, hp.2.2.2.2.2⟩))
          exact r rfl
      · exact Or.inl rfl
    · exact Or.inl rfl
  · intro h p t hp1 hp2 ht1 ht2 hp3 hp4 ht4
    have hp4 := (hsB_iff _ _ _ _).1 hp4
    have ht4 := (hsB_iff _ _ _ _).1 ht4
    rcases h with h | h | h
    · rw [h] at hp4; cases hp4.1
    · rw [h] at ht4; cases ht4.1
    · exact decide_eq_true (by omega)

theorem pl_val {z : Nat → Int} {cs : List Int} (h : Cut z cs) {j : Nat} (hj : j < 4) : (z j = -9218868437227405312 ∧ plN cs (z j) = 0) ∨ (z j = 9218868437227405312 ∧ plN cs (z j) = 4 * (cs.length + 1)) ∨ (Fin9 (z j) ∧ ∃ i, i < cs.length ∧ cs.getD i 0 = z j ∧ plN cs (z j) = 4 * (i + 1)) := by
  by_cases c1 : z j = -9218868437227405312
  · exact Or.inl ⟨c1, by unfold plN; rw [if_pos c1]⟩
  by_cases c2 : z j = 9218868437227405312
  · refine Or.inr (Or.inl ⟨c2, ?_⟩)
    unfold plN
    rw [if_neg c1, ix_none]
    intro i hi e
    obtain ⟨k, _, e1, e2⟩ := h.2.2.1 i hi
    unfold Fin9 at e2
    omega
  · refine Or.inr (Or.inr ⟨⟨c2, c1⟩, ?_⟩)
    obtain ⟨i, hi, e⟩ := h.2.2.2 j hj ⟨c2, c1⟩
    refine ⟨i, hi, e, ?_⟩
    unfold plN
    rw [if_neg c1, ix_hit cs (z j) i hi (fun k hk e2 => by have := h.2.1 k i hk hi; omega) e]
theorem pl_lt {z : Nat → Int} {cs : List Int} (h : Cut z cs) (hz : ∀ j, j < 4 → BdZ (z j)) {j k : Nat} (hj : j < 4) (hk : k < 4) : z j < z k ↔ plN cs (z j) < plN cs (z k) := by
  have b1 := hz j hj
  have b2 := hz k hk
  unfold BdZ at b1 b2
  rcases pl_val h hj with ⟨a1, a2⟩ | ⟨a1, a2⟩ | ⟨a1, i, a2, a3, a4⟩ <;> rcases pl_val h hk with ⟨d1, d2⟩ | ⟨d1, d2⟩ | ⟨d1, i', d2, d3, d4⟩
  all_goals (try unfold Fin9 at a1)
  all_goals (try unfold Fin9 at d1)
  all_goals (try omega)
  rcases Nat.lt_trichotomy i i' with g | g | g
  · have := h.2.1 i i' g d2; omega
  · subst g; omega
  · have := h.2.1 i' i g a2; omega
theorem pl_facts {z : Nat → Int} {cs : List Int} (h : Cut z cs) (hz : ∀ j, j < 4 → BdZ (z j)) {j : Nat} (hj : j < 4) : plN cs (z j) % 4 = 0 ∧ plN cs (z j) ≤ 4 * (cs.length + 1) ∧ (z j = -9218868437227405312 ↔ plN cs (z j) = 0) ∧ (z j = 9218868437227405312 ↔ plN cs (z j) = 4 * (cs.length + 1)) := by
  rcases pl_val h hj with ⟨a1, a2⟩ | ⟨a1, a2⟩ | ⟨a1, i, a2, a3, a4⟩
  · omega
  · omega
  · unfold Fin9 at a1; omega
def RowOk (L1 H1 L2 H2 : Int) (P1 Q1 P2 Q2 n : Nat) : Prop := n % 4 = 0 ∧ 4 ≤ n ∧ n ≤ 20 ∧ (P1 % 4 = 0 ∧ P1 ≤ n ∧ (L1 = -9218868437227405312 ↔ P1 = 0) ∧ (L1 = 9218868437227405312 ↔ P1 = n)) ∧ (Q1 % 4 = 0 ∧ Q1 ≤ n ∧ (H1 = -9218868437227405312 ↔ Q1 = 0) ∧ (H1 = 9218868437227405312 ↔ Q1 = n)) ∧ (P2 % 4 = 0 ∧ P2 ≤ n ∧ (L2 = -9218868437227405312 ↔ P2 = 0) ∧ (L2 = 9218868437227405312 ↔ P2 = n)) ∧ (Q2 % 4 = 0 ∧ Q2 ≤ n ∧ (H2 = -9218868437227405312 ↔ Q2 = 0) ∧ (H2 = 9218868437227405312 ↔ Q2 = n)) ∧ (L1 < H1 ↔ P1 < Q1) ∧ (H1 < L1 ↔ Q1 < P1) ∧ (L2 < H2 ↔ P2 < Q2) ∧ (H2 < L2 ↔ Q2 < P2) ∧ (L1 < L2 ↔ P1 < P2) ∧ (L2 < L1 ↔ P2 < P1) ∧ (H1 < H2 ↔ Q1 < Q2) ∧ (H2 < H1 ↔ Q2 < Q1) ∧ (L1 < H2 ↔ P1 < Q2) ∧ (H2 < L1 ↔ Q2 < P1) ∧ (L2 < H1 ↔ P2 < Q1) ∧ (H1 < L2 ↔ Q1 < P2)
theorem row_ok (z : Nat → Int) (cs : List Int) (h : Cut z cs) (hz : ∀ j, j < 4 → BdZ (z j)) : RowOk (z 0) (z 1) (z 2) (z 3) (plN cs (z 0)) (plN cs (z 1)) (plN cs (z 2)) (plN cs (z 3)) (4 * (cs.length + 1)) := by
  have hl := h.1
  refine ⟨by omega, by omega, by omega, pl_facts h hz (by omega), pl_facts h hz (by omega), pl_facts h hz (by omega), pl_facts h hz (by omega), pl_lt h hz (by omega) (by omega), pl_lt h hz (by omega) (by omega), pl_lt h hz (by omega) (by omega), pl_lt h hz (by omega) (by omega), pl_lt h hz (by omega) (by omega), pl_lt h hz (by omega) (by omega), pl_lt h hz (by omega) (by omega), pl_lt h hz (by omega) (by omega), pl_lt h hz (by omega) (by omega), pl_lt h hz (by omega) (by omega), pl_lt h hz (by omega) (by omega), pl_lt h hz (by omega) (by omega)⟩
theorem RowOk.swap {L1 H1 L2 H2 : Int} {P1 Q1 P2 Q2 n : Nat} (h : RowOk L1 H1 L2 H2 P1 Q1 P2 Q2 n) : RowOk L2 H2 L1 H1 P2 Q2 P1 Q1 n := by
  obtain ⟨a1, a2, a3, a4, a5, a6, a7, b1, b2, b3, b4, b5, b6, b7, b8, c1, c2, c3, c4⟩ := h
  exact ⟨a1, a2, a3, a6, a7, a4, a5, b3, b4, b1, b2, b6, b5, b8, b7, c3, c4, c1, c2⟩

set_option linter.unusedSimpArgs false
theorem rowsZ_ (X1 X2 Y1 Y2 L1 H1 L2 H2 : Int) (d1 : VdZ L1 H1) (d2 : VdZ L2 H2) (hx : ∀ w : World, Calls Try.prog 34 #[.agg #[.int .u64 X1, .int .u64 X2]] w fun e w' => e = .returned (.agg #[.int .u64 (pI L1), .int .u64 (pI H1)]) ∧ Kp w w') (hy : ∀ w : World, Calls Try.prog 34 #[.agg #[.int .u64 Y1, .int .u64 Y2]] w fun e w' => e = .returned (.agg #[.int .u64 (pI L2), .int .u64 (pI H2)]) ∧ Kp w w') (w : World) : Calls Try.prog 77 #[.agg #[.int .u64 X1, .int .u64 X2], .agg #[.int .u64 Y1, .int .u64 Y2]] w fun e w' => ∃ P1 Q1 P2 Q2 n : Nat, e = .returned (.tuple #[.agg #[.bool (decide (L1 = 9218868437227405312)), .int .i64 ((P1 : Nat) : Int), .int .i64 ((Q1 : Nat) : Int)], .agg #[.bool (decide (L2 = 9218868437227405312)), .int .i64 ((P2 : Nat) : Int), .int .i64 ((Q2 : Nat) : Int)], .int .i64 (n : Int)]) ∧ RowOk L1 H1 L2 H2 P1 Q1 P2 Q2 n ∧ Kp w w' := by
  refine (rows_ X1 X2 Y1 Y2 L1 H1 L2 H2 _ _ d1 d2 rfl rfl hx hy (fun j => if j = 0 then L1 else if j = 1 then H1 else if j = 2 then L2 else H2) rfl rfl rfl rfl w).mono ?_
  rintro e w' ⟨cs, rfl, hcut, hk⟩
  have h := row_ok _ cs hcut (fun j hj => by
    match j, hj with
    | 0, _ => exact d1.lo
    | 1, _ => exact d1.hi
    | 2, _ => exact d2.lo
    | 3, _ => exact d2.hi)
  exact ⟨_, _, _, _, _, rfl, h, hk⟩
theorem bool_dec {b : Bool} {p : Prop} [Decidable p] (h : b = true ↔ p) : b = decide p := by
  cases b
  · rw [decide_eq_false (fun x => by cases h.2 x)]
  · rw [decide_eq_true (h.1 rfl)]
theorem RowOk.nn1 {L1 H1 L2 H2 : Int} {P1 Q1 P2 Q2 n : Nat} (ok : RowOk L1 H1 L2 H2 P1 Q1 P2 Q2 n) : L1 = 9218868437227405312 ↔ P1 = n := by
  obtain ⟨o1, o2, o3, ⟨a1, a2, a3, a4⟩, ⟨b1, b2, b3, b4⟩, ⟨c1, c2, c3, c4⟩, ⟨e1, e2, e3, e4⟩, f1, f2, f3, f4, f5, f6, f7, f8, g1, g2, g3, g4⟩ := ok
  clear o1 o2 o3 a1 a2 a3 b1 b2 b3 b4 c1 c2 c3 c4 e1 e2 e3 e4 f1 f2 f3 f4 f5 f6 f7 f8 g1 g2 g3 g4
  exact a4
theorem RowOk.nn2 {L1 H1 L2 H2 : Int} {P1 Q1 P2 Q2 n : Nat} (ok : RowOk L1 H1 L2 H2 P1 Q1 P2 Q2 n) : L2 = 9218868437227405312 ↔ P2 = n := by
  obtain ⟨o1, o2, o3, ⟨a1, a2, a3, a4⟩, ⟨b1, b2, b3, b4⟩, ⟨c1, c2, c3, c4⟩, ⟨e1, e2, e3, e4⟩, f1, f2, f3, f4, f5, f6, f7, f8, g1, g2, g3, g4⟩ := ok
  clear o1 o2 o3 a1 a2 a3 a4 b1 b2 b3 b4 c1 c2 c3 e1 e2 e3 e4 f1 f2 f3 f4 f5 f6 f7 f8 g1 g2 g3 g4
  exact c4
theorem RowOk.hi1 {L1 H1 L2 H2 : Int} {P1 Q1 P2 Q2 n : Nat} (ok : RowOk L1 H1 L2 H2 P1 Q1 P2 Q2 n) : H1 = 9218868437227405312 ↔ Q1 = n := by
  obtain ⟨o1, o2, o3, ⟨a1, a2, a3, a4⟩, ⟨b1, b2, b3, b4⟩, ⟨c1, c2, c3, c4⟩, ⟨e1, e2, e3, e4⟩, f1, f2, f3, f4, f5, f6, f7, f8, g1, g2, g3, g4⟩ := ok
  clear o1 o2 o3 a1 a2 a3 a4 b1 b2 b3 c1 c2 c3 c4 e1 e2 e3 e4 f1 f2 f3 f4 f5 f6 f7 f8 g1 g2 g3 g4
  exact b4
theorem RowOk.hi2 {L1 H1 L2 H2 : Int} {P1 Q1 P2 Q2 n : Nat} (ok : RowOk L1 H1 L2 H2 P1 Q1 P2 Q2 n) : H2 = 9218868437227405312 ↔ Q2 = n := by
  obtain ⟨o1, o2, o3, ⟨a1, a2, a3, a4⟩, ⟨b1, b2, b3, b4⟩, ⟨c1, c2, c3, c4⟩, ⟨e1, e2, e3, e4⟩, f1, f2, f3, f4, f5, f6, f7, f8, g1, g2, g3, g4⟩ := ok
  clear o1 o2 o3 a1 a2 a3 a4 b1 b2 b3 b4 c1 c2 c3 c4 e1 e2 e3 f1 f2 f3 f4 f5 f6 f7 f8 g1 g2 g3 g4
  exact e4
theorem RowOk.lo2 {L1 H1 L2 H2 : Int} {P1 Q1 P2 Q2 n : Nat} (ok : RowOk L1 H1 L2 H2 P1 Q1 P2 Q2 n) : L2 = -9218868437227405312 ↔ P2 = 0 := by
  obtain ⟨o1, o2, o3, ⟨a1, a2, a3, a4⟩, ⟨b1, b2, b3, b4⟩, ⟨c1, c2, c3, c4⟩, ⟨e1, e2, e3, e4⟩, f1, f2, f3, f4, f5, f6, f7, f8, g1, g2, g3, g4⟩ := ok
  clear o1 o2 o3 a1 a2 a3 a4 b1 b2 b3 b4 c1 c2 c4 e1 e2 e3 e4 f1 f2 f3 f4 f5 f6 f7 f8 g1 g2 g3 g4
  exact c3
theorem RowOk.ll {L1 H1 L2 H2 : Int} {P1 Q1 P2 Q2 n : Nat} (ok : RowOk L1 H1 L2 H2 P1 Q1 P2 Q2 n) : L2 ≤ L1 ↔ P2 ≤ P1 := by
  obtain ⟨o1, o2, o3, ⟨a1, a2, a3, a4⟩, ⟨b1, b2, b3, b4⟩, ⟨c1, c2, c3, c4⟩, ⟨e1, e2, e3, e4⟩, f1, f2, f3, f4, f5, f6, f7, f8, g1, g2, g3, g4⟩ := ok
  clear o1 o2 o3 a1 a2 a3 a4 b1 b2 b3 b4 c1 c2 c3 c4 e1 e2 e3 e4 f1 f2 f3 f4 f6 f7 f8 g1 g2 g3 g4
  omega
theorem RowOk.hh {L1 H1 L2 H2 : Int} {P1 Q1 P2 Q2 n : Nat} (ok : RowOk L1 H1 L2 H2 P1 Q1 P2 Q2 n) : H1 ≤ H2 ↔ Q1 ≤ Q2 := by
  obtain ⟨o1, o2, o3, ⟨a1, a2, a3, a4⟩, ⟨b1, b2, b3, b4⟩, ⟨c1, c2, c3, c4⟩, ⟨e1, e2, e3, e4⟩, f1, f2, f3, f4, f5, f6, f7, f8, g1, g2, g3, g4⟩ := ok
  clear o1 o2 o3 a1 a2 a3 a4 b1 b2 b3 b4 c1 c2 c3 c4 e1 e2 e3 e4 f1 f2 f3 f4 f5 f6 f7 g1 g2 g3 g4
  omega
theorem RowOk.hl {L1 H1 L2 H2 : Int} {P1 Q1 P2 Q2 n : Nat} (ok : RowOk L1 H1 L2 H2 P1 Q1 P2 Q2 n) : H1 ≤ L2 ↔ Q1 ≤ P2 := by
  obtain ⟨o1, o2, o3, ⟨a1, a2, a3, a4⟩, ⟨b1, b2, b3, b4⟩, ⟨c1, c2, c3, c4⟩, ⟨e1, e2, e3, e4⟩, f1, f2, f3, f4, f5, f6, f7, f8, g1, g2, g3, g4⟩ := ok
  clear o1 o2 o3 a1 a2 a3 a4 b1 b2 b3 b4 c1 c2 c3 c4 e1 e2 e3 e4 f1 f2 f3 f4 f5 f6 f7 f8 g1 g2 g4
  omega
theorem RowOk.hlt {L1 H1 L2 H2 : Int} {P1 Q1 P2 Q2 n : Nat} (ok : RowOk L1 H1 L2 H2 P1 Q1 P2 Q2 n) : H1 < L2 ↔ Q1 < P2 := by
  obtain ⟨o1, o2, o3, ⟨a1, a2, a3, a4⟩, ⟨b1, b2, b3, b4⟩, ⟨c1, c2, c3, c4⟩, ⟨e1, e2, e3, e4⟩, f1, f2, f3, f4, f5, f6, f7, f8, g1, g2, g3, g4⟩ := ok
  clear o1 o2 o3 a1 a2 a3 a4 b1 b2 b3 b4 c1 c2 c3 c4 e1 e2 e3 e4 f1 f2 f3 f4 f5 f6 f7 f8 g1 g2 g3
  omega
theorem RowOk.hht {L1 H1 L2 H2 : Int} {P1 Q1 P2 Q2 n : Nat} (ok : RowOk L1 H1 L2 H2 P1 Q1 P2 Q2 n) : H1 < H2 ↔ Q1 < Q2 := by
  obtain ⟨o1, o2, o3, ⟨a1, a2, a3, a4⟩, ⟨b1, b2, b3, b4⟩, ⟨c1, c2, c3, c4⟩, ⟨e1, e2, e3, e4⟩, f1, f2, f3, f4, f5, f6, f7, f8, g1, g2, g3, g4⟩ := ok
  clear o1 o2 o3 a1 a2 a3 a4 b1 b2 b3 b4 c1 c2 c3 c4 e1 e2 e3 e4 f1 f2 f3 f4 f5 f6 f8 g1 g2 g3 g4
  omega
theorem RowOk.llt {L1 H1 L2 H2 : Int} {P1 Q1 P2 Q2 n : Nat} (ok : RowOk L1 H1 L2 H2 P1 Q1 P2 Q2 n) : L2 < L1 ↔ P2 < P1 := by
  obtain ⟨o1, o2, o3, ⟨a1, a2, a3, a4⟩, ⟨b1, b2, b3, b4⟩, ⟨c1, c2, c3, c4⟩, ⟨e1, e2, e3, e4⟩, f1, f2, f3, f4, f5, f6, f7, f8, g1, g2, g3, g4⟩ := ok
  clear o1 o2 o3 a1 a2 a3 a4 b1 b2 b3 b4 c1 c2 c3 c4 e1 e2 e3 e4 f1 f2 f3 f4 f5 f7 f8 g1 g2 g3 g4
  omega
theorem RowOk.mm {L1 H1 L2 H2 : Int} {P1 Q1 P2 Q2 n : Nat} (ok : RowOk L1 H1 L2 H2 P1 Q1 P2 Q2 n) : (¬ max L1 L2 ≤ min H1 H2) ↔ ¬ (P1 ≤ Q1 ∧ P1 ≤ Q2 ∧ P2 ≤ Q1 ∧ P2 ≤ Q2) := by
  obtain ⟨o1, o2, o3, ⟨a1, a2, a3, a4⟩, ⟨b1, b2, b3, b4⟩, ⟨c1, c2, c3, c4⟩, ⟨e1, e2, e3, e4⟩, f1, f2, f3, f4, f5, f6, f7, f8, g1, g2, g3, g4⟩ := ok
  clear o1 o2 o3 a1 a2 a3 a4 b1 b2 b3 b4 c1 c2 c3 c4 e1 e2 e3 e4 f1 f3 f5 f6 f7 f8 g1 g3
  omega
theorem RowOk.vd1 {L1 H1 L2 H2 : Int} {P1 Q1 P2 Q2 n : Nat} (ok : RowOk L1 H1 L2 H2 P1 Q1 P2 Q2 n) (d : VdZ L1 H1) : (P1 = n ∧ Q1 = 0) ∨ (P1 < n ∧ 0 < Q1 ∧ P1 ≤ Q1) := by
  obtain ⟨o1, o2, o3, ⟨a1, a2, a3, a4⟩, ⟨b1, b2, b3, b4⟩, ⟨c1, c2, c3, c4⟩, ⟨e1, e2, e3, e4⟩, f1, f2, f3, f4, f5, f6, f7, f8, g1, g2, g3, g4⟩ := ok
  clear o1 o3 a1 a3 b1 b2 b4 c1 c2 c3 c4 e1 e2 e3 e4 f1 f3 f4 f5 f6 f7 f8 g1 g2 g3 g4
  unfold VdZ at d; omega
theorem RowOk.bd {L1 H1 L2 H2 : Int} {P1 Q1 P2 Q2 n : Nat} (ok : RowOk L1 H1 L2 H2 P1 Q1 P2 Q2 n) : n % 4 = 0 ∧ 4 ≤ n ∧ n ≤ 20 ∧ P1 % 4 = 0 ∧ Q1 % 4 = 0 ∧ P2 % 4 = 0 ∧ Q2 % 4 = 0 ∧ P1 ≤ n ∧ Q1 ≤ n ∧ P2 ≤ n ∧ Q2 ≤ n := by
  obtain ⟨o1, o2, o3, ⟨a1, a2, a3, a4⟩, ⟨b1, b2, b3, b4⟩, ⟨c1, c2, c3, c4⟩, ⟨e1, e2, e3, e4⟩, f1, f2, f3, f4, f5, f6, f7, f8, g1, g2, g3, g4⟩ := ok
  clear a3 a4 b3 b4 c3 c4 e3 e4 f1 f2 f3 f4 f5 f6 f7 f8 g1 g2 g3 g4
  exact ⟨o1, o2, o3, a1, b1, c1, e1, a2, b2, c2, e2⟩
set_option maxHeartbeats 2000000 in
theorem ee5_ (L1 H1 L2 H2 : Int) (d1 : VdZ L1 H1) (d2 : VdZ L2 H2) (P1 Q1 P2 Q2 n : Nat) (ok : RowOk L1 H1 L2 H2 P1 Q1 P2 Q2 n) (w : World) : Calls Try.prog 78 #[.int .i64 5, .agg #[.bool (decide (L1 = 9218868437227405312)), .int .i64 (P1 : Int), .int .i64 (Q1 : Int)], .agg #[.bool (decide (L2 = 9218868437227405312)), .int .i64 (P2 : Int), .int .i64 (Q2 : Int)], .int .i64 (n : Int)] w fun e w' => e = .returned (.bool (decide (¬ max L1 L2 ≤ min H1 H2))) ∧ Kp w w' := by
  obtain ⟨o1, o2, o3, a1, b1, c1, e1, a2, b2, c2, e2⟩ := ok.bd
  have v1 := ok.vd1 d1
  have v2 := ok.swap.vd1 d2
  have n1 := ok.nn1
  have n2 := ok.nn2
  clear d1 d2
  have x1 : decide (L1 = 9218868437227405312) = false → P1 ≤ Q1 ∧ P1 < n ∧ 0 < Q1 := fun h => by
    have h := of_decide_eq_false h
    rw [n1] at h
    clear n1 n2
    omega
  have x2 : decide (L2 = 9218868437227405312) = false → P2 ≤ Q2 ∧ P2 < n ∧ 0 < Q2 := fun h => by
    have h := of_decide_eq_false h
    rw [n2] at h
    clear n1 n2 x1
    omega
  refine (eachEach_ 5 _ _ P1 Q1 P2 Q2 n (by clear n1 n2 x1 x2 ok v1 v2; omega) (by clear n1 n2 x1 x2 ok v1 v2; omega) _ _ _ (has_ _ P1 Q1) (has_ _ P2 Q2) asked5_ w).mono ?_
  rintro e w' ⟨b, rfl, hb, hk⟩
  rw [ee5 n P1 Q1 P2 Q2 _ _ o1 a1 b1 c1 e1 o2 a2 b2 c2 e2 x1 x2] at hb
  refine ⟨?_, hk⟩
  rw [bool_dec (b := b) (p := ¬ max L1 L2 ≤ min H1 H2) (hb.trans ?_)]
  simp only [decide_eq_true_eq, decide_eq_false_iff_not, ne_eq, ok.mm, ok.nn1, ok.nn2, ok.hi2, ok.lo2, ok.ll, ok.hh, ok.hl, ok.hlt, ok.hht, ok.llt]
  all_goals (
    clear n1 n2 x1 x2 ok hb hk
    omega)
set_option maxRecDepth 20000 in
set_option maxHeartbeats 2000000 in
theorem rdisjA_ (X1 X2 Y1 Y2 : Int) (N1 N2 : Bool) (OK : Nat → Nat → Nat → Nat → Nat → Prop) (hr : ∀ w : World, Calls Try.prog 77 #[.agg #[.int .u64 X1, .int .u64 X2], .agg #[.int .u64 Y1, .int .u64 Y2]] w fun e w' => ∃ P1 Q1 P2 Q2 n : Nat, e = .returned (.tuple #[.agg #[.bool N1, .int .i64 ((P1 : Nat) : Int), .int .i64 ((Q1 : Nat) : Int)], .agg #[.bool N2, .int .i64 ((P2 : Nat) : Int), .int .i64 ((Q2 : Nat) : Int)], .int .i64 (n : Int)]) ∧ OK P1 Q1 P2 Q2 n ∧ Kp w w') (V : Bool) (hE1 : ∀ (P1 Q1 P2 Q2 n : Nat), OK P1 Q1 P2 Q2 n → ∀ w : World, Calls Try.prog 78 #[.int .i64 5, .agg #[.bool N1, .int .i64 ((P1 : Nat) : Int), .int .i64 ((Q1 : Nat) : Int)], .agg #[.bool N2, .int .i64 ((P2 : Nat) : Int), .int .i64 ((Q2 : Nat) : Int)], .int .i64 (n : Int)] w fun e w' => e = .returned (.bool V) ∧ Kp w w') (w : World) : Calls Try.prog 50 #[.agg #[.int .u64 X1, .int .u64 X2], .agg #[.int .u64 Y1, .int .u64 Y2]] w fun e w' => e = .returned (.bool V) ∧ Kp w w' := by
  go_enter Try.func50, Try.ntmps50
  go_wp2_with (first | (go_at_call 77; refine (hr _).mono ?_; rintro e w1 ⟨P1, Q1, P2, Q2, n, rfl, ok, g1⟩; have k1 : Kp w w1 := Kp.trans (((Kp.refl w).alloc _).alloc _) g1) | (go_at_call 78; refine (hE1 _ _ _ _ _ ok _).mono ?_; rintro e w2 ⟨rfl, g2⟩; have k2 : Kp w w2 := Kp.trans ((k1.alloc _).alloc _) g2))
  exact bodyPost_ret (v := .bool V) (by simp [results, Try.results50, go_sem]) rfl ⟨rfl, k2⟩
theorem rdisj9_ (X1 X2 Y1 Y2 L1 H1 L2 H2 : Int) (d1 : VdZ L1 H1) (d2 : VdZ L2 H2) (hx : ∀ w : World, Calls Try.prog 34 #[.agg #[.int .u64 X1, .int .u64 X2]] w fun e w' => e = .returned (.agg #[.int .u64 (pI L1), .int .u64 (pI H1)]) ∧ Kp w w') (hy : ∀ w : World, Calls Try.prog 34 #[.agg #[.int .u64 Y1, .int .u64 Y2]] w fun e w' => e = .returned (.agg #[.int .u64 (pI L2), .int .u64 (pI H2)]) ∧ Kp w w') (w : World) : Calls Try.prog 50 #[.agg #[.int .u64 X1, .int .u64 X2], .agg #[.int .u64 Y1, .int .u64 Y2]] w fun e w' => e = .returned (.bool (decide (¬ max L1 L2 ≤ min H1 H2))) ∧ Kp w w' :=
  rdisjA_ X1 X2 Y1 Y2 _ _ (RowOk L1 H1 L2 H2) (rowsZ_ X1 X2 Y1 Y2 L1 H1 L2 H2 d1 d2 hx hy) _ (fun P1 Q1 P2 Q2 n ok w => ee5_ L1 H1 L2 H2 d1 d2 P1 Q1 P2 Q2 n ok w) w
end Go.Proofs.Ytjkbapnndoldgaa
