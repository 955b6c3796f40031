import Derived.Test.YtjkbapnndoldgaaKXY
namespace Go.Proofs.Ytjkbapnndoldgaa
open Go.RowKit
theorem rgU_place (p S E : Nat) (hp : 0 < p) (hS : S ≤ 2 ^ p) (hE : E = 0 ∨ 2 ^ (p - 1) ≤ S) : rgU p (S * 2 ^ E) = E * 2 ^ (p - 1) + S := by
  have ep : (2 : Nat) ^ p = 2 * 2 ^ (p - 1) := by rw [show p = p - 1 + 1 from by omega, Nat.pow_succ, Nat.add_sub_cancel]; omega
  have pp := Nat.two_pow_pos (p - 1)
  have full : ∀ X x : Nat, 2 ^ (p - 1) ≤ X → X < 2 ^ p → rgU p (X * 2 ^ x) = x * 2 ^ (p - 1) + X := by
    intro X x h1 h2
    have b1 : blen X ≤ p := (blen_le_iff X p).2 h2
    have b2 : ¬ blen X ≤ p - 1 := fun h => by have := (blen_le_iff X (p - 1)).1 h; omega
    have b3 : p - blen X = 0 := by omega
    rw [rgU_mul p X x 0 (by omega) (by rw [b3, Nat.zero_min]) b1, Nat.sub_zero, Nat.pow_zero, Nat.mul_one]
  by_cases c : S = 2 ^ p
  · have e : S * 2 ^ E = 2 ^ (p - 1) * 2 ^ (E + 1) := by
      rw [c, ep, Nat.pow_succ]; ac_rfl
    rw [e, full _ _ (Nat.le_refl _) (by omega), c, ep, Nat.add_mul, Nat.one_mul, Nat.two_mul]
    omega
  · have hlt : S < 2 ^ p := by omega
    rcases hE with h | h
    · rw [h, Nat.pow_zero, Nat.mul_one, Nat.zero_mul, Nat.zero_add]
      by_cases z : S = 0
      · rw [z, rgU_zero]
      · have h1 := rgU_mul p S 0 0 z (by omega) ((blen_le_iff S p).2 hlt)
        rw [Nat.pow_zero, Nat.mul_one, Nat.sub_zero, Nat.zero_mul, Nat.zero_add] at h1
        exact h1
    · exact full S E h hlt
def TU (I : Nat) (v : Nat → Nat) (A B lo hi ne : Nat) : Prop := (lo = hi ∧ ne = lo ∧ lo < I ∧ v lo * B = A) ∨ (hi = lo + 1 ∧ lo < I ∧ v lo * B < A ∧ (hi < I → A < v hi * B) ∧ ((2 * A < (v lo + v hi) * B ∧ ne = lo) ∨ ((v lo + v hi) * B < 2 * A ∧ ne = hi) ∨ (2 * A = (v lo + v hi) * B ∧ (ne = lo ∨ ne = hi) ∧ ne % 2 = 0)))
def TS (I : Nat) (v : Nat → Nat) (A B : Int) (lo hi ne : Int) : Prop := ∀ vs : Int → Int, (∀ z : Int, 0 ≤ z → vs z = (v z.natAbs : Int)) → (∀ z : Int, vs (-z) = - vs z) → (lo = hi ∧ ne = lo ∧ -(I : Int) < lo ∧ lo < I ∧ vs lo * B = A) ∨ (hi = lo + 1 ∧ -(I : Int) ≤ lo ∧ hi ≤ I ∧ (-(I : Int) < lo → vs lo * B < A) ∧ (hi < I → A < vs hi * B) ∧ ((2 * A < (vs lo + vs hi) * B ∧ ne = lo) ∨ ((vs lo + vs hi) * B < 2 * A ∧ ne = hi) ∨ (2 * A = (vs lo + vs hi) * B ∧ (ne = lo ∨ ne = hi) ∧ ne % 2 = 0)))
theorem TU.pos {I : Nat} {v : Nat → Nat} {A B lo hi ne : Nat} (h : TU I v A B lo hi ne) : TS I v (A : Int) (B : Int) (lo : Int) (hi : Int) (ne : Int) := by
  intro vs h1 h2
  have e1 : vs (lo : Int) = (v lo : Int) := by rw [h1 _ (by omega)]; rfl
  have e2 : vs (hi : Int) = (v hi : Int) := by rw [h1 _ (by omega)]; rfl
  rw [e1, e2]
  rcases h with ⟨a1, a2, a3, a4⟩ | ⟨a1, a2, a3, a4, a5⟩
  · left
    refine ⟨by omega, by omega, by omega, by omega, ?_⟩
    rw [← a4, Int.natCast_mul]
  · right
    have m1 : ((v lo * B : Nat) : Int) = (v lo : Int) * (B : Int) := Int.natCast_mul _ _
    have m2 : ((v hi * B : Nat) : Int) = (v hi : Int) * (B : Int) := Int.natCast_mul _ _
    rw [Nat.add_mul] at a5
    rw [Int.add_mul, ← m1, ← m2]
    generalize v lo * B = X at *
    generalize v hi * B = Y at *
    refine ⟨by omega, by omega, by omega, fun _ => by omega, fun h => ?_, ?_⟩
    · have := a4 (by omega); omega
    · omega
theorem TU.neg {I : Nat} {v : Nat → Nat} {A B lo hi ne : Nat} (h : TU I v A B lo hi ne) : TS I v (-(A : Int)) (B : Int) (-(hi : Int)) (-(lo : Int)) (-(ne : Int)) := by
  intro vs h1 h2
  have e1 : vs (-(lo : Int)) = -(v lo : Int) := by rw [h2, h1 _ (by omega)]; rfl
  have e2 : vs (-(hi : Int)) = -(v hi : Int) := by rw [h2, h1 _ (by omega)]; rfl
  rw [e1, e2]
  have m1 : ((v lo * B : Nat) : Int) = (v lo : Int) * (B : Int) := Int.natCast_mul _ _
  have m2 : ((v hi * B : Nat) : Int) = (v hi : Int) * (B : Int) := Int.natCast_mul _ _
  rcases h with ⟨a1, a2, a3, a4⟩ | ⟨a1, a2, a3, a4, a5⟩
  · left
    refine ⟨by omega, by omega, by omega, by omega, ?_⟩
    rw [Int.neg_mul, ← m2, ← a1, a4]
  · right
    rw [Nat.add_mul] at a5
    rw [Int.add_mul, Int.neg_mul, Int.neg_mul, ← m1, ← m2]
    generalize v lo * B = X at *
    generalize v hi * B = Y at *
    refine ⟨by omega, by omega, by omega, fun h => ?_, fun _ => by omega, ?_⟩
    · have := a4 (by omega); omega
    · omega
end Go.Proofs.Ytjkbapnndoldgaa
