import Derived.Test.YtjkbapnndoldgaaKSHb
namespace Go.Proofs.Ytjkbapnndoldgaa
open Go.RowKit
theorem mdW_w (n : Bool) (X : Nat) (h : X ≠ 0) : mdW n X = Fq.wD n X := by unfold mdW Fq.wD; rw [if_neg h]
theorem pW_w (n : Bool) (R : Nat) (h : R ≠ 0) : pW 2147483648 n R = (if n = true then 2147483648 + R else R) := by unfold pW; rw [if_neg h]
set_option maxRecDepth 20000 in
theorem thin_num (n : Bool) (U K9 : Nat) (hK : K9 = 925) (hb : blen U ≤ 277) (w : World) : Calls Try.prog 56 #[.int .u64 ((mdW n (rgU 53 (U * 2 ^ K9)) : Nat) : Int)] w fun e w' => e = .returned (.int .u32 ((pW 2147483648 n (rgU 24 U) : Nat) : Int)) ∧ w' = w := by
  by_cases c : U = 0
  · rw [c, Nat.zero_mul, rgU_zero, rgU_zero]
    exact thin0_ w
  · obtain ⟨X, hX⟩ : ∃ X, X = rgU 53 (U * 2 ^ K9) := ⟨_, rfl⟩
    obtain ⟨q, hq⟩ : ∃ q, q = U * 2 ^ 24 / 2 ^ blen U := ⟨_, rfl⟩
    obtain ⟨a1, a2, a3, a4, a5, a6, a7, a8⟩ := thin_math U (blen U) X q K9 hK c rfl hb hX hq
    rw [← hX]
    have hX0 : X ≠ 0 := by intro h; rw [h] at a1; omega
    have hR : rgU 24 U = if 897 ≤ blen U + 873 then (blen U + 873 - 897) * 8388608 + q else q / 2 ^ (897 - (blen U + 873)) := by
      by_cases c2 : 24 ≤ blen U
      · rw [if_pos (by omega), a7 c2, show blen U + 873 - 897 = blen U - 24 from by omega]
      · rw [if_neg (by omega), (a8 (by omega)).1, show 897 - (blen U + 873) = 24 - blen U from by omega]
        exact ((a8 (by omega)).2).symm
    have hR0 : rgU 24 U ≠ 0 := by
      by_cases c2 : 24 ≤ blen U
      · rw [a7 c2]; omega
      · rw [(a8 (by omega)).1]; exact c
    rw [mdW_w n X hX0, pW_w n _ hR0]
    exact thin_ n X (blen U + 873) q (rgU 24 U) w a5 a1.symm a2 a3 a4 (by omega) (by omega) hR
set_option maxRecDepth 20000 in
theorem thin_inf (n : Bool) (w : World) : Calls Try.prog 56 #[.int .u64 ((mdW n 9218868437227405312 : Nat) : Int)] w fun e w' => e = .returned (.int .u32 ((pW 2147483648 n 2139095040 : Nat) : Int)) ∧ w' = w := by
  cases n
  · exact thinI_false w
  · exact thinI_true w
theorem rgU_place (p S E : Nat) (hp : 0 < p) (hS : S ≤ 2 ^ p) (hE : E = 0 ∨ 2 ^ (p - 1) ≤ S) : rgU p (S * 2 ^ E) = E * 2 ^ (p - 1) + S := by
  have ep : (2 : Nat) ^ p = 2 * 2 ^ (p - 1) := by rw [show p = p - 1 + 1 from by omega, Nat.pow_succ, Nat.add_sub_cancel]; omega
  have pp := Nat.two_pow_pos (p - 1)
  have full : ∀ X x : Nat, 2 ^ (p - 1) ≤ X → X < 2 ^ p → rgU p (X * 2 ^ x) = x * 2 ^ (p - 1) + X := by
    intro X x h1 h2
    have b1 : blen X ≤ p := (blen_le_iff X p).2 h2
    have b2 : ¬ blen X ≤ p - 1 := fun h => by have := (blen_le_iff X (p - 1)).1 h; omega
    have b3 : p - blen X = 0 := by omega
    rw [rgU_mul p X x 0 (by omega) (by rw [b3, Nat.zero_min]) b1, Nat.sub_zero, Nat.pow_zero, Nat.mul_one]
  by_cases c : S = 2 ^ p
  · have e : S * 2 ^ E = 2 ^ (p - 1) * 2 ^ (E + 1) := by
      rw [c, ep, Nat.pow_succ]; ac_rfl
    rw [e, full _ _ (Nat.le_refl _) (by omega), c, ep, Nat.add_mul, Nat.one_mul, Nat.two_mul]
    omega
  · have hlt : S < 2 ^ p := by omega
    rcases hE with h | h
    · rw [h, Nat.pow_zero, Nat.mul_one, Nat.zero_mul, Nat.zero_add]
      by_cases z : S = 0
      · rw [z, rgU_zero]
      · have h1 := rgU_mul p S 0 0 z (by omega) ((blen_le_iff S p).2 hlt)
        rw [Nat.pow_zero, Nat.mul_one, Nat.sub_zero, Nat.zero_mul, Nat.zero_add] at h1
        exact h1
    · exact full S E h hlt
def TU (I : Nat) (v : Nat → Nat) (A B lo hi ne : Nat) : Prop := (lo = hi ∧ ne = lo ∧ lo < I ∧ v lo * B = A) ∨ (hi = lo + 1 ∧ lo < I ∧ v lo * B < A ∧ (hi < I → A < v hi * B) ∧ ((2 * A < (v lo + v hi) * B ∧ ne = lo) ∨ ((v lo + v hi) * B < 2 * A ∧ ne = hi) ∨ (2 * A = (v lo + v hi) * B ∧ (ne = lo ∨ ne = hi) ∧ ne % 2 = 0)))
def TS (I : Nat) (v : Nat → Nat) (A B : Int) (lo hi ne : Int) : Prop := ∀ vs : Int → Int, (∀ z : Int, 0 ≤ z → vs z = (v z.natAbs : Int)) → (∀ z : Int, vs (-z) = - vs z) → (lo = hi ∧ ne = lo ∧ -(I : Int) < lo ∧ lo < I ∧ vs lo * B = A) ∨ (hi = lo + 1 ∧ -(I : Int) ≤ lo ∧ hi ≤ I ∧ (-(I : Int) < lo → vs lo * B < A) ∧ (hi < I → A < vs hi * B) ∧ ((2 * A < (vs lo + vs hi) * B ∧ ne = lo) ∨ ((vs lo + vs hi) * B < 2 * A ∧ ne = hi) ∨ (2 * A = (vs lo + vs hi) * B ∧ (ne = lo ∨ ne = hi) ∧ ne % 2 = 0)))
theorem TU.pos {I : Nat} {v : Nat → Nat} {A B lo hi ne : Nat} (h : TU I v A B lo hi ne) : TS I v (A : Int) (B : Int) (lo : Int) (hi : Int) (ne : Int) := by
  intro vs h1 h2
  have e1 : vs (lo : Int) = (v lo : Int) := by rw [h1 _ (by omega)]; rfl
  have e2 : vs (hi : Int) = (v hi : Int) := by rw [h1 _ (by omega)]; rfl
  rw [e1, e2]
  rcases h with ⟨a1, a2, a3, a4⟩ | ⟨a1, a2, a3, a4, a5⟩
  · left
    refine ⟨by omega, by omega, by omega, by omega, ?_⟩
    rw [← a4, Int.natCast_mul]
  · right
    have m1 : ((v lo * B : Nat) : Int) = (v lo : Int) * (B : Int) := Int.natCast_mul _ _
    have m2 : ((v hi * B : Nat) : Int) = (v hi : Int) * (B : Int) := Int.natCast_mul _ _
    rw [Nat.add_mul] at a5
    rw [Int.add_mul, ← m1, ← m2]
    generalize v lo * B = X at *
    generalize v hi * B = Y at *
    refine ⟨by omega, by omega, by omega, fun _ => by omega, fun h => ?_, ?_⟩
    · have := a4 (by omega); omega
    · omega
theorem TU.neg {I : Nat} {v : Nat → Nat} {A B lo hi ne : Nat} (h : TU I v A B lo hi ne) : TS I v (-(A : Int)) (B : Int) (-(hi : Int)) (-(lo : Int)) (-(ne : Int)) := by
  intro vs h1 h2
  have e1 : vs (-(lo : Int)) = -(v lo : Int) := by rw [h2, h1 _ (by omega)]; rfl
  have e2 : vs (-(hi : Int)) = -(v hi : Int) := by rw [h2, h1 _ (by omega)]; rfl
  rw [e1, e2]
  have m1 : ((v lo * B : Nat) : Int) = (v lo : Int) * (B : Int) := Int.natCast_mul _ _
  have m2 : ((v hi * B : Nat) : Int) = (v hi : Int) * (B : Int) := Int.natCast_mul _ _
  rcases h with ⟨a1, a2, a3, a4⟩ | ⟨a1, a2, a3, a4, a5⟩
  · left
    refine ⟨by omega, by omega, by omega, by omega, ?_⟩
    rw [Int.neg_mul, ← m2, ← a1, a4]
  · right
    rw [Nat.add_mul] at a5
    rw [Int.add_mul, Int.neg_mul, Int.neg_mul, ← m1, ← m2]
    generalize v lo * B = X at *
    generalize v hi * B = Y at *
    refine ⟨by omega, by omega, by omega, fun h => ?_, fun _ => by omega, ?_⟩
    · have := a4 (by omega); omega
    · omega

def pI (x : Int) : Int := ((pw x : Nat) : Int)
theorem pI_inj (x y : Int) (hx : BdZ x) (hy : BdZ y) : pI x = pI y ↔ x = y := by
  unfold pI
  rw [← pw_inj x y hx hy]
  omega
set_option maxRecDepth 20000 in
set_option maxHeartbeats 400000 in
theorem isinf6_ (n : Bool) (m : Nat) (hm : m < 9223372036854775808) (w : World) : Calls Try.prog 68 #[.int .u64 ((Fq.wD n m : Nat) : Int)] w fun e w' => e = .returned (.bool (decide (m = 9218868437227405312))) ∧ w' = w := by
  obtain ⟨X, hX⟩ : ∃ X, X = Fq.wD n m := ⟨_, rfl⟩
  have f1 := (Fq.noTop6 n m X hm hX).1
  rw [← hX]
  clear hX hm
  by_cases c : m = 9218868437227405312
  · have t1 : ((m : Int) == 9218868437227405312) = true := by rw [c]; rfl
    rw [decide_eq_true c]
    clear c
    go_enter Try.func68, Try.ntmps68
    go_wp2
    exact bodyPost_ret (v := .bool true) (by simp [results, Try.results68, go_sem] <;> simpa using t1) rfl ⟨rfl, rfl⟩
  · have t1 : ((m : Int) == 9218868437227405312) = false := by simp; omega
    rw [decide_eq_false c]
    clear c
    go_enter Try.func68, Try.ntmps68
    go_wp2
    exact bodyPost_ret (v := .bool false) (by simp [results, Try.results68, go_sem] <;> simpa using t1) rfl ⟨rfl, rfl⟩
theorem isinf9_ (x : Int) (h : BdZ x) (w : World) : Calls Try.prog 68 #[.int .u64 (pI x)] w fun e w' => e = .returned (.bool (decide (x = 9218868437227405312 ∨ x = -9218868437227405312))) ∧ w' = w := by
  have g := isinf6_ (decide (x < 0)) x.natAbs (by have := abs_pw x h; omega) w
  rw [show decide (x.natAbs = 9218868437227405312) = decide (x = 9218868437227405312 ∨ x = -9218868437227405312) from by congr 1; apply propext; omega] at g
  exact g
theorem rabove9_ (x y : Int) (hx : BdZ x) (hy : BdZ y) (w : World) : Calls Try.prog 51 #[.int .u64 (pI x), .int .u64 (pI y)] w fun e w' => e = .returned (.bool (decide (y < x))) ∧ w' = w := by
  have h1 := abs_pw x hx
  have h2 := abs_pw y hy
  have g := Fq.above6_ (decide (x < 0)) (decide (y < 0)) x.natAbs y.natAbs (by omega) (by omega) w
  rw [plz_pw, plz_pw, show decide (x.natAbs ≤ 9218868437227405312 ∧ y.natAbs ≤ 9218868437227405312 ∧ y < x) = decide (y < x) from by congr 1; apply propext; exact ⟨fun h => h.2.2, fun h => ⟨h1, h2, h⟩⟩] at g
  exact g
theorem rread9_ (a b : Nat) (L H : Int) (h : Rd a b L H) (w : World) : Calls Try.prog 34 #[.agg #[.int .u64 ((a : Nat) : Int), .int .u64 ((b : Nat) : Int)]] w fun e w' => e = .returned (.agg #[.int .u64 (pI L), .int .u64 (pI H)]) ∧ Kp w w' := by
  have e1 := h.2.2.2.1
  have e2 := h.2.2.2.2
  unfold pI
  rw [← e1, ← e2]
  obtain ⟨n, m, hm, rfl⟩ := Fq.exD a h.1
  obtain ⟨n', m', hm', rfl⟩ := Fq.exD b h.2.1
  exact Fq.rread_ n n' m m' hm hm' w
theorem rempty9_ (w : World) : Calls Try.prog 43 #[] w fun e w' => e = .returned (.agg #[.int .u64 9218868437227405312, .int .u64 18442240474082181120]) ∧ Kp w w' := by
  refine (Fq.rempty_ w).mono ?_
  rintro e w' ⟨rfl, rfl⟩
  exact ⟨rfl, (Kp.refl w).alloc _⟩
end Go.Proofs.Ytjkbapnndoldgaa
