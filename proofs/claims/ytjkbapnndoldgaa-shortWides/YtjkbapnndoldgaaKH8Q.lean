import Derived.Test.YtjkbapnndoldgaaKH5Q
namespace Go.Proofs.Ytjkbapnndoldgaa
open Go.RowKit
theorem mdW_w (n : Bool) (X : Nat) (h : X ≠ 0) : mdW n X = Fq.wD n X := by unfold mdW Fq.wD; rw [if_neg h]
theorem pW_w (n : Bool) (R : Nat) (h : R ≠ 0) : pW 2147483648 n R = (if n = true then 2147483648 + R else R) := by unfold pW; rw [if_neg h]
set_option maxRecDepth 20000 in
theorem thin_num (n : Bool) (U K9 : Nat) (hK : K9 = 925) (hb : blen U ≤ 277) (w : World) : Calls Try.prog 56 #[.int .u64 ((mdW n (rgU 53 (U * 2 ^ K9)) : Nat) : Int)] w fun e w' => e = .returned (.int .u32 ((pW 2147483648 n (rgU 24 U) : Nat) : Int)) ∧ w' = w := by
  by_cases c : U = 0
  · rw [c, Nat.zero_mul, rgU_zero, rgU_zero]
    exact thin0_ w
  · obtain ⟨X, hX⟩ : ∃ X, X = rgU 53 (U * 2 ^ K9) := ⟨_, rfl⟩
    obtain ⟨q, hq⟩ : ∃ q, q = U * 2 ^ 24 / 2 ^ blen U := ⟨_, rfl⟩
    obtain ⟨a1, a2, a3, a4, a5, a6, a7, a8⟩ := thin_math U (blen U) X q K9 hK c rfl hb hX hq
    rw [← hX]
    have hX0 : X ≠ 0 := by intro h; rw [h] at a1; omega
    have hR : rgU 24 U = if 897 ≤ blen U + 873 then (blen U + 873 - 897) * 8388608 + q else q / 2 ^ (897 - (blen U + 873)) := by
      by_cases c2 : 24 ≤ blen U
      · rw [if_pos (by omega), a7 c2, show blen U + 873 - 897 = blen U - 24 from by omega]
      · rw [if_neg (by omega), (a8 (by omega)).1, show 897 - (blen U + 873) = 24 - blen U from by omega]
        exact ((a8 (by omega)).2).symm
    have hR0 : rgU 24 U ≠ 0 := by
      by_cases c2 : 24 ≤ blen U
      · rw [a7 c2]; omega
      · rw [(a8 (by omega)).1]; exact c
    rw [mdW_w n X hX0, pW_w n _ hR0]
    exact thin_ n X (blen U + 873) q (rgU 24 U) w a5 a1.symm a2 a3 a4 (by omega) (by omega) hR
set_option maxRecDepth 20000 in
theorem thin_inf (n : Bool) (w : World) : Calls Try.prog 56 #[.int .u64 ((mdW n 9218868437227405312 : Nat) : Int)] w fun e w' => e = .returned (.int .u32 ((pW 2147483648 n 2139095040 : Nat) : Int)) ∧ w' = w := by
  cases n
  · exact thinI_false w
  · exact thinI_true w
end Go.Proofs.Ytjkbapnndoldgaa
