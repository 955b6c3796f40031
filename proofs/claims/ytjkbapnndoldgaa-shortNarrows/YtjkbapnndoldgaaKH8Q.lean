import Derived.Test.YtjkbapnndoldgaaKG3S
import Derived.Test.YtjkbapnndoldgaaKH5Q
namespace Go.Proofs.Ytjkbapnndoldgaa
open Go.RowKit
theorem sg_bound (m : Nat) (hm : m < 9218868437227405312) : Fq.sgD m < 1152921504606846976 ∧ -1074 ≤ Fq.epD m ∧ Fq.epD m ≤ 971 ∧ (Fq.sgD m = 0 ↔ m = 0) ∧ blen (Fq.sgD m) ≤ 60 := by
  have h : Fq.sgD m < 1152921504606846976 ∧ -1074 ≤ Fq.epD m ∧ Fq.epD m ≤ 971 ∧ (Fq.sgD m = 0 ↔ m = 0) := by
    by_cases c : m / 4503599627370496 = 0
    · obtain ⟨h1, h2⟩ := sgep0 m c
      rw [show Fq.sgD m = _ from h1, show Fq.epD m = _ from h2]
      omega
    · obtain ⟨h1, h2⟩ := sgep1 m hm c
      rw [show Fq.sgD m = _ from h1, show Fq.epD m = _ from h2]
      omega
  exact ⟨h.1, h.2.1, h.2.2.1, h.2.2.2, blen_lt _ 60 (by rw [show (2 : Nat) ^ 60 = 1152921504606846976 from by decide]; exact h.1)⟩
theorem rV_zero (d : Int) (p B : Nat) (t : Int) : rV d p 0 B t = 0 := by
  unfold rV rU rS rR
  rw [Nat.zero_mul, Nat.zero_div, Nat.zero_mod]
  have : upw d 0 0 (B * 2 ^ (-t).toNat * 2 ^ rE p 0 (B * 2 ^ (-t).toNat)) = false ∨ B * 2 ^ (-t).toNat * 2 ^ rE p 0 (B * 2 ^ (-t).toNat) = 0 := by
    by_cases c : B * 2 ^ (-t).toNat * 2 ^ rE p 0 (B * 2 ^ (-t).toNat) = 0
    · exact Or.inr c
    · exact Or.inl (upw_none _ _ _ (Nat.pos_of_ne_zero c))
  rcases this with h | h
  · rw [h]; simp
  · rw [h]
    unfold upw
    simp
theorem mdW_w (n : Bool) (X : Nat) (h : X ≠ 0) : mdW n X = Fq.wD n X := by unfold mdW Fq.wD; rw [if_neg h]
theorem pW_w (n : Bool) (R : Nat) (h : R ≠ 0) : pW 2147483648 n R = (if n = true then 2147483648 + R else R) := by unfold pW; rw [if_neg h]
set_option maxRecDepth 20000 in
theorem thin_num (n : Bool) (U K9 : Nat) (hK : K9 = 925) (hb : blen U ≤ 277) (w : World) : Calls Try.prog 56 #[.int .u64 ((mdW n (rgU 53 (U * 2 ^ K9)) : Nat) : Int)] w fun e w' => e = .returned (.int .u32 ((pW 2147483648 n (rgU 24 U) : Nat) : Int)) ∧ w' = w := by
  by_cases c : U = 0
  · rw [c, Nat.zero_mul, rgU_zero, rgU_zero]
    exact thin0_ w
  · obtain ⟨X, hX⟩ : ∃ X, X = rgU 53 (U * 2 ^ K9) := ⟨_, rfl⟩
    obtain ⟨q, hq⟩ : ∃ q, q = U * 2 ^ 24 / 2 ^ blen U := ⟨_, rfl⟩
    obtain ⟨a1, a2, a3, a4, a5, a6, a7, a8⟩ := thin_math U (blen U) X q K9 hK c rfl hb hX hq
    rw [← hX]
    have hX0 : X ≠ 0 := by intro h; rw [h] at a1; omega
    have hR : rgU 24 U = if 897 ≤ blen U + 873 then (blen U + 873 - 897) * 8388608 + q else q / 2 ^ (897 - (blen U + 873)) := by
      by_cases c2 : 24 ≤ blen U
      · rw [if_pos (by omega), a7 c2, show blen U + 873 - 897 = blen U - 24 from by omega]
      · rw [if_neg (by omega), (a8 (by omega)).1, show 897 - (blen U + 873) = 24 - blen U from by omega]
        exact ((a8 (by omega)).2).symm
    have hR0 : rgU 24 U ≠ 0 := by
      by_cases c2 : 24 ≤ blen U
      · rw [a7 c2]; omega
      · rw [(a8 (by omega)).1]; exact c
    rw [mdW_w n X hX0, pW_w n _ hR0]
    exact thin_ n X (blen U + 873) q (rgU 24 U) w a5 a1.symm a2 a3 a4 (by omega) (by omega) hR
set_option maxRecDepth 20000 in
theorem thin_top (n : Bool) (w : World) : Calls Try.prog 56 #[.int .u64 ((mdW n 5183643170566569984 : Nat) : Int)] w fun e w' => e = .returned (.int .u32 ((pW 2147483648 n 2139095039 : Nat) : Int)) ∧ w' = w := by
  rw [mdW_w n 5183643170566569984 (by decide), pW_w n 2139095039 (by decide)]
  exact thin_ n 5183643170566569984 1150 16777215 2139095039 w (by decide) (by decide) (by decide) (by decide) (by decide) (by decide) (by decide) (by decide)
set_option maxRecDepth 20000 in
theorem thin_inf (n : Bool) (w : World) : Calls Try.prog 56 #[.int .u64 ((mdW n 9218868437227405312 : Nat) : Int)] w fun e w' => e = .returned (.int .u32 ((pW 2147483648 n 2139095040 : Nat) : Int)) ∧ w' = w := by
  cases n
  · exact thinI_false w
  · exact thinI_true w
set_option maxRecDepth 20000 in
theorem thin_ref (d : Int) (n g ng : Bool) (m a b : Nat) (hm : m < 9218868437227405312) (hng : ng = (n && !(m == 0))) (hF : FracOf (Fq.sgD m) 1 (Fq.epD m) a b) (hg : Fq.sgD m ≠ 0 → g = n) (w : World) :
    Calls Try.prog 56 #[.int .u64 ((refW 24 149 277 5183643170566569984 925 d g a b : Nat) : Int)] w fun e w' => e = .returned (.int .u32 ((pW 2147483648 ng (finU 24 277 2139095039 2139095040 (dirN ng d) (rV (dirN ng d) 24 (Fq.sgD m) 1 (Fq.epD m + 149))) : Nat) : Int)) ∧ w' = w := by
  obtain ⟨_, _, _, hz, _⟩ := sg_bound m hm
  by_cases c : m = 0
  · have hs : Fq.sgD m = 0 := hz.2 c
    have ha : a = 0 := hF.2.1.2 hs
    rw [hs, rV_zero]
    unfold refW
    rw [if_pos ha]
    have hz9 : ∀ dd : Int, finU 24 277 2139095039 2139095040 dd 0 = 0 := fun dd => by unfold finU; rw [blen_zero, if_pos (by omega), rgU_zero]
    rw [hz9]
    exact thin0_ w
  · have hs : Fq.sgD m ≠ 0 := fun h => c (hz.1 h)
    have ha : a ≠ 0 := fun h => hs (hF.2.1.1 h)
    have hn : ng = n := by rw [hng]; cases n <;> simp [c]
    rw [hg hs, hn]
    unfold refW
    rw [if_neg ha, hF.2.2.1 _ _ _ hs, show (((149 : Nat) : Int) + Fq.epD m) = Fq.epD m + 149 from by omega]
    obtain ⟨U, hU⟩ : ∃ U, U = rV (dirN n d) 24 (Fq.sgD m) 1 (Fq.epD m + 149) := ⟨_, rfl⟩
    obtain ⟨K9, hK9⟩ : ∃ K9, K9 = 925 := ⟨_, rfl⟩
    rw [← hU, ← hK9]
    unfold finU
    by_cases cb : blen U ≤ 277
    · rw [if_pos cb, if_pos cb]
      exact thin_num n U K9 hK9 cb w
    · rw [if_neg cb, if_neg cb]
      by_cases cd : dirN n d = -1
      · rw [if_pos cd, if_pos cd]
        exact thin_top n w
      · rw [if_neg cd, if_neg cd]
        exact thin_inf n w
set_option maxRecDepth 20000 in
set_option maxHeartbeats 400000 in
theorem rnar_fin (d : Int) (n : Bool) (m : Nat) (w : World) (hm : m < 9218868437227405312) (ng : Bool) (hng : ng = (n && !(m == 0))) :
    Calls Try.prog 45 #[.int .i64 d, .int .u64 ((Fq.wD n m : Nat) : Int)] w fun e w' => e = .returned (.int .u32 ((pW 2147483648 ng (finU 24 277 2139095039 2139095040 (dirN ng d) (rV (dirN ng d) 24 (Fq.sgD m) 1 (Fq.epD m + 149))) : Nat) : Int)) ∧ Kp w w' := by
  have h1 := isnan_ n m (by omega) w
  have h2 := isinf_ n m (by omega) w
  rw [decide_eq_false (by omega)] at h1 h2
  have h3 := fromBits_ n m hm w
  simp only [show Fb.wD = Fq.wD from rfl, show Fb.sgD = Fq.sgD from rfl, show Fb.epD = Fq.epD from rfl] at h3
  obtain ⟨b1, b2, b3, _, b5⟩ := sg_bound m hm
  have h4 := fun g a b (hF : FracOf (Fq.sgD m) 1 (Fq.epD m) a b) (hg : Fq.sgD m ≠ 0 → g = n) w => thin_ref d n g ng m a b hm hng hF hg w
  have HB : Hid (-1074 ≤ Fq.epD m ∧ Fq.epD m ≤ 971 ∧ blen (Fq.sgD m) ≤ 60) := ⟨b2, b3, b5⟩
  obtain ⟨Y, hY⟩ : ∃ Y, Y = pW 2147483648 ng (finU 24 277 2139095039 2139095040 (dirN ng d) (rV (dirN ng d) 24 (Fq.sgD m) 1 (Fq.epD m + 149))) := ⟨_, rfl⟩
  rw [← hY] at h4 ⊢
  obtain ⟨X, hX⟩ : ∃ X, X = Fq.wD n m := ⟨_, rfl⟩
  rw [← hX] at h1 h2 h3 ⊢
  clear hm hng b1 b2 b3 b5 hY hX
  go_enter Try.func45, Try.ntmps45
  go_wp2_with fail
  refine h1.mono ?_; rintro e w' ⟨rfl, hw'⟩; obtain rfl := hw'.symm; clear h1 hw'
  go_wp2_with fail
  refine h2.mono ?_; rintro e w' ⟨rfl, hw'⟩; obtain rfl := hw'.symm; clear h2 hw'
  go_wp2_with fail
  refine h3.mono ?_; rintro e w1 ⟨vn, vd, a, b, g, rfl, hN, hD, ⟨hF, hg⟩, hk⟩
  have h5 := h4 g a b hF hg
  have hbl : blen a ≤ 4194304 ∧ blen b ≤ 4194304 := by
    have q1 := hF.2.2.2.1
    have q2 := hF.2.2.2.2
    have q3 := HB.out
    rw [show blen 1 = 1 from blen_uniq 1 0 (by decide) (by decide)] at q2
    omega
  have h6 := rrounded_S d g vn vd a b w1 hN.ls hD.ls hF.1 hbl.1 hbl.2
  obtain ⟨Z, hZ⟩ : ∃ Z, Z = refW 24 149 277 5183643170566569984 925 d g a b := ⟨_, rfl⟩
  rw [← hZ] at h5 h6
  clear h3 h4 hN hD hF hg hbl hZ HB
  go_wp2_with fail
  refine h6.mono ?_; rintro e w2 ⟨rfl, hk2⟩
  have h7 := h5 w2
  have hk3 := hk.trans hk2
  clear h5 h6 hk hk2
  go_wp2_with fail
  refine h7.mono ?_; rintro e w' ⟨rfl, hw'⟩; obtain rfl := hw'.symm; clear h7 hw'
  go_wp2
  exact bodyPost_ret (v := .int .u32 (Y : Int)) (by simp [results, Try.results45, go_sem]) rfl ⟨rfl, hk3⟩
set_option maxRecDepth 20000 in
set_option maxHeartbeats 400000 in
theorem rnar_inf_false (d : Int) (w : World) : Calls Try.prog 45 #[.int .i64 d, .int .u64 9218868437227405312] w fun e w' => e = .returned (.int .u32 2139095040) ∧ Kp w w' := by
  have h1 : Calls Try.prog 67 #[.int .u64 9218868437227405312] w fun e w' => e = .returned (.bool false) ∧ w' = w := isnan_ false 9218868437227405312 (by decide) w
  have h2 : Calls Try.prog 68 #[.int .u64 9218868437227405312] w fun e w' => e = .returned (.bool true) ∧ w' = w := isinf_ false 9218868437227405312 (by decide) w
  have h3 := thinI_false w
  go_enter Try.func45, Try.ntmps45
  go_wp2_with fail
  refine h1.mono ?_; rintro e w' ⟨rfl, hw'⟩; obtain rfl := hw'.symm; clear h1 hw'
  go_wp2_with fail
  refine h2.mono ?_; rintro e w' ⟨rfl, hw'⟩; obtain rfl := hw'.symm; clear h2 hw'
  go_wp2_with fail
  refine h3.mono ?_; rintro e w' ⟨rfl, hw'⟩; obtain rfl := hw'.symm; clear h3 hw'
  go_wp2
  exact bodyPost_ret (v := .int .u32 2139095040) (by simp [results, Try.results45, go_sem]) rfl ⟨rfl, Kp.refl _⟩
set_option maxRecDepth 20000 in
set_option maxHeartbeats 400000 in
theorem rnar_inf_true (d : Int) (w : World) : Calls Try.prog 45 #[.int .i64 d, .int .u64 18442240474082181120] w fun e w' => e = .returned (.int .u32 4286578688) ∧ Kp w w' := by
  have h1 : Calls Try.prog 67 #[.int .u64 18442240474082181120] w fun e w' => e = .returned (.bool false) ∧ w' = w := isnan_ true 9218868437227405312 (by decide) w
  have h2 : Calls Try.prog 68 #[.int .u64 18442240474082181120] w fun e w' => e = .returned (.bool true) ∧ w' = w := isinf_ true 9218868437227405312 (by decide) w
  have h3 := thinI_true w
  go_enter Try.func45, Try.ntmps45
  go_wp2_with fail
  refine h1.mono ?_; rintro e w' ⟨rfl, hw'⟩; obtain rfl := hw'.symm; clear h1 hw'
  go_wp2_with fail
  refine h2.mono ?_; rintro e w' ⟨rfl, hw'⟩; obtain rfl := hw'.symm; clear h2 hw'
  go_wp2_with fail
  refine h3.mono ?_; rintro e w' ⟨rfl, hw'⟩; obtain rfl := hw'.symm; clear h3 hw'
  go_wp2
  exact bodyPost_ret (v := .int .u32 4286578688) (by simp [results, Try.results45, go_sem]) rfl ⟨rfl, Kp.refl _⟩
end Go.Proofs.Ytjkbapnndoldgaa
