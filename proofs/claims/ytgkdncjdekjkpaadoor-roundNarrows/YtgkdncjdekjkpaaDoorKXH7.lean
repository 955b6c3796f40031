import Derived.Test.YtgkdncjdekjkpaaDoorProg
import Derived.Test.YtgkdncjdekjkpaaDoorKA
import Derived.Test.YtgkdncjdekjkpaaDoorKA2
import Derived.Test.YtgkdncjdekjkpaaDoorKXM
import Derived.Test.YtgkdncjdekjkpaaDoorKXY
import Derived.Test.YtgkdncjdekjkpaaDoorKFM
import Derived.Test.YtgkdncjdekjkpaaDoorKFA
import Derived.Test.YtgkdncjdekjkpaaDoorKFP
import Derived.Test.YtgkdncjdekjkpaaDoorKXU
import Derived.Test.YtgkdncjdekjkpaaDoorKXF
import Derived.Test.YtgkdncjdekjkpaaDoorKFB
import Derived.Test.YtgkdncjdekjkpaaDoorKFBT
import Derived.Test.YtgkdncjdekjkpaaDoorKXJ
import Derived.Test.YtgkdncjdekjkpaaDoorKMR7
import Derived.Test.YtgkdncjdekjkpaaDoorKXG1
import Derived.Test.YtgkdncjdekjkpaaDoorKXG4
import Derived.Test.YtgkdncjdekjkpaaDoorKXH
import Derived.Test.YtgkdncjdekjkpaaDoorKH3S
import Derived.Test.YtgkdncjdekjkpaaDoorKA3
import Derived.Test.YtgkdncjdekjkpaaDoorKHB
import Derived.Test.YtgkdncjdekjkpaaDoorKLX
import Derived.Test.YtgkdncjdekjkpaaDoorKRX
import Derived.Test.YtgkdncjdekjkpaaDoorKG3S
import Derived.WalkKit
import Derived.ProofKit
import Derived.RowKit3
import Derived.WalkSpells
import Derived.StillTactics
import Derived.Deep.QuietTactic
import Derived.BigQuiet
import Derived.Below
import Derived.Deep.OwnRows
import Derived.Laws.BitsAllLaws
import Derived.Laws.Slices
import Derived.Laws.Bits64b
import Derived.Laws.FloatArith
import Derived.OwnWalk
namespace Go.Proofs.YtgkdncjdekjkpaaDoor
open Go.RowKit
theorem sg_bound (m : Nat) (hm : m < 9218868437227405312) : Fb.sgD m < 1152921504606846976 ∧ -1074 ≤ Fb.epD m ∧ Fb.epD m ≤ 971 ∧ (Fb.sgD m = 0 ↔ m = 0) ∧ blen (Fb.sgD m) ≤ 60 := by
  have h : Fb.sgD m < 1152921504606846976 ∧ -1074 ≤ Fb.epD m ∧ Fb.epD m ≤ 971 ∧ (Fb.sgD m = 0 ↔ m = 0) := by
    by_cases c : m / 4503599627370496 = 0
    · obtain ⟨h1, h2⟩ := sgep0 m c
      rw [h1, h2]
      omega
    · obtain ⟨h1, h2⟩ := sgep1 m hm c
      rw [h1, h2]
      omega
  exact ⟨h.1, h.2.1, h.2.2.1, h.2.2.2, blen_lt _ 60 (by rw [show (2 : Nat) ^ 60 = 1152921504606846976 from by decide]; exact h.1)⟩
set_option maxRecDepth 20000 in
set_option maxHeartbeats 400000 in
theorem pnar_fin (d : Int) (n : Bool) (m : Nat) (w : World) (hT : Fb.Tab w) (hd1 : -9223372036854775808 ≤ d) (hd2 : d < 9223372036854775808) (hm : m < 9218868437227405312) (ng : Bool) (hng : ng = (n && !(m == 0))) :
    Calls Tryd.prog 15 #[.int .i64 d, .float .f64 (Fb.wD n m)] w fun e w' => e = .returned (.float .f32 (pW 2147483648 ng (finU 24 277 2139095039 2139095040 (dirN ng d) (rV (dirN ng d) 24 (Fb.sgD m) 1 (Fb.epD m + 149))))) ∧ Grown w w' := by
  have hf := finite_ n m (by omega) w
  rw [decide_eq_true hm] at hf
  have hs := Fb.split_d n m hm w
  rw [← hng] at hs
  obtain ⟨b1, b2, b3, _, _⟩ := sg_bound m hm
  obtain ⟨sg, hsg⟩ : ∃ sg, sg = Fb.sgD m := ⟨_, rfl⟩
  obtain ⟨ep, hep⟩ : ∃ ep, ep = Fb.epD m := ⟨_, rfl⟩
  rw [← hsg] at b1 hs ⊢
  rw [← hep] at b2 b3 hs ⊢
  have hp := fun w1 (g : Grown w w1) => prndS_ d ng sg ep w1 (hT.grown g) hd1 hd2 b1 (by omega) (by omega)
  obtain ⟨Y, hY⟩ : ∃ Y, Y = pW 2147483648 ng (finU 24 277 2139095039 2139095040 (dirN ng d) (rV (dirN ng d) 24 sg 1 (ep + 149))) := ⟨_, rfl⟩
  rw [← hY] at hp ⊢
  obtain ⟨X, hX⟩ : ∃ X, X = Fb.wD n m := ⟨_, rfl⟩
  rw [← hX] at hf hs ⊢
  clear hT hd1 hd2 hm hng b1 b2 b3 hsg hep hY hX
  go_enter Tryd.func15, Tryd.ntmps15
  go_wp2_with fail
  refine hf.mono ?_; rintro e w' ⟨rfl, hw'⟩; obtain rfl := hw'.symm; clear hf hw'
  go_wp2_with fail
  refine hs.mono ?_; rintro e w1 ⟨rfl, hk⟩
  have hp1 := hp w1 hk
  clear hs hp
  go_wp2_with fail
  refine hp1.mono ?_; rintro e w2 ⟨rfl, hk2⟩
  have hk3 := Fb.gtrans hk hk2
  clear hp1 hk hk2
  go_wp2
  exact bodyPost_ret (v := .float .f32 Y) (by simp [results, Tryd.results15, go_sem]) rfl ⟨rfl, hk3⟩
set_option maxRecDepth 20000 in
set_option maxHeartbeats 400000 in
theorem pnar_inf_false (d : Int) (w : World) : Calls Tryd.prog 15 #[.int .i64 d, .float .f64 9218868437227405312] w fun e w' => e = .returned (.float .f32 2139095040) ∧ Grown w w' := by
  have hf := finite_ false 9218868437227405312 (by decide) w
  have hf' : Calls Tryd.prog 35 #[.float .f64 9218868437227405312] w fun e w' => e = .returned (.bool false) ∧ w' = w := hf
  have hcv : ∀ w : World, (convert 31 38 (.float .f64 9218868437227405312)).run Tryd.prog w = .ok (.float .f32 2139095040) w := fun w => by kernel_rfl
  clear hf
  go_enter Tryd.func15, Tryd.ntmps15
  go_wp2_with fail
  refine hf'.mono ?_; rintro e w' ⟨rfl, hw'⟩; obtain rfl := hw'.symm; clear hf' hw'
  go_wp2
  exact bodyPost_ret (v := .float .f32 2139095040) (by simp [results, Tryd.results15, go_sem]) rfl ⟨rfl, Grown.refl _⟩
set_option maxRecDepth 20000 in
set_option maxHeartbeats 400000 in
theorem pnar_inf_true (d : Int) (w : World) : Calls Tryd.prog 15 #[.int .i64 d, .float .f64 18442240474082181120] w fun e w' => e = .returned (.float .f32 4286578688) ∧ Grown w w' := by
  have hf := finite_ true 9218868437227405312 (by decide) w
  have hf' : Calls Tryd.prog 35 #[.float .f64 18442240474082181120] w fun e w' => e = .returned (.bool false) ∧ w' = w := hf
  have hcv : ∀ w : World, (convert 31 38 (.float .f64 18442240474082181120)).run Tryd.prog w = .ok (.float .f32 4286578688) w := fun w => by kernel_rfl
  clear hf
  go_enter Tryd.func15, Tryd.ntmps15
  go_wp2_with fail
  refine hf'.mono ?_; rintro e w' ⟨rfl, hw'⟩; obtain rfl := hw'.symm; clear hf' hw'
  go_wp2
  exact bodyPost_ret (v := .float .f32 4286578688) (by simp [results, Tryd.results15, go_sem]) rfl ⟨rfl, Grown.refl _⟩
set_option maxRecDepth 20000 in
set_option maxHeartbeats 400000 in
theorem pnar_nan (d : Int) (n : Bool) (m : Nat) (w : World) (h1 : 9218868437227405312 < m) (h2 : m < 9223372036854775808) : Calls Tryd.prog 15 #[.int .i64 d, .float .f64 (Fb.wD n m)] w fun e w' => ∃ r, e = .returned (.float .f32 r) ∧ (2139095040 < r % 2147483648 ∧ r < 4294967296) ∧ Grown w w' := by
  have hf := finite_ n m h2 w
  rw [decide_eq_false (by omega)] at hf
  obtain ⟨r, r1, r2, hcv⟩ := cnv_nan n m h1 h2 w
  have HR : Hid (2139095040 < r % 2147483648 ∧ r < 4294967296) := ⟨r1, r2⟩
  obtain ⟨X, hX⟩ : ∃ X, X = Fb.wD n m := ⟨_, rfl⟩
  rw [← hX] at hf hcv ⊢
  clear hX h1 h2 r1 r2
  go_enter Tryd.func15, Tryd.ntmps15
  go_wp2_with fail
  refine hf.mono ?_; rintro e w' ⟨rfl, hw'⟩; obtain rfl := hw'.symm; clear hf hw'
  go_wp2
  exact bodyPost_ret (v := .float .f32 r) (by simp [results, Tryd.results15, go_sem]) rfl ⟨_, rfl, HR.out, (Grown.refl _).drew⟩
theorem rV_zero (d : Int) (p B : Nat) (t : Int) : rV d p 0 B t = 0 := by
  unfold rV rU rS rR
  rw [Nat.zero_mul, Nat.zero_div, Nat.zero_mod]
  have : upw d 0 0 (B * 2 ^ (-t).toNat * 2 ^ rE p 0 (B * 2 ^ (-t).toNat)) = false ∨ B * 2 ^ (-t).toNat * 2 ^ rE p 0 (B * 2 ^ (-t).toNat) = 0 := by
    by_cases c : B * 2 ^ (-t).toNat * 2 ^ rE p 0 (B * 2 ^ (-t).toNat) = 0
    · exact Or.inr c
    · exact Or.inl (upw_none _ _ _ (Nat.pos_of_ne_zero c))
  rcases this with h | h
  · rw [h]; simp
  · rw [h]
    unfold upw
    simp
theorem mdW_w (n : Bool) (X : Nat) (h : X ≠ 0) : mdW n X = Fb.wD n X := by unfold mdW Fb.wD; rw [if_neg h]
theorem pW_w (n : Bool) (R : Nat) (h : R ≠ 0) : pW 2147483648 n R = (if n = true then 2147483648 + R else R) := by unfold pW; rw [if_neg h]
set_option maxRecDepth 20000 in
theorem thin_num (n : Bool) (U K9 : Nat) (hK : K9 = 925) (hb : blen U ≤ 277) (w : World) : Calls Tryd.prog 43 #[.int .u64 ((mdW n (rgU 53 (U * 2 ^ K9)) : Nat) : Int)] w fun e w' => e = .returned (.int .u32 ((pW 2147483648 n (rgU 24 U) : Nat) : Int)) ∧ w' = w := by
  by_cases c : U = 0
  · rw [c, Nat.zero_mul, rgU_zero, rgU_zero]
    exact thin0_ w
  · obtain ⟨X, hX⟩ : ∃ X, X = rgU 53 (U * 2 ^ K9) := ⟨_, rfl⟩
    obtain ⟨q, hq⟩ : ∃ q, q = U * 2 ^ 24 / 2 ^ blen U := ⟨_, rfl⟩
    obtain ⟨a1, a2, a3, a4, a5, a6, a7, a8⟩ := thin_math U (blen U) X q K9 hK c rfl hb hX hq
    rw [← hX]
    have hX0 : X ≠ 0 := by intro h; rw [h] at a1; omega
    have hR : rgU 24 U = if 897 ≤ blen U + 873 then (blen U + 873 - 897) * 8388608 + q else q / 2 ^ (897 - (blen U + 873)) := by
      by_cases c2 : 24 ≤ blen U
      · rw [if_pos (by omega), a7 c2, show blen U + 873 - 897 = blen U - 24 from by omega]
      · rw [if_neg (by omega), (a8 (by omega)).1, show 897 - (blen U + 873) = 24 - blen U from by omega]
        exact ((a8 (by omega)).2).symm
    have hR0 : rgU 24 U ≠ 0 := by
      by_cases c2 : 24 ≤ blen U
      · rw [a7 c2]; omega
      · rw [(a8 (by omega)).1]; exact c
    rw [mdW_w n X hX0, pW_w n _ hR0]
    exact thin_ n X (blen U + 873) q (rgU 24 U) w a5 a1.symm a2 a3 a4 (by omega) (by omega) hR
set_option maxRecDepth 20000 in
theorem thin_top (n : Bool) (w : World) : Calls Tryd.prog 43 #[.int .u64 ((mdW n 5183643170566569984 : Nat) : Int)] w fun e w' => e = .returned (.int .u32 ((pW 2147483648 n 2139095039 : Nat) : Int)) ∧ w' = w := by
  rw [mdW_w n 5183643170566569984 (by decide), pW_w n 2139095039 (by decide)]
  exact thin_ n 5183643170566569984 1150 16777215 2139095039 w (by decide) (by decide) (by decide) (by decide) (by decide) (by decide) (by decide) (by decide)
set_option maxRecDepth 20000 in
theorem thin_inf (n : Bool) (w : World) : Calls Tryd.prog 43 #[.int .u64 ((mdW n 9218868437227405312 : Nat) : Int)] w fun e w' => e = .returned (.int .u32 ((pW 2147483648 n 2139095040 : Nat) : Int)) ∧ w' = w := by
  cases n
  · exact thinI_false w
  · exact thinI_true w
set_option maxRecDepth 20000 in
theorem thin_ref (d : Int) (n g ng : Bool) (m a b : Nat) (hm : m < 9218868437227405312) (hng : ng = (n && !(m == 0))) (hF : FracOf (Fb.sgD m) 1 (Fb.epD m) a b) (hg : Fb.sgD m ≠ 0 → g = n) (w : World) :
    Calls Tryd.prog 43 #[.int .u64 ((refW 24 149 277 5183643170566569984 925 d g a b : Nat) : Int)] w fun e w' => e = .returned (.int .u32 ((pW 2147483648 ng (finU 24 277 2139095039 2139095040 (dirN ng d) (rV (dirN ng d) 24 (Fb.sgD m) 1 (Fb.epD m + 149))) : Nat) : Int)) ∧ w' = w := by
  obtain ⟨_, _, _, hz, _⟩ := sg_bound m hm
  by_cases c : m = 0
  · have hs : Fb.sgD m = 0 := hz.2 c
    have ha : a = 0 := hF.2.1.2 hs
    rw [hs, rV_zero]
    unfold refW
    rw [if_pos ha]
    have hz9 : ∀ dd : Int, finU 24 277 2139095039 2139095040 dd 0 = 0 := fun dd => by unfold finU; rw [blen_zero, if_pos (by omega), rgU_zero]
    rw [hz9]
    exact thin0_ w
  · have hs : Fb.sgD m ≠ 0 := fun h => c (hz.1 h)
    have ha : a ≠ 0 := fun h => hs (hF.2.1.1 h)
    have hn : ng = n := by rw [hng]; cases n <;> simp [c]
    rw [hg hs, hn]
    unfold refW
    rw [if_neg ha, hF.2.2.1 _ _ _ hs, show (((149 : Nat) : Int) + Fb.epD m) = Fb.epD m + 149 from by omega]
    obtain ⟨U, hU⟩ : ∃ U, U = rV (dirN n d) 24 (Fb.sgD m) 1 (Fb.epD m + 149) := ⟨_, rfl⟩
    obtain ⟨K9, hK9⟩ : ∃ K9, K9 = 925 := ⟨_, rfl⟩
    rw [← hU, ← hK9]
    unfold finU
    by_cases cb : blen U ≤ 277
    · rw [if_pos cb, if_pos cb]
      exact thin_num n U K9 hK9 cb w
    · rw [if_neg cb, if_neg cb]
      by_cases cd : dirN n d = -1
      · rw [if_pos cd, if_pos cd]
        exact thin_top n w
      · rw [if_neg cd, if_neg cd]
        exact thin_inf n w
set_option maxRecDepth 20000 in
set_option maxHeartbeats 400000 in
theorem rnar_fin (d : Int) (n : Bool) (m : Nat) (w : World) (hm : m < 9218868437227405312) (ng : Bool) (hng : ng = (n && !(m == 0))) :
    Calls Tryd.prog 18 #[.int .i64 d, .int .u64 ((Fb.wD n m : Nat) : Int)] w fun e w' => e = .returned (.int .u32 ((pW 2147483648 ng (finU 24 277 2139095039 2139095040 (dirN ng d) (rV (dirN ng d) 24 (Fb.sgD m) 1 (Fb.epD m + 149))) : Nat) : Int)) ∧ Kp w w' := by
  have h1 := isnan_ n m (by omega) w
  have h2 := isinf_ n m (by omega) w
  rw [decide_eq_false (by omega)] at h1 h2
  have h3 := fromBits_ n m hm w
  obtain ⟨b1, b2, b3, _, b5⟩ := sg_bound m hm
  have h4 := fun g a b (hF : FracOf (Fb.sgD m) 1 (Fb.epD m) a b) (hg : Fb.sgD m ≠ 0 → g = n) w => thin_ref d n g ng m a b hm hng hF hg w
  have HB : Hid (-1074 ≤ Fb.epD m ∧ Fb.epD m ≤ 971 ∧ blen (Fb.sgD m) ≤ 60) := ⟨b2, b3, b5⟩
  obtain ⟨Y, hY⟩ : ∃ Y, Y = pW 2147483648 ng (finU 24 277 2139095039 2139095040 (dirN ng d) (rV (dirN ng d) 24 (Fb.sgD m) 1 (Fb.epD m + 149))) := ⟨_, rfl⟩
  rw [← hY] at h4 ⊢
  obtain ⟨X, hX⟩ : ∃ X, X = Fb.wD n m := ⟨_, rfl⟩
  rw [← hX] at h1 h2 h3 ⊢
  clear hm hng b1 b2 b3 b5 hY hX
  go_enter Tryd.func18, Tryd.ntmps18
  go_wp2_with fail
  refine h1.mono ?_; rintro e w' ⟨rfl, hw'⟩; obtain rfl := hw'.symm; clear h1 hw'
  go_wp2_with fail
  refine h2.mono ?_; rintro e w' ⟨rfl, hw'⟩; obtain rfl := hw'.symm; clear h2 hw'
  go_wp2_with fail
  refine h3.mono ?_; rintro e w1 ⟨vn, vd, a, b, g, rfl, hN, hD, ⟨hF, hg⟩, hk⟩
  have h5 := h4 g a b hF hg
  have hbl : blen a ≤ 4194304 ∧ blen b ≤ 4194304 := by
    have q1 := hF.2.2.2.1
    have q2 := hF.2.2.2.2
    have q3 := HB.out
    rw [show blen 1 = 1 from blen_uniq 1 0 (by decide) (by decide)] at q2
    omega
  have h6 := rrounded_S d g vn vd a b w1 hN.ls hD.ls hF.1 hbl.1 hbl.2
  obtain ⟨Z, hZ⟩ : ∃ Z, Z = refW 24 149 277 5183643170566569984 925 d g a b := ⟨_, rfl⟩
  rw [← hZ] at h5 h6
  clear h3 h4 hN hD hF hg hbl hZ HB
  go_wp2_with fail
  refine h6.mono ?_; rintro e w2 ⟨rfl, hk2⟩
  have h7 := h5 w2
  have hk3 := hk.trans hk2
  clear h5 h6 hk hk2
  go_wp2_with fail
  refine h7.mono ?_; rintro e w' ⟨rfl, hw'⟩; obtain rfl := hw'.symm; clear h7 hw'
  go_wp2
  exact bodyPost_ret (v := .int .u32 (Y : Int)) (by simp [results, Tryd.results18, go_sem]) rfl ⟨rfl, hk3⟩
set_option maxRecDepth 20000 in
set_option maxHeartbeats 400000 in
theorem rnar_inf_false (d : Int) (w : World) : Calls Tryd.prog 18 #[.int .i64 d, .int .u64 9218868437227405312] w fun e w' => e = .returned (.int .u32 2139095040) ∧ Kp w w' := by
  have h1 : Calls Tryd.prog 39 #[.int .u64 9218868437227405312] w fun e w' => e = .returned (.bool false) ∧ w' = w := isnan_ false 9218868437227405312 (by decide) w
  have h2 : Calls Tryd.prog 40 #[.int .u64 9218868437227405312] w fun e w' => e = .returned (.bool true) ∧ w' = w := isinf_ false 9218868437227405312 (by decide) w
  have h3 := thinI_false w
  go_enter Tryd.func18, Tryd.ntmps18
  go_wp2_with fail
  refine h1.mono ?_; rintro e w' ⟨rfl, hw'⟩; obtain rfl := hw'.symm; clear h1 hw'
  go_wp2_with fail
  refine h2.mono ?_; rintro e w' ⟨rfl, hw'⟩; obtain rfl := hw'.symm; clear h2 hw'
  go_wp2_with fail
  refine h3.mono ?_; rintro e w' ⟨rfl, hw'⟩; obtain rfl := hw'.symm; clear h3 hw'
  go_wp2
  exact bodyPost_ret (v := .int .u32 2139095040) (by simp [results, Tryd.results18, go_sem]) rfl ⟨rfl, Kp.refl _⟩
set_option maxRecDepth 20000 in
set_option maxHeartbeats 400000 in
theorem rnar_inf_true (d : Int) (w : World) : Calls Tryd.prog 18 #[.int .i64 d, .int .u64 18442240474082181120] w fun e w' => e = .returned (.int .u32 4286578688) ∧ Kp w w' := by
  have h1 : Calls Tryd.prog 39 #[.int .u64 18442240474082181120] w fun e w' => e = .returned (.bool false) ∧ w' = w := isnan_ true 9218868437227405312 (by decide) w
  have h2 : Calls Tryd.prog 40 #[.int .u64 18442240474082181120] w fun e w' => e = .returned (.bool true) ∧ w' = w := isinf_ true 9218868437227405312 (by decide) w
  have h3 := thinI_true w
  go_enter Tryd.func18, Tryd.ntmps18
  go_wp2_with fail
  refine h1.mono ?_; rintro e w' ⟨rfl, hw'⟩; obtain rfl := hw'.symm; clear h1 hw'
  go_wp2_with fail
  refine h2.mono ?_; rintro e w' ⟨rfl, hw'⟩; obtain rfl := hw'.symm; clear h2 hw'
  go_wp2_with fail
  refine h3.mono ?_; rintro e w' ⟨rfl, hw'⟩; obtain rfl := hw'.symm; clear h3 hw'
  go_wp2
  exact bodyPost_ret (v := .int .u32 4286578688) (by simp [results, Tryd.results18, go_sem]) rfl ⟨rfl, Kp.refl _⟩
set_option maxRecDepth 20000 in
set_option maxHeartbeats 400000 in
theorem rnar_nan (d : Int) (n : Bool) (m : Nat) (w : World) (h1 : 9218868437227405312 < m) (h2 : m < 9223372036854775808) : Calls Tryd.prog 18 #[.int .i64 d, .int .u64 ((Fb.wD n m : Nat) : Int)] w fun e w' => e = .returned (.int .u32 2143289344) ∧ Kp w w' := by
  have h := isnan_ n m h2 w
  rw [decide_eq_true h1] at h
  obtain ⟨X, hX⟩ : ∃ X, X = Fb.wD n m := ⟨_, rfl⟩
  rw [← hX] at h ⊢
  clear hX h1 h2
  go_enter Tryd.func18, Tryd.ntmps18
  go_wp2_with fail
  refine h.mono ?_; rintro e w' ⟨rfl, hw'⟩; obtain rfl := hw'.symm; clear h hw'
  go_wp2
  exact bodyPost_ret (v := .int .u32 2143289344) (by simp [results, Tryd.results18, go_sem]) rfl ⟨rfl, Kp.refl _⟩
theorem fin_le (d : Int) (U : Nat) : finU 24 277 2139095039 2139095040 d U ≤ 2139095040 := by
  unfold finU
  split
  · next h =>
    unfold rgU
    by_cases c : U = 0
    · rw [c, blen_zero]; simp
    · obtain ⟨h1, h2, h3⟩ := blen_spec U c
      have h4 : U / 2 ^ (blen U - 24) < 16777216 := by
        have := blen_shr U (blen U - 24)
        have h5 : blen (U / 2 ^ (blen U - 24)) ≤ 24 := by omega
        rw [blen_le_iff, show (2 : Nat) ^ 24 = 16777216 from by decide] at h5
        exact h5
      rw [show (2 : Nat) ^ (24 - 1) = 8388608 from by decide]
      omega
  · split <;> omega
theorem ordself (n : Bool) (R : Nat) (h : R ≤ 2139095040) : (FloatKind.f32.format.order (pW 2147483648 n R) (pW 2147483648 n R) != some .eq) = false := by
  have e : ∃ b, pW 2147483648 n R = Fb.wS b R := by
    by_cases c : R = 0
    · exact ⟨false, by unfold pW Fb.wS; rw [if_pos c]; simp [c]⟩
    · exact ⟨n, by unfold pW Fb.wS; rw [if_neg c]⟩
  obtain ⟨b, hb⟩ := e
  rw [hb, Fb.ordS b b R R h h, Fb.cmp_eq rfl]; rfl
theorem ordnan (r : Nat) (h1 : 2139095040 < r % 2147483648) (h2 : r < 4294967296) : (FloatKind.f32.format.order r r != some .eq) = true := by
  have e : r = Fb.wS (decide (2147483648 ≤ r)) (r % 2147483648) := by
    unfold Fb.wS
    by_cases c : 2147483648 ≤ r
    · rw [decide_eq_true c, if_pos rfl]; omega
    · rw [decide_eq_false c, if_neg (by simp)]; omega
  have h3 := Fb.ordS_nanl (decide (2147483648 ≤ r)) (r % 2147483648) r h1 (Nat.mod_lt _ (by decide))
  rw [← e] at h3
  rw [h3]; rfl
set_option maxRecDepth 20000 in
set_option maxHeartbeats 400000 in
theorem narrows_ (d : Int) (X : Nat) (w : World) (hT : Fb.Tab w) (hd1 : -9223372036854775808 ≤ d) (hd2 : d < 9223372036854775808) (hX : X < 18446744073709551616) :
    Calls Tryd.prog 5 #[.int .i64 d, .int .u64 (X : Int)] w fun e w' => e = .returned (.bool true) ∧ w.keptBut w' (fun _ => False) := by
  obtain ⟨n, m, hm, rfl⟩ : ∃ n m, m < 9223372036854775808 ∧ X = Fb.wD n m := by
    by_cases c : 9223372036854775808 ≤ X
    · exact ⟨true, X - 9223372036854775808, by omega, by unfold Fb.wD; rw [if_pos rfl]; omega⟩
    · exact ⟨false, X, by omega, by unfold Fb.wD; rfl⟩
  have hfl := fl_ (Fb.wD n m)
  by_cases c1 : m < 9218868437227405312
  · obtain ⟨ng, hng⟩ : ∃ ng, ng = (n && !(m == 0)) := ⟨_, rfl⟩
    have hp := pnar_fin d n m w hT hd1 hd2 c1 ng hng
    have hq := fun w1 => rnar_fin d n m w1 c1 ng hng
    have ho := ordself ng (finU 24 277 2139095039 2139095040 (dirN ng d) (rV (dirN ng d) 24 (Fb.sgD m) 1 (Fb.epD m + 149))) (fin_le _ _)
    obtain ⟨Y, hY⟩ : ∃ Y, Y = pW 2147483648 ng (finU 24 277 2139095039 2139095040 (dirN ng d) (rV (dirN ng d) 24 (Fb.sgD m) 1 (Fb.epD m + 149))) := ⟨_, rfl⟩
    rw [← hY] at hp hq ho
    have hb := Fb.fb32 Y
    obtain ⟨Z, hZ⟩ : ∃ Z, Z = Fb.wD n m := ⟨_, rfl⟩
    rw [← hZ] at hfl hp hq ⊢
    clear hT hd1 hd2 hX c1 hng hY hZ hm
    go_enter Tryd.func5, Tryd.ntmps5
    go_wp2_with fail
    refine (hfl w).mono ?_; rintro e w' ⟨rfl, hw'⟩; obtain rfl := hw'.symm; clear hw' hfl
    go_wp2_with fail
    refine hp.mono ?_; rintro e w1 ⟨rfl, hk⟩
    have hr2 := hq w1
    replace hk := Grown.frame hk (fun _ => False)
    clear hp hq
    go_wp2_with fail
    refine hr2.mono ?_; rintro e w2 ⟨rfl, hk2⟩
    have hk3 := World.keptBut_trans hk (Below.frame hk2 (fun _ => False))
    clear hr2 hk hk2
    go_wp2
    exact bodyPost_ret (v := .bool true) (by simp [results, Tryd.results5, go_sem]) rfl ⟨rfl, hk3⟩
  · by_cases c2 : m = 9218868437227405312
    · subst c2
      have hp : Calls Tryd.prog 15 #[.int .i64 d, .float .f64 (Fb.wD n 9218868437227405312)] w fun e w' => e = .returned (.float .f32 (pW 2147483648 n 2139095040)) ∧ Grown w w' := by
        cases n
        · exact pnar_inf_false d w
        · exact pnar_inf_true d w
      have hq : ∀ w1 : World, Calls Tryd.prog 18 #[.int .i64 d, .int .u64 ((Fb.wD n 9218868437227405312 : Nat) : Int)] w1 fun e w' => e = .returned (.int .u32 ((pW 2147483648 n 2139095040 : Nat) : Int)) ∧ Kp w1 w' := fun w1 => by
        cases n
        · exact rnar_inf_false d w1
        · exact rnar_inf_true d w1
      have ho := ordself n 2139095040 (by decide)
      obtain ⟨Y, hY⟩ : ∃ Y, Y = pW 2147483648 n 2139095040 := ⟨_, rfl⟩
      rw [← hY] at hp hq ho
      have hb := Fb.fb32 Y
      obtain ⟨Z, hZ⟩ : ∃ Z, Z = Fb.wD n 9218868437227405312 := ⟨_, rfl⟩
      rw [← hZ] at hfl hp hq ⊢
      clear hT hd1 hd2 hX c1 hY hZ hm
      go_enter Tryd.func5, Tryd.ntmps5
      go_wp2_with fail
      refine (hfl w).mono ?_; rintro e w' ⟨rfl, hw'⟩; obtain rfl := hw'.symm; clear hw' hfl
      go_wp2_with fail
      refine hp.mono ?_; rintro e w1 ⟨rfl, hk⟩
      have hr2 := hq w1
      replace hk := Grown.frame hk (fun _ => False)
      clear hp hq
      go_wp2_with fail
      refine hr2.mono ?_; rintro e w2 ⟨rfl, hk2⟩
      have hk3 := World.keptBut_trans hk (Below.frame hk2 (fun _ => False))
      clear hr2 hk hk2
      go_wp2
      exact bodyPost_ret (v := .bool true) (by simp [results, Tryd.results5, go_sem]) rfl ⟨rfl, hk3⟩
    · have hp := pnar_nan d n m w (by omega) hm
      have hq := fun w1 => rnar_nan d n m w1 (by omega) hm
      obtain ⟨Z, hZ⟩ : ∃ Z, Z = Fb.wD n m := ⟨_, rfl⟩
      rw [← hZ] at hfl hp hq ⊢
      clear hT hd1 hd2 hX c1 c2 hZ hm
      go_enter Tryd.func5, Tryd.ntmps5
      go_wp2_with fail
      refine (hfl w).mono ?_; rintro e w' ⟨rfl, hw'⟩; obtain rfl := hw'.symm; clear hw' hfl
      go_wp2_with fail
      refine hp.mono ?_; rintro e w1 ⟨r, rfl, hr, hk⟩
      have hb := Fb.fb32 r
      have ho := ordnan r hr.1 hr.2
      have hr2 := hq w1
      replace hk := Grown.frame hk (fun _ => False)
      clear hp hq hr
      go_wp2_with fail
      refine hr2.mono ?_; rintro e w2 ⟨rfl, hk2⟩
      have hk3 := World.keptBut_trans hk (Below.frame hk2 (fun _ => False))
      clear hr2 hk hk2
      go_wp2
      exact bodyPost_ret (v := .bool true) (by simp [results, Tryd.results5, go_sem]) rfl ⟨rfl, hk3⟩
end Go.Proofs.YtgkdncjdekjkpaaDoor
