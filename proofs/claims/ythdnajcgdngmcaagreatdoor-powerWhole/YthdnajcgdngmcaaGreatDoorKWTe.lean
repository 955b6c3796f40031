import Derived.Test.YthdnajcgdngmcaaGreatDoorKWTa
import Derived.Test.YthdnajcgdngmcaaGreatDoorKWTb
import Derived.Test.YthdnajcgdngmcaaGreatDoorKWTd
namespace Go.Proofs.YthdnajcgdngmcaaGreatDoor
open Go.RowKit
set_option linter.unusedVariables false

theorem round5_ (K : Nat) (hK : K = 1074) (n : Bool) (m : Nat) (hm : m ≤ 9218868437227405312) (w : World) : Calls Tryz.prog 52 #[.float .f64 (Fq.wD n m)] w fun e w' => e = .returned (.float .f64 (Fq.wD n (cR K 5 n m))) ∧ w' = w := by
  rw [away_rung K hK n m hm]
  exact roundP_ n m hm w
theorem eq0_pw7 (x : Int) (hx : BdZ x) : (FloatKind.f64.format.order (pw x) 0 == some Ordering.eq) = decide (x = 0) := peq9 x 0 hx (by unfold BdZ; omega)
theorem lt0_pw7 (x : Int) (hx : BdZ x) : (FloatKind.f64.format.order (pw x) 0 == some Ordering.lt) = decide (x < 0) := plt9 x 0 hx (by unfold BdZ; omega)
theorem gt0_pw7 (x : Int) (hx : BdZ x) : (FloatKind.f64.format.order (pw x) 0 == some Ordering.gt) = decide (0 < x) := pgt9 x 0 hx (by unfold BdZ; omega)
theorem Rd.wd (n n' : Bool) (m m' : Nat) (L H : Int) (hm : m ≤ 9218868437227405312) (hm' : m' ≤ 9218868437227405312) (eL : Fq.plz n m = L) (eH : Fq.plz n' m' = H) (hv : VdZ L H) (h : L ≤ H) : Rd (Fq.wD n m) (Fq.wD n' m') L H := by
  have key : ∀ (g : Bool) (r : Nat) (z : Int), r ≤ 9218868437227405312 → Fq.plz g r = z → pw z = Fq.pla (Fq.wD g r) ∧ BdZ z := by
    intro g r z hr hz
    rw [← hz]
    by_cases c2 : Fq.wD g r = 9223372036854775808
    · have hg : g = true ∧ r = 0 := by
        unfold Fq.wD at c2
        cases g
        · simp at c2; omega
        · simp at c2; exact ⟨rfl, c2⟩
      rw [c2, hg.1, hg.2]
      exact ⟨by decide, by unfold BdZ Fq.plz; simp⟩
    · have h := pw_plz g r c2 hr
      rw [show Fq.pla (Fq.wD g r) = Fq.wD g r from by simp [Fq.pla, c2]]
      exact h
  have k1 := key n m L hm eL
  have k2 := key n' m' H hm' eH
  have w1 : Fq.wD n m < 18446744073709551616 := by unfold Fq.wD; split <;> omega
  have w2 : Fq.wD n' m' < 18446744073709551616 := by unfold Fq.wD; split <;> omega
  have s : Fq.snd (Fq.wD n m) (Fq.wD n' m') = true := by
    rw [Fq.snd_w n n' m m' (by omega) (by omega)]
    apply decide_eq_true
    unfold VdZ at hv
    refine ⟨hm, hm', by rw [eL, eH]; exact h, ?_, ?_⟩
    · rintro ⟨rfl, rfl⟩; unfold Fq.plz at eL; simp at eL; omega
    · rintro ⟨rfl, rfl⟩; unfold Fq.plz at eH; simp at eH; omega
  refine ⟨w1, w2, hv, ?_, ?_⟩
  · rw [k1.1]; simp [Fq.rlo, s]
  · rw [k2.1]; simp [Fq.rhi, s]
theorem stZ_rd (K : Nat) (hK : K = 1074) (k : Nat) (hk : k ≠ 0) (L H : Int) (h : VdZ L H) (n : L ≠ 9218868437227405312) : Rd (Fq.wD (decide (L < 0)) (cR K k (decide (L < 0)) L.natAbs)) (Fq.wD (decide (H < 0)) (cR K k (decide (H < 0)) H.natAbs)) (stZ K k L) (stZ K k H) := by
  refine Rd.wd _ _ _ _ _ _ (cR_le K hK k _ _ (abs_pw L h.lo)) (cR_le K hK k _ _ (abs_pw H h.hi)) (stZ_word K k hk L h.lo) (stZ_word K k hk H h.hi) (stZ_vd K hK k L H h n) ?_
  exact stZ_mono K hK k L H h.lo h.hi (by unfold VdZ at h; omega)
def gLo (K k : Nat) (L H : Int) : Int := if L = 9218868437227405312 then 9218868437227405312 else stZ K k L
def gHi (K k : Nat) (L H : Int) : Int := if L = 9218868437227405312 then -9218868437227405312 else stZ K k H
theorem voidP9_ (L H : Int) (h : VdZ L H) (w : World) : Calls Tryz.prog 42 #[.agg #[.float .f64 (pw L), .float .f64 (pw H)]] w fun e w' => e = .returned (.bool (decide (L = 9218868437227405312))) ∧ Kp w w' := by
  have g := Fq.voidP_ (pw L) (pw H) (pw_lt L h.lo) (pw_lt H h.hi) w
  rw [emp9 L H h] at g
  exact g
theorem sign_pw (z : Int) (hz : BdZ z) (w : World) : Calls Tryz.prog 47 #[.float .f64 (pw z)] w fun e w' => e = .returned (.float .f64 (pw (stZ 1074 0 z))) ∧ w' = w := by
  have h := signA_ (pw z) _ _ (lt0_pw7 z hz) (gt0_pw7 z hz) w
  have e : (if decide (z < 0) = true then 13830554455654793216 else if decide (0 < z) = true then 4607182418800017408 else 0) = pw (stZ 1074 0 z) := by
    have e2 : stZ 1074 0 z = (if z < 0 then -4607182418800017408 else if z = 0 then 0 else 4607182418800017408) := by unfold stZ; rw [if_pos rfl]
    rw [e2]
    by_cases a : z < 0
    · rw [if_pos (decide_eq_true a), if_pos a]; decide
    · rw [if_neg (by simpa using a), if_neg a]
      by_cases b : z = 0
      · rw [if_neg (by simp; omega), if_pos b]; decide
      · rw [if_pos (by simp; omega), if_neg b]; decide
  rw [e] at h
  exact h
theorem stZ_any (K K' : Nat) (z : Int) : stZ K 0 z = stZ K' 0 z := by unfold stZ; rw [if_pos rfl, if_pos rfl]
theorem climb91_ (K : Nat) (hK : K = 1074) (a b : Nat) (L H : Int) (hx : Rd a b L H) (w : World) : Calls Tryz.prog 46 #[.agg #[.float .f64 a, .float .f64 b], .agg #[.func (.func 48) #[] #[]]] w fun e w' => e = .returned (.agg #[.float .f64 (pw (gLo K 1 L H)), .float .f64 (pw (gHi K 1 L H))]) ∧ Kp w w' := by
  have hv := fun w => voidP9_ L H hx.vd w
  by_cases c : L = 9218868437227405312
  · have eH : H = -9218868437227405312 := by have := hx.vd; unfold VdZ at this; omega
    rw [decide_eq_true c] at hv
    have h := climbV1_ a b _ _ hx.call hv w
    unfold gLo gHi
    rw [if_pos c, if_pos c]
    rw [c, eH] at h
    exact h
  · rw [decide_eq_false c] at hv
    unfold gLo gHi
    rw [if_neg c, if_neg c]
    exact climbS1_ a b _ _ hx.call hv _ _ _ _ (step1_ K hK (decide (L < 0)) L.natAbs (abs_pw L hx.vd.lo)) (step1_ K hK (decide (H < 0)) H.natAbs (abs_pw H hx.vd.hi)) ((stZ_rd K hK 1 (by decide) L H hx.vd c).call) w
set_option maxRecDepth 20000 in
set_option maxHeartbeats 400000 in
theorem stepA1_ (a b X Y : Nat) (w : World) (h : ∀ W : World, Kp w W → Calls Tryz.prog 46 #[.agg #[.float .f64 a, .float .f64 b], .agg #[.func (.func 48) #[] #[]]] W fun e w' => e = .returned (.agg #[.float .f64 X, .float .f64 Y]) ∧ Kp W w') : Calls Tryz.prog 13 #[.agg #[.float .f64 a, .float .f64 b]] w fun e w' => e = .returned (.agg #[.float .f64 X, .float .f64 Y]) ∧ Kp w w' := by
  have kv : Kp w ((w.alloc (.cells #[.float .f64 a, .float .f64 b] 25)).alloc (.cells #[.float .f64 0, .float .f64 0] 25)) := ((Kp.refl w).alloc _).alloc _
  have qy := Fq.H2.two0 w (.float .f64 a) (.float .f64 b) (.float .f64 0) (.float .f64 0) 25 25
  go_enter Tryz.func13, Tryz.ntmps13
  go_wp2_with (first | (go_at_call 46; refine (h _ kv).mono ?_; rintro e w3 ⟨rfl, g3⟩; have k3 : Kp w w3 := Kp.trans kv g3; obtain ⟨z0, z1, z2, z3⟩ := Fq.H2.keep qy g3))
  exact bodyPost_ret (v := .agg #[.float .f64 X, .float .f64 Y]) (by simp [results, Tryz.results13, go_sem, z0, z1]) rfl ⟨rfl, (k3.setCell (by simp) _).setCell (by simp) _⟩
theorem stepB1_ (K : Nat) (hK : K = 1074) (a b : Nat) (L H : Int) (hx : Rd a b L H) (w : World) : Calls Tryz.prog 13 #[.agg #[.float .f64 a, .float .f64 b]] w fun e w' => e = .returned (.agg #[.float .f64 (pw (gLo K 1 L H)), .float .f64 (pw (gHi K 1 L H))]) ∧ Kp w w' := stepA1_ a b _ _ w (fun W _ => climb91_ K hK a b L H hx W)
theorem climb92_ (K : Nat) (hK : K = 1074) (a b : Nat) (L H : Int) (hx : Rd a b L H) (w : World) : Calls Tryz.prog 46 #[.agg #[.float .f64 a, .float .f64 b], .agg #[.func (.func 49) #[] #[]]] w fun e w' => e = .returned (.agg #[.float .f64 (pw (gLo K 2 L H)), .float .f64 (pw (gHi K 2 L H))]) ∧ Kp w w' := by
  have hv := fun w => voidP9_ L H hx.vd w
  by_cases c : L = 9218868437227405312
  · have eH : H = -9218868437227405312 := by have := hx.vd; unfold VdZ at this; omega
    rw [decide_eq_true c] at hv
    have h := climbV2_ a b _ _ hx.call hv w
    unfold gLo gHi
    rw [if_pos c, if_pos c]
    rw [c, eH] at h
    exact h
  · rw [decide_eq_false c] at hv
    unfold gLo gHi
    rw [if_neg c, if_neg c]
    exact climbS2_ a b _ _ hx.call hv _ _ _ _ (step2_ K hK (decide (L < 0)) L.natAbs (abs_pw L hx.vd.lo)) (step2_ K hK (decide (H < 0)) H.natAbs (abs_pw H hx.vd.hi)) ((stZ_rd K hK 2 (by decide) L H hx.vd c).call) w
set_option maxRecDepth 20000 in
set_option maxHeartbeats 400000 in
theorem stepA2_ (a b X Y : Nat) (w : World) (h : ∀ W : World, Kp w W → Calls Tryz.prog 46 #[.agg #[.float .f64 a, .float .f64 b], .agg #[.func (.func 49) #[] #[]]] W fun e w' => e = .returned (.agg #[.float .f64 X, .float .f64 Y]) ∧ Kp W w') : Calls Tryz.prog 14 #[.agg #[.float .f64 a, .float .f64 b]] w fun e w' => e = .returned (.agg #[.float .f64 X, .float .f64 Y]) ∧ Kp w w' := by
  have kv : Kp w ((w.alloc (.cells #[.float .f64 a, .float .f64 b] 25)).alloc (.cells #[.float .f64 0, .float .f64 0] 25)) := ((Kp.refl w).alloc _).alloc _
  have qy := Fq.H2.two0 w (.float .f64 a) (.float .f64 b) (.float .f64 0) (.float .f64 0) 25 25
  go_enter Tryz.func14, Tryz.ntmps14
  go_wp2_with (first | (go_at_call 46; refine (h _ kv).mono ?_; rintro e w3 ⟨rfl, g3⟩; have k3 : Kp w w3 := Kp.trans kv g3; obtain ⟨z0, z1, z2, z3⟩ := Fq.H2.keep qy g3))
  exact bodyPost_ret (v := .agg #[.float .f64 X, .float .f64 Y]) (by simp [results, Tryz.results14, go_sem, z0, z1]) rfl ⟨rfl, (k3.setCell (by simp) _).setCell (by simp) _⟩
theorem stepB2_ (K : Nat) (hK : K = 1074) (a b : Nat) (L H : Int) (hx : Rd a b L H) (w : World) : Calls Tryz.prog 14 #[.agg #[.float .f64 a, .float .f64 b]] w fun e w' => e = .returned (.agg #[.float .f64 (pw (gLo K 2 L H)), .float .f64 (pw (gHi K 2 L H))]) ∧ Kp w w' := stepA2_ a b _ _ w (fun W _ => climb92_ K hK a b L H hx W)
theorem climb93_ (K : Nat) (hK : K = 1074) (a b : Nat) (L H : Int) (hx : Rd a b L H) (w : World) : Calls Tryz.prog 46 #[.agg #[.float .f64 a, .float .f64 b], .agg #[.func (.func 50) #[] #[]]] w fun e w' => e = .returned (.agg #[.float .f64 (pw (gLo K 3 L H)), .float .f64 (pw (gHi K 3 L H))]) ∧ Kp w w' := by
  have hv := fun w => voidP9_ L H hx.vd w
  by_cases c : L = 9218868437227405312
  · have eH : H = -9218868437227405312 := by have := hx.vd; unfold VdZ at this; omega
    rw [decide_eq_true c] at hv
    have h := climbV3_ a b _ _ hx.call hv w
    unfold gLo gHi
    rw [if_pos c, if_pos c]
    rw [c, eH] at h
    exact h
  · rw [decide_eq_false c] at hv
    unfold gLo gHi
    rw [if_neg c, if_neg c]
    exact climbS3_ a b _ _ hx.call hv _ _ _ _ (step3_ K hK (decide (L < 0)) L.natAbs (abs_pw L hx.vd.lo)) (step3_ K hK (decide (H < 0)) H.natAbs (abs_pw H hx.vd.hi)) ((stZ_rd K hK 3 (by decide) L H hx.vd c).call) w
set_option maxRecDepth 20000 in
set_option maxHeartbeats 400000 in
theorem stepA3_ (a b X Y : Nat) (w : World) (h : ∀ W : World, Kp w W → Calls Tryz.prog 46 #[.agg #[.float .f64 a, .float .f64 b], .agg #[.func (.func 50) #[] #[]]] W fun e w' => e = .returned (.agg #[.float .f64 X, .float .f64 Y]) ∧ Kp W w') : Calls Tryz.prog 15 #[.agg #[.float .f64 a, .float .f64 b]] w fun e w' => e = .returned (.agg #[.float .f64 X, .float .f64 Y]) ∧ Kp w w' := by
  have kv : Kp w ((w.alloc (.cells #[.float .f64 a, .float .f64 b] 25)).alloc (.cells #[.float .f64 0, .float .f64 0] 25)) := ((Kp.refl w).alloc _).alloc _
  have qy := Fq.H2.two0 w (.float .f64 a) (.float .f64 b) (.float .f64 0) (.float .f64 0) 25 25
  go_enter Tryz.func15, Tryz.ntmps15
  go_wp2_with (first | (go_at_call 46; refine (h _ kv).mono ?_; rintro e w3 ⟨rfl, g3⟩; have k3 : Kp w w3 := Kp.trans kv g3; obtain ⟨z0, z1, z2, z3⟩ := Fq.H2.keep qy g3))
  exact bodyPost_ret (v := .agg #[.float .f64 X, .float .f64 Y]) (by simp [results, Tryz.results15, go_sem, z0, z1]) rfl ⟨rfl, (k3.setCell (by simp) _).setCell (by simp) _⟩
theorem stepB3_ (K : Nat) (hK : K = 1074) (a b : Nat) (L H : Int) (hx : Rd a b L H) (w : World) : Calls Tryz.prog 15 #[.agg #[.float .f64 a, .float .f64 b]] w fun e w' => e = .returned (.agg #[.float .f64 (pw (gLo K 3 L H)), .float .f64 (pw (gHi K 3 L H))]) ∧ Kp w w' := stepA3_ a b _ _ w (fun W _ => climb93_ K hK a b L H hx W)
theorem climb95_ (K : Nat) (hK : K = 1074) (a b : Nat) (L H : Int) (hx : Rd a b L H) (w : World) : Calls Tryz.prog 46 #[.agg #[.float .f64 a, .float .f64 b], .agg #[.func (.func 52) #[] #[]]] w fun e w' => e = .returned (.agg #[.float .f64 (pw (gLo K 5 L H)), .float .f64 (pw (gHi K 5 L H))]) ∧ Kp w w' := by
  have hv := fun w => voidP9_ L H hx.vd w
  by_cases c : L = 9218868437227405312
  · have eH : H = -9218868437227405312 := by have := hx.vd; unfold VdZ at this; omega
    rw [decide_eq_true c] at hv
    have h := climbV5_ a b _ _ hx.call hv w
    unfold gLo gHi
    rw [if_pos c, if_pos c]
    rw [c, eH] at h
    exact h
  · rw [decide_eq_false c] at hv
    unfold gLo gHi
    rw [if_neg c, if_neg c]
    exact climbS5_ a b _ _ hx.call hv _ _ _ _ (round5_ K hK (decide (L < 0)) L.natAbs (abs_pw L hx.vd.lo)) (round5_ K hK (decide (H < 0)) H.natAbs (abs_pw H hx.vd.hi)) ((stZ_rd K hK 5 (by decide) L H hx.vd c).call) w
set_option maxRecDepth 20000 in
set_option maxHeartbeats 400000 in
theorem stepA5_ (a b X Y : Nat) (w : World) (h : ∀ W : World, Kp w W → Calls Tryz.prog 46 #[.agg #[.float .f64 a, .float .f64 b], .agg #[.func (.func 52) #[] #[]]] W fun e w' => e = .returned (.agg #[.float .f64 X, .float .f64 Y]) ∧ Kp W w') : Calls Tryz.prog 17 #[.agg #[.float .f64 a, .float .f64 b]] w fun e w' => e = .returned (.agg #[.float .f64 X, .float .f64 Y]) ∧ Kp w w' := by
  have kv : Kp w ((w.alloc (.cells #[.float .f64 a, .float .f64 b] 25)).alloc (.cells #[.float .f64 0, .float .f64 0] 25)) := ((Kp.refl w).alloc _).alloc _
  have qy := Fq.H2.two0 w (.float .f64 a) (.float .f64 b) (.float .f64 0) (.float .f64 0) 25 25
  go_enter Tryz.func17, Tryz.ntmps17
  go_wp2_with (first | (go_at_call 46; refine (h _ kv).mono ?_; rintro e w3 ⟨rfl, g3⟩; have k3 : Kp w w3 := Kp.trans kv g3; obtain ⟨z0, z1, z2, z3⟩ := Fq.H2.keep qy g3))
  exact bodyPost_ret (v := .agg #[.float .f64 X, .float .f64 Y]) (by simp [results, Tryz.results17, go_sem, z0, z1]) rfl ⟨rfl, (k3.setCell (by simp) _).setCell (by simp) _⟩
theorem stepB5_ (K : Nat) (hK : K = 1074) (a b : Nat) (L H : Int) (hx : Rd a b L H) (w : World) : Calls Tryz.prog 17 #[.agg #[.float .f64 a, .float .f64 b]] w fun e w' => e = .returned (.agg #[.float .f64 (pw (gLo K 5 L H)), .float .f64 (pw (gHi K 5 L H))]) ∧ Kp w w' := stepA5_ a b _ _ w (fun W _ => climb95_ K hK a b L H hx W)
theorem climb90_ (K : Nat) (hK : K = 1074) (a b : Nat) (L H : Int) (hx : Rd a b L H) (w : World) : Calls Tryz.prog 46 #[.agg #[.float .f64 a, .float .f64 b], .agg #[.func (.func 47) #[] #[]]] w fun e w' => e = .returned (.agg #[.float .f64 (pw (gLo K 0 L H)), .float .f64 (pw (gHi K 0 L H))]) ∧ Kp w w' := by
  have hv := fun w => voidP9_ L H hx.vd w
  by_cases c : L = 9218868437227405312
  · have eH : H = -9218868437227405312 := by have := hx.vd; unfold VdZ at this; omega
    rw [decide_eq_true c] at hv
    have h := climbV0_ a b _ _ hx.call hv w
    unfold gLo gHi
    rw [if_pos c, if_pos c]
    rw [c, eH] at h
    exact h
  · rw [decide_eq_false c] at hv
    unfold gLo gHi
    rw [if_neg c, if_neg c]
    rw [stZ_any K 1074 L, stZ_any K 1074 H]
    exact climbS0_ a b _ _ hx.call hv _ _ _ _ (sign_pw L hx.vd.lo) (sign_pw H hx.vd.hi) ((Rd.of (stZ_vd 1074 rfl 0 L H hx.vd c)).call) w
set_option maxRecDepth 20000 in
set_option maxHeartbeats 400000 in
theorem stepA0_ (a b X Y : Nat) (w : World) (h : ∀ W : World, Kp w W → Calls Tryz.prog 46 #[.agg #[.float .f64 a, .float .f64 b], .agg #[.func (.func 47) #[] #[]]] W fun e w' => e = .returned (.agg #[.float .f64 X, .float .f64 Y]) ∧ Kp W w') : Calls Tryz.prog 12 #[.agg #[.float .f64 a, .float .f64 b]] w fun e w' => e = .returned (.agg #[.float .f64 X, .float .f64 Y]) ∧ Kp w w' := by
  have kv : Kp w ((w.alloc (.cells #[.float .f64 a, .float .f64 b] 25)).alloc (.cells #[.float .f64 0, .float .f64 0] 25)) := ((Kp.refl w).alloc _).alloc _
  have qy := Fq.H2.two0 w (.float .f64 a) (.float .f64 b) (.float .f64 0) (.float .f64 0) 25 25
  go_enter Tryz.func12, Tryz.ntmps12
  go_wp2_with (first | (go_at_call 46; refine (h _ kv).mono ?_; rintro e w3 ⟨rfl, g3⟩; have k3 : Kp w w3 := Kp.trans kv g3; obtain ⟨z0, z1, z2, z3⟩ := Fq.H2.keep qy g3))
  exact bodyPost_ret (v := .agg #[.float .f64 X, .float .f64 Y]) (by simp [results, Tryz.results12, go_sem, z0, z1]) rfl ⟨rfl, (k3.setCell (by simp) _).setCell (by simp) _⟩
theorem stepB0_ (K : Nat) (hK : K = 1074) (a b : Nat) (L H : Int) (hx : Rd a b L H) (w : World) : Calls Tryz.prog 12 #[.agg #[.float .f64 a, .float .f64 b]] w fun e w' => e = .returned (.agg #[.float .f64 (pw (gLo K 0 L H)), .float .f64 (pw (gHi K 0 L H))]) ∧ Kp w w' := stepA0_ a b _ _ w (fun W _ => climb90_ K hK a b L H hx W)
theorem climb94_ (K : Nat) (hK : K = 1074) (a b : Nat) (L H : Int) (hx : Rd a b L H) (w : World) : Calls Tryz.prog 46 #[.agg #[.float .f64 a, .float .f64 b], .agg #[.func (.func 53) #[] #[]]] w fun e w' => e = .returned (.agg #[.float .f64 (pw (gLo K 4 L H)), .float .f64 (pw (gHi K 4 L H))]) ∧ Kp w w' := by
  have hv := fun w => voidP9_ L H hx.vd w
  by_cases c : L = 9218868437227405312
  · have eH : H = -9218868437227405312 := by have := hx.vd; unfold VdZ at this; omega
    rw [decide_eq_true c] at hv
    have h := climbV4_ a b _ _ hx.call hv w
    unfold gLo gHi
    rw [if_pos c, if_pos c]
    rw [c, eH] at h
    exact h
  · rw [decide_eq_false c] at hv
    unfold gLo gHi
    rw [if_neg c, if_neg c]
    exact climbS4_ a b _ _ hx.call hv _ _ _ _ (step4_ K hK (decide (L < 0)) L.natAbs (abs_pw L hx.vd.lo)) (step4_ K hK (decide (H < 0)) H.natAbs (abs_pw H hx.vd.hi)) ((stZ_rd K hK 4 (by decide) L H hx.vd c).call) w
set_option maxRecDepth 20000 in
set_option maxHeartbeats 400000 in
theorem stepA4_ (a b X Y : Nat) (w : World) (h : ∀ W : World, Kp w W → Calls Tryz.prog 46 #[.agg #[.float .f64 a, .float .f64 b], .agg #[.func (.func 53) #[] #[]]] W fun e w' => e = .returned (.agg #[.float .f64 X, .float .f64 Y]) ∧ Kp W w') : Calls Tryz.prog 18 #[.agg #[.float .f64 a, .float .f64 b]] w fun e w' => e = .returned (.agg #[.float .f64 X, .float .f64 Y]) ∧ Kp w w' := by
  have kv : Kp w ((w.alloc (.cells #[.float .f64 a, .float .f64 b] 25)).alloc (.cells #[.float .f64 0, .float .f64 0] 25)) := ((Kp.refl w).alloc _).alloc _
  have qy := Fq.H2.two0 w (.float .f64 a) (.float .f64 b) (.float .f64 0) (.float .f64 0) 25 25
  go_enter Tryz.func18, Tryz.ntmps18
  go_wp2_with (first | (go_at_call 46; refine (h _ kv).mono ?_; rintro e w3 ⟨rfl, g3⟩; have k3 : Kp w w3 := Kp.trans kv g3; obtain ⟨z0, z1, z2, z3⟩ := Fq.H2.keep qy g3))
  exact bodyPost_ret (v := .agg #[.float .f64 X, .float .f64 Y]) (by simp [results, Tryz.results18, go_sem, z0, z1]) rfl ⟨rfl, (k3.setCell (by simp) _).setCell (by simp) _⟩
theorem stepB4_ (K : Nat) (hK : K = 1074) (a b : Nat) (L H : Int) (hx : Rd a b L H) (w : World) : Calls Tryz.prog 18 #[.agg #[.float .f64 a, .float .f64 b]] w fun e w' => e = .returned (.agg #[.float .f64 (pw (gLo K 4 L H)), .float .f64 (pw (gHi K 4 L H))]) ∧ Kp w w' := stepA4_ a b _ _ w (fun W _ => climb94_ K hK a b L H hx W)
end Go.Proofs.YthdnajcgdngmcaaGreatDoor
