import Derived.Test.YtnkakbjndclkhaaDoorProg
import Derived.Test.YtnkakbjndclkhaaDoorKXA0
import Derived.Test.YtnkakbjndclkhaaDoorKXM
import Derived.Test.YtnkakbjndclkhaaDoorKXT
import Derived.Test.YtnkakbjndclkhaaDoorKHB
import Derived.Test.YtnkakbjndclkhaaDoorKXY
import Derived.Test.YtnkakbjndclkhaaDoorKLX
import Derived.Test.YtnkakbjndclkhaaDoorKRX
import Derived.Test.YtnkakbjndclkhaaDoorKXRL
import Derived.Test.YtnkakbjndclkhaaDoorKRC
import Derived.Test.YtnkakbjndclkhaaDoorKLN
import Derived.Test.YtnkakbjndclkhaaDoorKRN
import Derived.Test.YtnkakbjndclkhaaDoorKW4
import Derived.Test.YtnkakbjndclkhaaDoorKBY
import Derived.Test.YtnkakbjndclkhaaDoorKBW
import Derived.Test.YtnkakbjndclkhaaDoorKXTZ
import Derived.Test.YtnkakbjndclkhaaDoorKXG1
import Derived.Test.YtnkakbjndclkhaaDoorKNSm
import Derived.Test.YtnkakbjndclkhaaDoorKXG4
import Derived.Test.YtnkakbjndclkhaaDoorKG3D
import Derived.WalkKit
import Derived.ProofKit
import Derived.RowKit3
import Derived.WalkSpells
import Derived.StillTactics
import Derived.Deep.QuietTactic
import Derived.BigQuiet
import Derived.Below
import Derived.Deep.OwnRows
import Derived.OwnWalk
import Derived.Laws.BitsAllLaws
import Derived.Laws.Slices
import Derived.Laws.Bits64b
import Derived.Deep.DeepCutAuto
namespace Go.Proofs.YtnkakbjndclkhaaDoor
open Go.RowKit
/-- what the document tells of a ratio -/
def ratW (d : Int) (neg : Bool) (a b : Nat) (exp : Int) : Nat := if 16384 < len32 a ∨ 16384 < len32 b then 9221120237041090561 else if b = 0 then (if a = 0 then 9221120237041090561 else mdW neg 9218868437227405312) else if a = 0 then 0 else mdW neg (finU 53 2098 9218868437227405311 9218868437227405312 (dirN neg d) (rV (dirN neg d) 53 a b (exp + 1074)))
theorem refW_fin (d : Int) (g neg : Bool) (a b a2 b2 : Nat) (e : Int) (hF : FracOf a b e a2 b2) (hg : a ≠ 0 → g = neg) (K : Nat) (hK : K = 1074) : refW 53 K 2098 9218868437227405311 0 d g a2 b2 = if a = 0 then 0 else mdW neg (finU 53 2098 9218868437227405311 9218868437227405312 (dirN neg d) (rV (dirN neg d) 53 a b (e + 1074))) := by
  unfold refW
  by_cases c : a = 0
  · rw [if_pos c, if_pos (hF.2.1.2 c)]
  · rw [if_neg c, if_neg (fun h => c (hF.2.1.1 h)), hg c, hF.2.2.1 _ _ _ c, Nat.pow_zero, Nat.mul_one, show ((K : Nat) : Int) + e = e + 1074 from by omega]
    rfl
set_option maxRecDepth 20000 in
set_option maxHeartbeats 400000 in
theorem rbits_ (d : Int) (neg : Bool) (vn vd : Value) (a b : Nat) (w : World) (hn : Ls w vn (dig a)) (hd : Ls w vd (dig b)) (hb : b ≠ 0) (la : blen a ≤ 4194304) (lb : blen b ≤ 4194304) :
    Calls Tryd.prog 30 #[.int .i64 d, .agg #[.bool neg, vn, vd]] w fun e w' => e = .returned (.int .u64 ((refW 53 1074 2098 9218868437227405311 0 d neg a b : Nat) : Int)) ∧ Kp w w' := by
  obtain ⟨w0, hw0⟩ : ∃ w0, w0 = w.alloc (.cells #[.bool neg, vn, vd] 56) := ⟨_, rfl⟩
  have hk0 : Kp w w0 := by rw [hw0]; exact (Kp.refl w).alloc _
  have h := rrounded_D d neg vn vd a b w0 (hn.kp hk0) (hd.kp hk0) hb la lb
  obtain ⟨Z, hZ⟩ : ∃ Z, Z = refW 53 1074 2098 9218868437227405311 0 d neg a b := ⟨_, rfl⟩
  rw [← hZ] at h ⊢
  clear hn hd hb la lb hZ
  go_enter Tryd.func30, Tryd.ntmps30
  go_wp2_with fail
  rw [← hw0]
  refine h.mono ?_; rintro e w1 ⟨rfl, hk⟩
  have hk1 := hk0.trans hk
  clear h hk hk0 hw0
  go_wp2
  exact bodyPost_ret (v := .int .u64 (Z : Int)) (by simp [results, Tryd.results30, go_sem]) rfl ⟨rfl, hk1⟩
set_option maxRecDepth 20000 in
set_option maxHeartbeats 1000000 in
theorem rratio_ (d : Int) (neg : Bool) (p q : Option Addr) (c c2 : Nat) (xs ys : List Int) (exp : Int) (w : World) (hx : Arr w p xs) (hy : Arr w q ys) (hwx : Wd xs) (hwy : Wd ys) (lx : xs.length ≤ 1048576) (ly : ys.length ≤ 1048576) (hcx : xs.length ≤ c) (hcy : ys.length ≤ c2) (he1 : -9223372036854775808 ≤ exp) (he2 : exp < 9223372036854775808) :
    Calls Tryd.prog 13 #[.int .i64 d, .bool neg, .slice p xs.length c, .slice q ys.length c2, .int .i64 exp] w fun e w' => e = .returned (.int .u64 ((ratW d neg (val xs) (val ys) exp : Nat) : Int)) ∧ Kp w w' := by
  have l1 := long_ p c xs w hx (by omega)
  have l2 := long_ q c2 ys w hy (by omega)
  have e1 : tl xs = len32 (val xs) := tl_len xs hwx
  have e2 : tl ys = len32 (val ys) := tl_len ys hwy
  rw [e1] at l1
  rw [e2] at l2
  have n1 := normO (.slice p xs.length c) xs w ⟨p, c, rfl, hx, hcx⟩ hwx lx
  have n2 := fun w' (k : Kp w w') => normO (.slice q ys.length c2) ys w' ⟨q, c2, rfl, hy.grown k, hcy⟩ hwy ly
  obtain ⟨a, ha⟩ : ∃ a, a = val xs := ⟨_, rfl⟩
  obtain ⟨b, hb⟩ : ∃ b, b = val ys := ⟨_, rfl⟩
  obtain ⟨N, hN⟩ : ∃ N, N = xs.length := ⟨_, rfl⟩
  obtain ⟨M, hM⟩ : ∃ M, M = ys.length := ⟨_, rfl⟩
  rw [← ha, ← hN] at l1 n1
  rw [← hb, ← hM] at l2 n2
  rw [← ha, ← hb, ← hN, ← hM]
  clear hx hy hwx hwy lx ly hcx hcy e1 e2 ha hb hN hM
  unfold ratW
  by_cases cl : 16384 < len32 a ∨ 16384 < len32 b
  · rw [if_pos cl]
    by_cases ca : 16384 < len32 a
    · rw [decide_eq_true ca] at l1
      clear l2 n1 n2 cl ca
      go_enter Tryd.func13, Tryd.ntmps13
      go_wp2_with fail
      refine l1.mono ?_; rintro e w' ⟨rfl, hw'⟩; obtain rfl := hw'.symm; clear l1 hw'
      go_wp2
      exact bodyPost_ret (v := .int .u64 9221120237041090561) (by simp [results, Tryd.results13, go_sem]) rfl ⟨rfl, Kp.refl _⟩
    · rw [decide_eq_false ca] at l1
      rw [decide_eq_true (by omega)] at l2
      clear n1 n2 cl ca
      go_enter Tryd.func13, Tryd.ntmps13
      go_wp2_with fail
      refine l1.mono ?_; rintro e w' ⟨rfl, hw'⟩; obtain rfl := hw'.symm; clear l1 hw'
      go_wp2_with fail
      refine l2.mono ?_; rintro e w' ⟨rfl, hw'⟩; obtain rfl := hw'.symm; clear l2 hw'
      go_wp2
      exact bodyPost_ret (v := .int .u64 9221120237041090561) (by simp [results, Tryd.results13, go_sem]) rfl ⟨rfl, Kp.refl _⟩
  · rw [if_neg cl]
    rw [decide_eq_false (by omega)] at l1 l2
    have la : blen a ≤ 524288 := Nat.le_trans (blen_len a (len32 a) (Nat.le_refl _)) (by omega)
    have lb : blen b ≤ 524288 := Nat.le_trans (blen_len b (len32 b) (Nat.le_refl _)) (by omega)
    have za := dig_len_zero a
    have zb := dig_len_zero b
    obtain ⟨Na, hNa⟩ : ∃ Na, Na = (dig a).length := ⟨_, rfl⟩
    obtain ⟨Nb, hNb⟩ : ∃ Nb, Nb = (dig b).length := ⟨_, rfl⟩
    have HN : Hid (Na = (dig a).length ∧ Nb = (dig b).length ∧ len32 a ≤ 16384 ∧ len32 b ≤ 16384) := ⟨hNa, hNb, by omega, by omega⟩
    rw [← hNa] at za
    rw [← hNb] at zb
    have HL : Hid (blen a ≤ 524288 ∧ blen b ≤ 524288) := ⟨la, lb⟩
    have HE : Hid (-9223372036854775808 ≤ exp ∧ exp < 9223372036854775808) := ⟨he1, he2⟩
    clear hNa hNb cl la lb he1 he2
    obtain ⟨Y, hY⟩ : ∃ Y, Y = (if b = 0 then (if a = 0 then 9221120237041090561 else mdW neg 9218868437227405312) else if a = 0 then 0 else mdW neg (finU 53 2098 9218868437227405311 9218868437227405312 (dirN neg d) (rV (dirN neg d) 53 a b (exp + 1074)))) := ⟨_, rfl⟩
    rw [← hY]
    have HY : Hid (Y = (if b = 0 then (if a = 0 then 9221120237041090561 else mdW neg 9218868437227405312) else if a = 0 then 0 else mdW neg (finU 53 2098 9218868437227405311 9218868437227405312 (dirN neg d) (rV (dirN neg d) 53 a b (exp + 1074))))) := hY
    clear hY
    go_enter Tryd.func13, Tryd.ntmps13
    go_wp2_with fail
    refine l1.mono ?_; rintro e w' ⟨rfl, hw'⟩; obtain rfl := hw'.symm; clear l1 hw'
    go_wp2_with fail
    refine l2.mono ?_; rintro e w' ⟨rfl, hw'⟩; obtain rfl := hw'.symm; clear l2 hw'
    go_wp2_with fail
    refine n1.mono ?_; rintro e w1 ⟨v1, rfl, hO1, hk1⟩
    obtain ⟨p1, k1, rfl, _⟩ := hO1.len
    have n3 := n2 w1 hk1
    have O1 : Hid (Own w1 w.heap.size (.slice p1 (dig a).length k1) (dig a)) := hO1
    rw [← HN.out.1] at O1 ⊢
    have HK : Hid (Kp w w1) := hk1
    clear n1 n2 hO1 hk1
    go_wp2_with fail
    refine n3.mono ?_; rintro e w2 ⟨v2, rfl, hO2, hk2⟩
    obtain ⟨p2, k2, rfl, _⟩ := hO2.len
    have O2 : Hid (Own w2 w.heap.size (.slice p2 (dig b).length k2) (dig b)) := hO2.mono HK.out.size
    rw [← HN.out.2.1] at O2 ⊢
    replace O1 : Hid (Own w2 w.heap.size (.slice p1 Na k1) (dig a)) := O1.out.kp hk2
    replace HK : Hid (Kp w w2) := HK.out.trans hk2
    clear n3 hO2 hk2
    by_cases cb : b = 0
    · have hNb : Nb = 0 := zb.2 cb
      subst hNb
      by_cases ca : a = 0
      · have hNa : Na = 0 := za.2 ca
        subst hNa
        have HYY : Hid (Y = 9221120237041090561) := by show _ = _; rw [HY.out, if_pos cb, if_pos ca]
        clear HY HN HL HE O1 O2 za zb cb ca
        go_wp2
        exact bodyPost_ret (v := .int .u64 9221120237041090561) (by simp [results, Tryd.results13, go_sem]) rfl ⟨by rw [HYY.out]; rfl, HK.out⟩
      · have t1 : ¬ ((Na : Int) = 0) := by have := mt za.1 ca; omega
        have hi := rinf_ neg w2
        have hYY : Y = mdW neg 9218868437227405312 := by rw [HY.out, if_pos cb, if_neg ca]
        rw [← hYY] at hi
        clear HY HN HL HE O1 O2 za zb cb ca hYY
        go_wp2_with fail
        refine hi.mono ?_; rintro e w' ⟨rfl, hw'⟩; obtain rfl := hw'.symm; clear hi hw'
        go_wp2
        exact bodyPost_ret (v := .int .u64 (Y : Int)) (by simp [results, Tryd.results13, go_sem]) rfl ⟨rfl, HK.out⟩
    · have t1 : ¬ ((Nb : Int) = 0) := by have := mt zb.1 cb; omega
      have HB0 : Hid (b ≠ 0) := cb
      have m1 := lenR (.slice p1 Na k1) a w2 O1.out.ls (by have := HL.out; omega)
      have m2 := lenR (.slice p2 Nb k2) b w2 O2.out.ls (by have := HL.out; omega)
      obtain ⟨ba, hba⟩ : ∃ ba, ba = blen a := ⟨_, rfl⟩
      obtain ⟨bb, hbb⟩ : ∃ bb, bb = blen b := ⟨_, rfl⟩
      rw [← hba] at m1
      rw [← hbb] at m2
      obtain ⟨f, hf⟩ : ∃ f : Int, f = (ba : Int) - bb := ⟨_, rfl⟩
      have hl := HL.out
      rw [← hba, ← hbb] at hl
      have g1 : wrap64 ((ba : Int) - (bb : Int)) = f := by rw [← hf]; exact w64x _ (by omega) (by omega)
      have g2 : wrap64 (2000 - f) = 2000 - f := w64x _ (by omega) (by omega)
      have g3 : wrap64 (-2000 - f) = -2000 - f := w64x _ (by omega) (by omega)
      have HF : Hid (f = (blen a : Int) - blen b ∧ -524288 ≤ f ∧ f ≤ 524288) := ⟨by rw [← hba, ← hbb]; exact hf, by omega, by omega⟩
      clear za zb cb hba hbb hf hl
      go_wp2_with fail
      refine m1.mono ?_; rintro e w' ⟨rfl, hw'⟩; obtain rfl := hw'.symm; clear m1 hw'
      go_wp2_with fail
      refine m2.mono ?_; rintro e w' ⟨rfl, hw'⟩; obtain rfl := hw'.symm; clear m2 hw'
      by_cases c1 : 2000 - f < exp
      · by_cases ca : a = 0
        · have cm := cmpR (.slice p1 Na k1) (.slice none 0 0) a 0 w2 O1.out.ls ⟨none, 0, by rw [dig_zero]; rfl, Or.inl (by rw [dig_zero]), by rw [dig_zero]; exact Nat.le_refl _⟩ (by have := HL.out; omega) (by rw [blen_zero]; omega)
          rw [cmpN_eq ca] at cm
          have HCA : Hid (a = 0) := ca
          clear ca
          go_wp2_with fail
          refine cm.mono ?_; rintro e w3 ⟨rfl, hk3⟩
          have ca := HCA.out
          replace HK : Hid (Kp w w3) := HK.out.trans hk3
          replace O1 : Hid (Own w3 w.heap.size (.slice p1 Na k1) (dig a)) := O1.out.kp hk3
          replace O2 : Hid (Own w3 w.heap.size (.slice p2 Nb k2) (dig b)) := O2.out.kp hk3
          clear cm hk3
          obtain ⟨g5, hg5⟩ : ∃ g5, g5 = w3.heap.size := ⟨_, rfl⟩
          obtain ⟨w4, hw4⟩ : ∃ w4, w4 = w3.alloc (.cells #[.int .u32 0] 41) := ⟨_, rfl⟩
          have kp4 : Kp w3 w4 := by rw [hw4]; exact (Kp.refl _).alloc _
          have ar4 : Arr w4 (some ⟨g5, 0, none⟩) [0] := by
            have h := (row1 w3 0).all rfl
            rw [← hw4, ← hg5] at h
            exact h
          have nr := normO (.slice (some ⟨g5, 0, none⟩) 1 1) [0] w4 ⟨some ⟨g5, 0, none⟩, 1, rfl, ar4, by simp⟩ (wd1 0 (by decide)) (by simp)
          rw [show val [0] = 0 from by decide] at nr
          replace HK : Hid (Kp w w4) := HK.out.trans kp4
          replace O1 : Hid (Own w4 w.heap.size (.slice p1 Na k1) (dig a)) := O1.out.kp kp4
          replace O2 : Hid (Own w4 w.heap.size (.slice p2 Nb k2) (dig b)) := O2.out.kp kp4
          clear kp4 ar4
          clear ca
          go_wp2_with fail
          rw [← hg5, ← hw4]
          refine nr.mono ?_; rintro e w5 ⟨v5, rfl, hO5, hk5⟩
          have ca := HCA.out
          have H5 : Hid (Ls w5 v5 (dig 0)) := hO5.ls
          replace HK : Hid (Kp w w5) := HK.out.trans hk5
          replace O1 : Hid (Own w5 w.heap.size (.slice p1 Na k1) (dig a)) := O1.out.kp hk5
          replace O2 : Hid (Own w5 w.heap.size (.slice p2 Nb k2) (dig b)) := O2.out.kp hk5
          clear nr hO5 hk5 hg5 hw4
          obtain ⟨g6, hg6⟩ : ∃ g6, g6 = w5.heap.size := ⟨_, rfl⟩
          obtain ⟨w6, hw6⟩ : ∃ w6, w6 = w5.alloc (.cells #[.int .u32 1] 41) := ⟨_, rfl⟩
          have kp6 : Kp w5 w6 := by rw [hw6]; exact (Kp.refl _).alloc _
          have L6 : Ls w6 (.slice (some ⟨g6, 0, none⟩) 1 1) (dig 1) := by
            have h := own1 w5
            rw [← hw6, ← hg6, ← dig_one] at h
            exact h.ls
          replace H5 : Hid (Ls w6 v5 (dig 0)) := H5.out.kp kp6
          replace HK : Hid (Kp w w6) := HK.out.trans kp6
          clear kp6
          obtain ⟨xx, hxx⟩ : ∃ xx : Nat, xx = 0 := ⟨_, rfl⟩
          have HXX : Hid (xx < 4294967296 ∧ blen xx ≤ 524288) := ⟨by rw [hxx]; decide, by rw [hxx]; rw [blen_zero]; omega⟩
          rw [← hxx] at H5
          have hYc : (if xx = 0 then 0 else mdW neg (finU 53 2098 9218868437227405311 9218868437227405312 (dirN neg d) (rV (dirN neg d) 53 (xx) (1) (2000 + 1074)))) = Y := by
            rw [hxx]
            rw [HY.out, if_neg HB0.out, if_pos ca, if_pos rfl]
          clear ca HCA hxx
          have hY9 : (if xx = 0 then 0 else mdW neg (finU 53 2098 9218868437227405311 9218868437227405312 (dirN neg d) (rV (dirN neg d) 53 (xx) (1) (2000 + 1074)))) = Y := hYc
          have hc := frac_ neg (v5) (.slice (some ⟨g6, 0, none⟩) 1 1) (dig (xx)) (dig (1)) (2000) w6 H5.out L6 (Wd_dig _) (Wd_dig _) (Nat.le_trans (len32_small _ HXX.out.1) (by decide)) (Nat.le_trans (len32_small _ (by decide)) (by decide)) (by rw [val_dig]; decide) (by decide)
          simp only [val_dig] at hc
          have HBB : Hid (blen (xx) ≤ 524288 ∧ blen (1) ≤ 524288 ∧ (2000 : Int).natAbs ≤ 1048576) := ⟨HXX.out.2, by rw [blen_uniq 1 0 (by decide) (by decide)]; omega, (by decide)⟩
          have HYY : Hid ((if xx = 0 then 0 else mdW neg (finU 53 2098 9218868437227405311 9218868437227405312 (dirN neg d) (rV (dirN neg d) 53 (xx) (1) (2000 + 1074)))) = Y) := hY9
          clear hY9 HY HN HL HE HF O1 O2 HB0
          go_wp2_with fail
          rw [← hg6, ← hw6]
          clear hg6 hw6
          refine hc.mono ?_; rintro e9 w8 ⟨vn8, vd8, a8, b8, g8, rfl, hN8, hD8, ⟨hF8, hg8⟩, hk8⟩
          have hb8 := rbits_ d g8 vn8 vd8 a8 b8 w8 hN8.ls hD8.ls hF8.1 (by have q1 := hF8.2.2.2.1; have q2 := HBB.out; omega) (by have q1 := hF8.2.2.2.2; have q2 := HBB.out; omega)
          have hr8 := refW_fin d g8 neg (xx) (1) a8 b8 (2000) hF8 hg8 1074 rfl
          rw [hr8, HYY.out] at hb8
          replace HK : Hid (Kp w w8) := HK.out.trans hk8
          clear hc HBB HYY hN8 hD8 hF8 hg8 hk8 hr8
          go_wp2_with fail
          refine hb8.mono ?_; rintro e9 w9 ⟨rfl, hk9⟩
          replace HK : Hid (Kp w w9) := HK.out.trans hk9
          clear hb8 hk9
          go_wp2
          exact bodyPost_ret (v := .int .u64 (Y : Int)) (by simp [results, Tryd.results13, go_sem]) rfl ⟨rfl, HK.out⟩
        · have cm := cmpR (.slice p1 Na k1) (.slice none 0 0) a 0 w2 O1.out.ls ⟨none, 0, by rw [dig_zero]; rfl, Or.inl (by rw [dig_zero]), by rw [dig_zero]; exact Nat.le_refl _⟩ (by have := HL.out; omega) (by rw [blen_zero]; omega)
          rw [cmpN_gt (Nat.pos_of_ne_zero ca)] at cm
          have HCA : Hid (a ≠ 0) := ca
          clear ca
          go_wp2_with fail
          refine cm.mono ?_; rintro e w3 ⟨rfl, hk3⟩
          have ca := HCA.out
          replace HK : Hid (Kp w w3) := HK.out.trans hk3
          replace O1 : Hid (Own w3 w.heap.size (.slice p1 Na k1) (dig a)) := O1.out.kp hk3
          replace O2 : Hid (Own w3 w.heap.size (.slice p2 Nb k2) (dig b)) := O2.out.kp hk3
          clear cm hk3
          obtain ⟨g5, hg5⟩ : ∃ g5, g5 = w3.heap.size := ⟨_, rfl⟩
          obtain ⟨w4, hw4⟩ : ∃ w4, w4 = w3.alloc (.cells #[.int .u32 1] 41) := ⟨_, rfl⟩
          have kp4 : Kp w3 w4 := by rw [hw4]; exact (Kp.refl _).alloc _
          have ar4 : Arr w4 (some ⟨g5, 0, none⟩) [1] := by
            have h := (row1 w3 1).all rfl
            rw [← hw4, ← hg5] at h
            exact h
          have nr := normO (.slice (some ⟨g5, 0, none⟩) 1 1) [1] w4 ⟨some ⟨g5, 0, none⟩, 1, rfl, ar4, by simp⟩ (wd1 1 (by decide)) (by simp)
          rw [show val [1] = 1 from by decide] at nr
          replace HK : Hid (Kp w w4) := HK.out.trans kp4
          replace O1 : Hid (Own w4 w.heap.size (.slice p1 Na k1) (dig a)) := O1.out.kp kp4
          replace O2 : Hid (Own w4 w.heap.size (.slice p2 Nb k2) (dig b)) := O2.out.kp kp4
          clear kp4 ar4
          clear ca
          go_wp2_with fail
          rw [← hg5, ← hw4]
          refine nr.mono ?_; rintro e w5 ⟨v5, rfl, hO5, hk5⟩
          have ca := HCA.out
          have H5 : Hid (Ls w5 v5 (dig 1)) := hO5.ls
          replace HK : Hid (Kp w w5) := HK.out.trans hk5
          replace O1 : Hid (Own w5 w.heap.size (.slice p1 Na k1) (dig a)) := O1.out.kp hk5
          replace O2 : Hid (Own w5 w.heap.size (.slice p2 Nb k2) (dig b)) := O2.out.kp hk5
          clear nr hO5 hk5 hg5 hw4
          obtain ⟨g6, hg6⟩ : ∃ g6, g6 = w5.heap.size := ⟨_, rfl⟩
          obtain ⟨w6, hw6⟩ : ∃ w6, w6 = w5.alloc (.cells #[.int .u32 1] 41) := ⟨_, rfl⟩
          have kp6 : Kp w5 w6 := by rw [hw6]; exact (Kp.refl _).alloc _
          have L6 : Ls w6 (.slice (some ⟨g6, 0, none⟩) 1 1) (dig 1) := by
            have h := own1 w5
            rw [← hw6, ← hg6, ← dig_one] at h
            exact h.ls
          replace H5 : Hid (Ls w6 v5 (dig 1)) := H5.out.kp kp6
          replace HK : Hid (Kp w w6) := HK.out.trans kp6
          clear kp6
          obtain ⟨xx, hxx⟩ : ∃ xx : Nat, xx = 1 := ⟨_, rfl⟩
          have HXX : Hid (xx < 4294967296 ∧ blen xx ≤ 524288) := ⟨by rw [hxx]; decide, by rw [hxx]; rw [blen_uniq 1 0 (by decide) (by decide)]; omega⟩
          rw [← hxx] at H5
          have hYc : (if xx = 0 then 0 else mdW neg (finU 53 2098 9218868437227405311 9218868437227405312 (dirN neg d) (rV (dirN neg d) 53 (xx) (1) (2000 + 1074)))) = Y := by
            rw [hxx]
            rw [HY.out, if_neg HB0.out, if_neg ca, if_neg (by decide)]; exact congrArg (mdW neg) (fin_clamp (dirN neg d) 1 1 a b (2000 + 1074) (exp + 1074) (by decide) (by decide) ca HB0.out (by have q1 := HF.out; rw [show blen 1 = 1 from blen_uniq 1 0 (by decide) (by decide)]; left; omega))
          clear ca HCA hxx
          have hY9 : (if xx = 0 then 0 else mdW neg (finU 53 2098 9218868437227405311 9218868437227405312 (dirN neg d) (rV (dirN neg d) 53 (xx) (1) (2000 + 1074)))) = Y := hYc
          have hc := frac_ neg (v5) (.slice (some ⟨g6, 0, none⟩) 1 1) (dig (xx)) (dig (1)) (2000) w6 H5.out L6 (Wd_dig _) (Wd_dig _) (Nat.le_trans (len32_small _ HXX.out.1) (by decide)) (Nat.le_trans (len32_small _ (by decide)) (by decide)) (by rw [val_dig]; decide) (by decide)
          simp only [val_dig] at hc
          have HBB : Hid (blen (xx) ≤ 524288 ∧ blen (1) ≤ 524288 ∧ (2000 : Int).natAbs ≤ 1048576) := ⟨HXX.out.2, by rw [blen_uniq 1 0 (by decide) (by decide)]; omega, (by decide)⟩
          have HYY : Hid ((if xx = 0 then 0 else mdW neg (finU 53 2098 9218868437227405311 9218868437227405312 (dirN neg d) (rV (dirN neg d) 53 (xx) (1) (2000 + 1074)))) = Y) := hY9
          clear hY9 HY HN HL HE HF O1 O2 HB0
          go_wp2_with fail
          rw [← hg6, ← hw6]
          clear hg6 hw6
          refine hc.mono ?_; rintro e9 w8 ⟨vn8, vd8, a8, b8, g8, rfl, hN8, hD8, ⟨hF8, hg8⟩, hk8⟩
          have hb8 := rbits_ d g8 vn8 vd8 a8 b8 w8 hN8.ls hD8.ls hF8.1 (by have q1 := hF8.2.2.2.1; have q2 := HBB.out; omega) (by have q1 := hF8.2.2.2.2; have q2 := HBB.out; omega)
          have hr8 := refW_fin d g8 neg (xx) (1) a8 b8 (2000) hF8 hg8 1074 rfl
          rw [hr8, HYY.out] at hb8
          replace HK : Hid (Kp w w8) := HK.out.trans hk8
          clear hc HBB HYY hN8 hD8 hF8 hg8 hk8 hr8
          go_wp2_with fail
          refine hb8.mono ?_; rintro e9 w9 ⟨rfl, hk9⟩
          replace HK : Hid (Kp w w9) := HK.out.trans hk9
          clear hb8 hk9
          go_wp2
          exact bodyPost_ret (v := .int .u64 (Y : Int)) (by simp [results, Tryd.results13, go_sem]) rfl ⟨rfl, HK.out⟩
      · by_cases c2 : exp < -2000 - f
        · by_cases ca : a = 0
          · have cm := cmpR (.slice p1 Na k1) (.slice none 0 0) a 0 w2 O1.out.ls ⟨none, 0, by rw [dig_zero]; rfl, Or.inl (by rw [dig_zero]), by rw [dig_zero]; exact Nat.le_refl _⟩ (by have := HL.out; omega) (by rw [blen_zero]; omega)
            rw [cmpN_eq ca] at cm
            have HCA : Hid (a = 0) := ca
            clear ca
            go_wp2_with fail
            refine cm.mono ?_; rintro e w3 ⟨rfl, hk3⟩
            have ca := HCA.out
            replace HK : Hid (Kp w w3) := HK.out.trans hk3
            replace O1 : Hid (Own w3 w.heap.size (.slice p1 Na k1) (dig a)) := O1.out.kp hk3
            replace O2 : Hid (Own w3 w.heap.size (.slice p2 Nb k2) (dig b)) := O2.out.kp hk3
            clear cm hk3
            obtain ⟨g5, hg5⟩ : ∃ g5, g5 = w3.heap.size := ⟨_, rfl⟩
            obtain ⟨w4, hw4⟩ : ∃ w4, w4 = w3.alloc (.cells #[.int .u32 0] 41) := ⟨_, rfl⟩
            have kp4 : Kp w3 w4 := by rw [hw4]; exact (Kp.refl _).alloc _
            have ar4 : Arr w4 (some ⟨g5, 0, none⟩) [0] := by
              have h := (row1 w3 0).all rfl
              rw [← hw4, ← hg5] at h
              exact h
            have nr := normO (.slice (some ⟨g5, 0, none⟩) 1 1) [0] w4 ⟨some ⟨g5, 0, none⟩, 1, rfl, ar4, by simp⟩ (wd1 0 (by decide)) (by simp)
            rw [show val [0] = 0 from by decide] at nr
            replace HK : Hid (Kp w w4) := HK.out.trans kp4
            replace O1 : Hid (Own w4 w.heap.size (.slice p1 Na k1) (dig a)) := O1.out.kp kp4
            replace O2 : Hid (Own w4 w.heap.size (.slice p2 Nb k2) (dig b)) := O2.out.kp kp4
            clear kp4 ar4
            clear ca
            go_wp2_with fail
            rw [← hg5, ← hw4]
            refine nr.mono ?_; rintro e w5 ⟨v5, rfl, hO5, hk5⟩
            have ca := HCA.out
            have H5 : Hid (Ls w5 v5 (dig 0)) := hO5.ls
            replace HK : Hid (Kp w w5) := HK.out.trans hk5
            replace O1 : Hid (Own w5 w.heap.size (.slice p1 Na k1) (dig a)) := O1.out.kp hk5
            replace O2 : Hid (Own w5 w.heap.size (.slice p2 Nb k2) (dig b)) := O2.out.kp hk5
            clear nr hO5 hk5 hg5 hw4
            obtain ⟨g6, hg6⟩ : ∃ g6, g6 = w5.heap.size := ⟨_, rfl⟩
            obtain ⟨w6, hw6⟩ : ∃ w6, w6 = w5.alloc (.cells #[.int .u32 1] 41) := ⟨_, rfl⟩
            have kp6 : Kp w5 w6 := by rw [hw6]; exact (Kp.refl _).alloc _
            have L6 : Ls w6 (.slice (some ⟨g6, 0, none⟩) 1 1) (dig 1) := by
              have h := own1 w5
              rw [← hw6, ← hg6, ← dig_one] at h
              exact h.ls
            replace H5 : Hid (Ls w6 v5 (dig 0)) := H5.out.kp kp6
            replace HK : Hid (Kp w w6) := HK.out.trans kp6
            clear kp6
            obtain ⟨xx, hxx⟩ : ∃ xx : Nat, xx = 0 := ⟨_, rfl⟩
            have HXX : Hid (xx < 4294967296 ∧ blen xx ≤ 524288) := ⟨by rw [hxx]; decide, by rw [hxx]; rw [blen_zero]; omega⟩
            rw [← hxx] at H5
            have hYc : (if xx = 0 then 0 else mdW neg (finU 53 2098 9218868437227405311 9218868437227405312 (dirN neg d) (rV (dirN neg d) 53 (xx) (1) (-2000 + 1074)))) = Y := by
              rw [hxx]
              rw [HY.out, if_neg HB0.out, if_pos ca, if_pos rfl]
            clear ca HCA hxx
            have hY9 : (if xx = 0 then 0 else mdW neg (finU 53 2098 9218868437227405311 9218868437227405312 (dirN neg d) (rV (dirN neg d) 53 (xx) (1) (-2000 + 1074)))) = Y := hYc
            have hc := frac_ neg (v5) (.slice (some ⟨g6, 0, none⟩) 1 1) (dig (xx)) (dig (1)) (-2000) w6 H5.out L6 (Wd_dig _) (Wd_dig _) (Nat.le_trans (len32_small _ HXX.out.1) (by decide)) (Nat.le_trans (len32_small _ (by decide)) (by decide)) (by rw [val_dig]; decide) (by decide)
            simp only [val_dig] at hc
            have HBB : Hid (blen (xx) ≤ 524288 ∧ blen (1) ≤ 524288 ∧ (-2000 : Int).natAbs ≤ 1048576) := ⟨HXX.out.2, by rw [blen_uniq 1 0 (by decide) (by decide)]; omega, (by decide)⟩
            have HYY : Hid ((if xx = 0 then 0 else mdW neg (finU 53 2098 9218868437227405311 9218868437227405312 (dirN neg d) (rV (dirN neg d) 53 (xx) (1) (-2000 + 1074)))) = Y) := hY9
            clear hY9 HY HN HL HE HF O1 O2 HB0
            go_wp2_with fail
            rw [← hg6, ← hw6]
            clear hg6 hw6
            refine hc.mono ?_; rintro e9 w8 ⟨vn8, vd8, a8, b8, g8, rfl, hN8, hD8, ⟨hF8, hg8⟩, hk8⟩
            have hb8 := rbits_ d g8 vn8 vd8 a8 b8 w8 hN8.ls hD8.ls hF8.1 (by have q1 := hF8.2.2.2.1; have q2 := HBB.out; omega) (by have q1 := hF8.2.2.2.2; have q2 := HBB.out; omega)
            have hr8 := refW_fin d g8 neg (xx) (1) a8 b8 (-2000) hF8 hg8 1074 rfl
            rw [hr8, HYY.out] at hb8
            replace HK : Hid (Kp w w8) := HK.out.trans hk8
            clear hc HBB HYY hN8 hD8 hF8 hg8 hk8 hr8
            go_wp2_with fail
            refine hb8.mono ?_; rintro e9 w9 ⟨rfl, hk9⟩
            replace HK : Hid (Kp w w9) := HK.out.trans hk9
            clear hb8 hk9
            go_wp2
            exact bodyPost_ret (v := .int .u64 (Y : Int)) (by simp [results, Tryd.results13, go_sem]) rfl ⟨rfl, HK.out⟩
          · have cm := cmpR (.slice p1 Na k1) (.slice none 0 0) a 0 w2 O1.out.ls ⟨none, 0, by rw [dig_zero]; rfl, Or.inl (by rw [dig_zero]), by rw [dig_zero]; exact Nat.le_refl _⟩ (by have := HL.out; omega) (by rw [blen_zero]; omega)
            rw [cmpN_gt (Nat.pos_of_ne_zero ca)] at cm
            have HCA : Hid (a ≠ 0) := ca
            clear ca
            go_wp2_with fail
            refine cm.mono ?_; rintro e w3 ⟨rfl, hk3⟩
            have ca := HCA.out
            replace HK : Hid (Kp w w3) := HK.out.trans hk3
            replace O1 : Hid (Own w3 w.heap.size (.slice p1 Na k1) (dig a)) := O1.out.kp hk3
            replace O2 : Hid (Own w3 w.heap.size (.slice p2 Nb k2) (dig b)) := O2.out.kp hk3
            clear cm hk3
            obtain ⟨g5, hg5⟩ : ∃ g5, g5 = w3.heap.size := ⟨_, rfl⟩
            obtain ⟨w4, hw4⟩ : ∃ w4, w4 = w3.alloc (.cells #[.int .u32 1] 41) := ⟨_, rfl⟩
            have kp4 : Kp w3 w4 := by rw [hw4]; exact (Kp.refl _).alloc _
            have ar4 : Arr w4 (some ⟨g5, 0, none⟩) [1] := by
              have h := (row1 w3 1).all rfl
              rw [← hw4, ← hg5] at h
              exact h
            have nr := normO (.slice (some ⟨g5, 0, none⟩) 1 1) [1] w4 ⟨some ⟨g5, 0, none⟩, 1, rfl, ar4, by simp⟩ (wd1 1 (by decide)) (by simp)
            rw [show val [1] = 1 from by decide] at nr
            replace HK : Hid (Kp w w4) := HK.out.trans kp4
            replace O1 : Hid (Own w4 w.heap.size (.slice p1 Na k1) (dig a)) := O1.out.kp kp4
            replace O2 : Hid (Own w4 w.heap.size (.slice p2 Nb k2) (dig b)) := O2.out.kp kp4
            clear kp4 ar4
            clear ca
            go_wp2_with fail
            rw [← hg5, ← hw4]
            refine nr.mono ?_; rintro e w5 ⟨v5, rfl, hO5, hk5⟩
            have ca := HCA.out
            have H5 : Hid (Ls w5 v5 (dig 1)) := hO5.ls
            replace HK : Hid (Kp w w5) := HK.out.trans hk5
            replace O1 : Hid (Own w5 w.heap.size (.slice p1 Na k1) (dig a)) := O1.out.kp hk5
            replace O2 : Hid (Own w5 w.heap.size (.slice p2 Nb k2) (dig b)) := O2.out.kp hk5
            clear nr hO5 hk5 hg5 hw4
            obtain ⟨g6, hg6⟩ : ∃ g6, g6 = w5.heap.size := ⟨_, rfl⟩
            obtain ⟨w6, hw6⟩ : ∃ w6, w6 = w5.alloc (.cells #[.int .u32 1] 41) := ⟨_, rfl⟩
            have kp6 : Kp w5 w6 := by rw [hw6]; exact (Kp.refl _).alloc _
            have L6 : Ls w6 (.slice (some ⟨g6, 0, none⟩) 1 1) (dig 1) := by
              have h := own1 w5
              rw [← hw6, ← hg6, ← dig_one] at h
              exact h.ls
            replace H5 : Hid (Ls w6 v5 (dig 1)) := H5.out.kp kp6
            replace HK : Hid (Kp w w6) := HK.out.trans kp6
            clear kp6
            obtain ⟨xx, hxx⟩ : ∃ xx : Nat, xx = 1 := ⟨_, rfl⟩
            have HXX : Hid (xx < 4294967296 ∧ blen xx ≤ 524288) := ⟨by rw [hxx]; decide, by rw [hxx]; rw [blen_uniq 1 0 (by decide) (by decide)]; omega⟩
            rw [← hxx] at H5
            have hYc : (if xx = 0 then 0 else mdW neg (finU 53 2098 9218868437227405311 9218868437227405312 (dirN neg d) (rV (dirN neg d) 53 (xx) (1) (-2000 + 1074)))) = Y := by
              rw [hxx]
              rw [HY.out, if_neg HB0.out, if_neg ca, if_neg (by decide)]; exact congrArg (mdW neg) (fin_clamp (dirN neg d) 1 1 a b (-2000 + 1074) (exp + 1074) (by decide) (by decide) ca HB0.out (by have q1 := HF.out; rw [show blen 1 = 1 from blen_uniq 1 0 (by decide) (by decide)]; right; omega))
            clear ca HCA hxx
            have hY9 : (if xx = 0 then 0 else mdW neg (finU 53 2098 9218868437227405311 9218868437227405312 (dirN neg d) (rV (dirN neg d) 53 (xx) (1) (-2000 + 1074)))) = Y := hYc
            have hc := frac_ neg (v5) (.slice (some ⟨g6, 0, none⟩) 1 1) (dig (xx)) (dig (1)) (-2000) w6 H5.out L6 (Wd_dig _) (Wd_dig _) (Nat.le_trans (len32_small _ HXX.out.1) (by decide)) (Nat.le_trans (len32_small _ (by decide)) (by decide)) (by rw [val_dig]; decide) (by decide)
            simp only [val_dig] at hc
            have HBB : Hid (blen (xx) ≤ 524288 ∧ blen (1) ≤ 524288 ∧ (-2000 : Int).natAbs ≤ 1048576) := ⟨HXX.out.2, by rw [blen_uniq 1 0 (by decide) (by decide)]; omega, (by decide)⟩
            have HYY : Hid ((if xx = 0 then 0 else mdW neg (finU 53 2098 9218868437227405311 9218868437227405312 (dirN neg d) (rV (dirN neg d) 53 (xx) (1) (-2000 + 1074)))) = Y) := hY9
            clear hY9 HY HN HL HE HF O1 O2 HB0
            go_wp2_with fail
            rw [← hg6, ← hw6]
            clear hg6 hw6
            refine hc.mono ?_; rintro e9 w8 ⟨vn8, vd8, a8, b8, g8, rfl, hN8, hD8, ⟨hF8, hg8⟩, hk8⟩
            have hb8 := rbits_ d g8 vn8 vd8 a8 b8 w8 hN8.ls hD8.ls hF8.1 (by have q1 := hF8.2.2.2.1; have q2 := HBB.out; omega) (by have q1 := hF8.2.2.2.2; have q2 := HBB.out; omega)
            have hr8 := refW_fin d g8 neg (xx) (1) a8 b8 (-2000) hF8 hg8 1074 rfl
            rw [hr8, HYY.out] at hb8
            replace HK : Hid (Kp w w8) := HK.out.trans hk8
            clear hc HBB HYY hN8 hD8 hF8 hg8 hk8 hr8
            go_wp2_with fail
            refine hb8.mono ?_; rintro e9 w9 ⟨rfl, hk9⟩
            replace HK : Hid (Kp w w9) := HK.out.trans hk9
            clear hb8 hk9
            go_wp2
            exact bodyPost_ret (v := .int .u64 (Y : Int)) (by simp [results, Tryd.results13, go_sem]) rfl ⟨rfl, HK.out⟩
        · have hea : exp.natAbs ≤ 1048576 := by have q1 := HF.out; omega
          have HEA : Hid (exp.natAbs ≤ 1048576) := hea
          clear hea
          have hY9 : (if a = 0 then 0 else mdW neg (finU 53 2098 9218868437227405311 9218868437227405312 (dirN neg d) (rV (dirN neg d) 53 (a) (b) (exp + 1074)))) = Y := (by rw [HY.out, if_neg HB0.out])
          have hc := frac_ neg (.slice p1 Na k1) (.slice p2 Nb k2) (dig (a)) (dig (b)) (exp) w2 O1.out.ls O2.out.ls (Wd_dig _) (Wd_dig _) (Nat.le_trans HN.out.2.2.1 (by decide)) (Nat.le_trans HN.out.2.2.2 (by decide)) (by rw [val_dig]; exact HB0.out) HEA.out
          simp only [val_dig] at hc
          have HBB : Hid (blen (a) ≤ 524288 ∧ blen (b) ≤ 524288 ∧ (exp : Int).natAbs ≤ 1048576) := ⟨HL.out.1, HL.out.2, HEA.out⟩
          have HYY : Hid ((if a = 0 then 0 else mdW neg (finU 53 2098 9218868437227405311 9218868437227405312 (dirN neg d) (rV (dirN neg d) 53 (a) (b) (exp + 1074)))) = Y) := hY9
          clear hY9 HY HN HL HE HF O1 O2 HB0
          go_wp2_with fail
          refine hc.mono ?_; rintro e9 w8 ⟨vn8, vd8, a8, b8, g8, rfl, hN8, hD8, ⟨hF8, hg8⟩, hk8⟩
          have hb8 := rbits_ d g8 vn8 vd8 a8 b8 w8 hN8.ls hD8.ls hF8.1 (by have q1 := hF8.2.2.2.1; have q2 := HBB.out; omega) (by have q1 := hF8.2.2.2.2; have q2 := HBB.out; omega)
          have hr8 := refW_fin d g8 neg (a) (b) a8 b8 (exp) hF8 hg8 1074 rfl
          rw [hr8, HYY.out] at hb8
          replace HK : Hid (Kp w w8) := HK.out.trans hk8
          clear hc HBB HYY hN8 hD8 hF8 hg8 hk8 hr8
          go_wp2_with fail
          refine hb8.mono ?_; rintro e9 w9 ⟨rfl, hk9⟩
          replace HK : Hid (Kp w w9) := HK.out.trans hk9
          clear hb8 hk9
          go_wp2
          exact bodyPost_ret (v := .int .u64 (Y : Int)) (by simp [results, Tryd.results13, go_sem]) rfl ⟨rfl, HK.out⟩
end Go.Proofs.YtnkakbjndclkhaaDoor
