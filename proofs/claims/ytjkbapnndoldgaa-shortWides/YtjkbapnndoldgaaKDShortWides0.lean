import Derived.Test.YtjkbapnndoldgaaKSHx
import Derived.Test.YtjkbapnndoldgaaKSHi
import Derived.WalkKit
import Derived.ProofKit
import Derived.RowKit3
import Derived.Deep.RegionHeld3
import Derived.WalkSpells
import Derived.StillTactics
import Derived.Laws.FloatArith
import Derived.Deep.QuietTactic
import Derived.BigQuiet
import Derived.Below
import Derived.RowKit
import Derived.Deep.OwnRows
import Derived.OwnWalk
import Derived.Laws.BitsAllLaws
import Derived.Laws.Slices
import Derived.Laws.Bits64b
import Derived.Deep.CutRange
import Derived.Deep.DeepCutAuto
namespace Go.Proofs.Ytjkbapnndoldgaa
open Go.RowKit
namespace Fq
theorem fb64 (x : Nat) (w : World) : (callFunc 46 #[.float .f64 x]).run Try.prog w = .ok (.value (.int .u64 (x : Int))) w := by kernel_rfl
end Fq
end Go.Proofs.Ytjkbapnndoldgaa
namespace Go.Proofs.Ytjkbapnndoldgaa
open Go.RowKit
theorem upw_scale (d : Int) (S r w k : Nat) (hk : 0 < k) : upw d S (r * k) (w * k) = upw d S r w := by
  have h1 : (0 < r * k) ↔ 0 < r := ⟨fun h => Nat.pos_of_ne_zero (fun e => by subst e; simp at h), fun h => Nat.mul_pos h hk⟩
  have h2 : (w * k < 2 * (r * k)) ↔ w < 2 * r := by rw [← Nat.mul_assoc]; exact Nat.mul_lt_mul_right hk
  have h3 : (w * k = 2 * (r * k)) ↔ w = 2 * r := by rw [← Nat.mul_assoc]; exact Nat.mul_left_inj (by omega)
  unfold upw
  simp only [h1, h2, h3]
end Go.Proofs.Ytjkbapnndoldgaa
namespace Go.Proofs.Ytjkbapnndoldgaa
open Go.RowKit
/-- the rung that is answered: T bits are too many -/
def finU (p T G I : Nat) (d : Int) (U : Nat) : Nat := if blen U ≤ T then rgU p U else if d = -1 then G else I
end Go.Proofs.Ytjkbapnndoldgaa
namespace Go.Proofs.Ytjkbapnndoldgaa
open Go.RowKit
open Ieee in
theorem cut_even (neg : Bool) (n drop : Nat) : Toward.even.cut neg n drop = n / 2 ^ drop + (upw 0 (n / 2 ^ drop) (n % 2 ^ drop) (2 ^ drop)).toNat := by
  unfold Toward.cut
  simp only [Nat.shiftLeft_eq, Nat.one_mul]
  have hup : ∀ S r w : Nat, upw 0 S r w = (decide (w < 2 * r) || (w == 2 * r && S % 2 == 1)) := fun S r w => by
    unfold upw
    simp
    rfl
  rcases Nat.lt_or_ge (n.log2 + 2) drop with c | c
  · rw [Nat.min_eq_right (by omega)]
    have h1 : n < 2 ^ (n.log2 + 1) := Nat.lt_log2_self
    have h2 : 2 ^ (n.log2 + 2) = 2 * 2 ^ (n.log2 + 1) := by rw [Nat.pow_succ]; omega
    have h3 : 2 ^ (n.log2 + 2) ≤ 2 ^ drop := Nat.pow_le_pow_right (by omega) (by omega)
    rw [Nat.div_eq_of_lt (show n < 2 ^ (n.log2 + 2) by omega), Nat.mod_eq_of_lt (show n < 2 ^ (n.log2 + 2) by omega), Nat.div_eq_of_lt (show n < 2 ^ drop by omega), Nat.mod_eq_of_lt (show n < 2 ^ drop by omega), hup]
    have e1 : ¬ 2 ^ (n.log2 + 2) < 2 * n := by omega
    have e2 : ¬ 2 ^ drop < 2 * n := by omega
    have e3 : ¬ 2 ^ (n.log2 + 2) = 2 * n := by omega
    have e4 : ¬ 2 ^ drop = 2 * n := by omega
    simp [e1, e2]
  · rw [Nat.min_eq_left c, hup]
end Go.Proofs.Ytjkbapnndoldgaa
namespace Go.Proofs.Ytjkbapnndoldgaa
open Go.RowKit
theorem lpD9 : Ieee.double.leastPlace = -1074 := by decide +kernel
theorem fbD9 : Ieee.double.fractionBits = 52 := rfl
theorem wdD9 (n : Bool) (r : Nat) : Ieee.double.word n r = Fq.wD n r := by unfold Ieee.Format.word Fq.wD; rw [Fq.signD]
theorem log2_blen (m : Nat) (h : m ≠ 0) : blen m = m.log2 + 1 := by unfold blen; rw [if_neg h]
open Ieee in
theorem nearest_def (f : Format) (neg : Bool) (mag : Nat) (place : Int) (h : mag ≠ 0) : f.nearest neg mag place = f.word neg (min ((max (place + (mag.log2 : Nat) - (f.fractionBits : Nat)) f.leastPlace - f.leastPlace).toNat * f.binade + Toward.even.cut neg (mag <<< (place - max (place + (mag.log2 : Nat) - (f.fractionBits : Nat)) f.leastPlace).toNat) (max (place + (mag.log2 : Nat) - (f.fractionBits : Nat)) f.leastPlace - place).toNat) f.infRung) := by
  unfold Format.nearest
  rw [if_neg h]
/-- the model's nearest, by our rounding -/
theorem near_w (neg : Bool) (mag : Nat) (place : Int) (t : Nat) (ht : (t : Int) = place + 1074) : Ieee.double.nearest neg mag place = Fq.wD neg (finU 53 2098 9218868437227405311 9218868437227405312 0 (rU 0 53 (mag * 2 ^ t) 1)) := by
  by_cases c : mag = 0
  · unfold Ieee.Format.nearest
    rw [if_pos c, wdD9, c, Nat.zero_mul]
    have h0 : rU 0 53 0 1 = 0 := by
      unfold rU rS rR
      rw [Nat.zero_div, Nat.zero_mod, upw_none _ _ _ (by rw [Nat.one_mul]; exact Nat.two_pow_pos _)]
      simp
    rw [h0]
    unfold finU
    rw [blen_zero, if_pos (by omega), rgU_zero]
  · rw [nearest_def _ _ _ _ c, wdD9, lpD9, fbD9, Fq.binD, Fq.infD]
    obtain ⟨A, hA⟩ : ∃ A, A = mag * 2 ^ t := ⟨_, rfl⟩
    have hbA : blen A = mag.log2 + 1 + t := by rw [hA, blen_mul _ _ c, log2_blen mag c]
    obtain ⟨E, hE⟩ : ∃ E, E = rE 53 A 1 := ⟨_, rfl⟩
    have hE2 : E = mag.log2 + t - 52 := by rw [hE]; unfold rE; rw [Nat.div_one, hbA]; omega
    obtain ⟨last, hl⟩ : ∃ last : Int, last = max (place + (mag.log2 : Nat) - ((52 : Nat) : Int)) (-1074) := ⟨_, rfl⟩
    have hlE : (E : Int) = last + 1074 := by rw [hl]; omega
    obtain ⟨K, hK⟩ : ∃ K, K = rS 53 A 1 + (upw 0 (rS 53 A 1) (rR 53 A 1) (1 * 2 ^ rE 53 A 1)).toNat := ⟨_, rfl⟩
    have hkept : Ieee.Toward.even.cut neg (mag <<< (place - last).toNat) (last - place).toNat = K := by
      rw [cut_even, hK]
      unfold rS rR
      rw [← hE, Nat.one_mul, Nat.shiftLeft_eq]
      by_cases c1 : E ≤ t
      · rw [show (place - last).toNat = t - E from by omega, show (last - place).toNat = 0 from by omega, Nat.pow_zero, Nat.div_one, Nat.mod_one, upw_none _ _ _ (by omega)]
        have e1 : A = mag * 2 ^ (t - E) * 2 ^ E := by rw [hA, Nat.mul_assoc, ← Nat.pow_add]; congr 2; omega
        rw [e1, Nat.mul_div_cancel _ (Nat.two_pow_pos E), Nat.mul_mod_left, upw_none _ _ _ (Nat.two_pow_pos E)]
      · rw [show (place - last).toNat = 0 from by omega, show (last - place).toNat = E - t from by omega, Nat.pow_zero, Nat.mul_one]
        have e1 : 2 ^ E = 2 ^ (E - t) * 2 ^ t := by rw [← Nat.pow_add]; congr 1; omega
        rw [hA, e1, Nat.mul_div_mul_right _ _ (Nat.two_pow_pos t), Nat.mul_mod_mul_right, upw_scale _ _ _ _ _ (Nat.two_pow_pos t)]
    rw [← hl]
    rw [hkept, show (last - (-1074)).toNat = E from by omega, ← hA]
    obtain ⟨_, _, _, _, h5, h6⟩ := rung_of A 0 E K hE hK
    unfold finU
    congr 1
    by_cases c2 : blen (rU 0 53 A 1) ≤ 2098
    · rw [if_pos c2, h5]; exact Nat.min_eq_left (Nat.le_of_lt (h6.1 c2))
    · rw [if_neg c2, if_neg (by decide)]
      exact Nat.min_eq_right (Nat.le_of_not_lt (fun h => c2 (h6.2 h)))
end Go.Proofs.Ytjkbapnndoldgaa
namespace Go.Proofs.Ytjkbapnndoldgaa
open Go.RowKit
set_option linter.unusedVariables false
theorem lpS9 : Ieee.single.leastPlace = -149 := by decide +kernel
theorem wd_fin (d : Int) (m : Nat) (h : m < 2139095040) : finU 53 2098 9218868437227405311 9218868437227405312 d (rU d 53 (Fq.vV Ieee.single m * 2 ^ k9) 1) = wdR m := by
  rw [wd_rep]
  unfold finU wdR
  rw [if_pos (wd_blen m h), if_neg (by omega)]
end Go.Proofs.Ytjkbapnndoldgaa
namespace Go.Proofs.Ytjkbapnndoldgaa
open Go.RowKit
set_option linter.unusedVariables false
theorem cnvW_eq (x : Nat) (w : World) : (convert 26 38 (.float .f32 x)).run Try.prog w = (Conv.floatToFloat .f32 x .f64).run Try.prog w := by kernel_rfl
theorem cnvW_ (n : Bool) (m : Nat) (hm : m ≤ 2139095040) (w : World) : (convert 26 38 (.float .f32 (Fq.wS n m))).run Try.prog w = .ok (.float .f64 (Fq.wD n (wdR m))) w := by
  by_cases c : m = 2139095040
  · subst c
    rw [show wdR 2139095040 = 9218868437227405312 from by unfold wdR; rw [if_pos rfl]]
    cases n <;> kernel_rfl
  · have hl : m < 2139095040 := by omega
    rw [cnvW_eq]
    have hd : FloatKind.f32.decode (Fq.wS n m) = .number n (Fq.mM Ieee.single m) (Ieee.single.leastPlace + (Fq.eE Ieee.single m : Nat)) := by
      unfold FloatKind.decode
      rw [show FloatKind.f32.format = Ieee.single from rfl]
      have := Fq.read_fin Ieee.single (Fq.wS n m) (by rw [Fq.rgS n m (by omega), Fq.infS]; exact hl)
      rw [this, Fq.rgS n m (by omega), Fq.ngS n m (by omega)]
    have he : FloatKind.f64.encode (.number n (Fq.mM Ieee.single m) (Ieee.single.leastPlace + (Fq.eE Ieee.single m : Nat))) = Fq.wD n (wdR m) := by
      show Ieee.double.write (.number n (Fq.mM Ieee.single m) (Ieee.single.leastPlace + (Fq.eE Ieee.single m : Nat))) = _
      show Ieee.double.nearest n (Fq.mM Ieee.single m) (Ieee.single.leastPlace + (Fq.eE Ieee.single m : Nat)) = _
      have hk := k9_eq
      rw [lpS9, near_w n (Fq.mM Ieee.single m) _ (Fq.eE Ieee.single m + k9) (by omega), Nat.pow_add, ← Nat.mul_assoc]
      show Fq.wD n (finU 53 2098 9218868437227405311 9218868437227405312 0 (rU 0 53 (Fq.vV Ieee.single m * 2 ^ k9) 1)) = _
      rw [wd_fin 0 m hl]
    have hi : (FloatKind.f64.decode (Fq.wD n (wdR m))).isInfinity = false := by
      have hw := wd_lt m hl
      unfold FloatKind.decode
      rw [show FloatKind.f64.format = Ieee.double from rfl, Fq.read_fin Ieee.double _ (by rw [Fq.rgD n _ (by omega), Fq.infD]; exact hw)]
      rfl
    unfold Conv.floatToFloat
    rw [if_neg (by decide), hd]
    show (if (FloatKind.f64.decode (FloatKind.f64.encode (.number n (Fq.mM Ieee.single m) (Ieee.single.leastPlace + (Fq.eE Ieee.single m : Nat))))).isInfinity = true then _ else _ : Sem Value).run Try.prog w = _
    rw [he, hi]
    rfl
end Go.Proofs.Ytjkbapnndoldgaa
namespace Go.Proofs.Ytjkbapnndoldgaa
open Go.RowKit
set_option linter.unusedVariables false
set_option maxRecDepth 20000 in
set_option maxHeartbeats 1000000 in
theorem outL_ (a b : Nat) (w : World) : Calls Try.prog 16 #[.agg #[.float .f64 a, .float .f64 b]] w fun e w' => e = .returned (.agg #[.int .u64 ((a : Nat) : Int), .int .u64 ((b : Nat) : Int)]) ∧ Kp w w' := by
  have h1 := Fq.fb64 a
  have h2 := Fq.fb64 b
  generalize (a : Int) = X at h1 ⊢
  generalize (b : Int) = Y at h2 ⊢
  go_enter Try.func16, Try.ntmps16
  go_wp2
  go_region_held3 (fun w' => w'.cell? ⟨w.heap.size, 0, none⟩ = some (.float .f64 a) ∧ w'.cell? ⟨w.heap.size, 1, none⟩ = some (.float .f64 b)) (simp [go_sem, World.cell?_alloc_past]) (fail)
  go_wp2
  exact bodyPost_ret (v := .agg #[.int .u64 X, .int .u64 Y]) (by simp [results, Try.results16, go_sem]) rfl ⟨rfl, (by repeat (with_reducible (first | assumption | exact Kp.refl _ | apply Kp.drew | apply Kp.alloc | apply Kp.drewN | (refine Kp.setCell ?_ (by first | omega | (simp <;> omega)) _) | (refine Kp.trans ?_ (by assumption)))))⟩
end Go.Proofs.Ytjkbapnndoldgaa
namespace Go.Proofs.Ytjkbapnndoldgaa
open Go.RowKit
set_option linter.unusedVariables false
theorem cnvP_ (z : Int) (h : Sg.BdZ z) (w : World) : (convert 26 38 (.float .f32 (Sg.pw z))).run Try.prog w = .ok (.float .f64 (pw (wz z))) w := by
  have g := cnvW_ (decide (z < 0)) z.natAbs (Sg.abs_pw z h) w
  rw [wd_pw _ _ (Sg.abs_pw z h) (fun c => by have := of_decide_eq_true c; omega), Sg.plz_pw] at g
  exact g
set_option maxRecDepth 20000 in
set_option maxHeartbeats 400000 in
theorem shWideA_ (a b c d p q : Nat) (h : ∀ w : World, Calls Try.prog 8 #[.agg #[.float .f32 a, .float .f32 b]] w fun e w' => e = .returned (.agg #[.float .f32 c, .float .f32 d]) ∧ Kp w w') (h1 : ∀ w : World, (convert 26 38 (.float .f32 c)).run Try.prog w = .ok (.float .f64 p) w) (h2 : ∀ w : World, (convert 26 38 (.float .f32 d)).run Try.prog w = .ok (.float .f64 q) w) (w : World) : Calls Try.prog 17 #[.agg #[.float .f32 a, .float .f32 b]] w fun e w' => e = .returned (.agg #[.float .f64 p, .float .f64 q]) ∧ Kp w w' := by
  go_enter Try.func17, Try.ntmps17
  go_wp2_with (first | (go_at_call 8; refine (h _).mono ?_; rintro e w1 ⟨rfl, g1⟩; have k1 : Kp w w1 := Kp.trans (((Kp.refl w).alloc _).alloc _) g1; obtain ⟨⟨x0, x1, x2, x3⟩, y0, y1, y2, y3⟩ := H48.keep (H48.new w (.float .f32 a) (.float .f32 b) (.float .f64 0) (.float .f64 0) 28 40) g1))
  exact bodyPost_ret (v := .agg #[.float .f64 p, .float .f64 q]) (by simp [results, Try.results17, go_sem, y0, y1]) rfl ⟨rfl, (((k1.setCell (by simp <;> omega) _).setCell (by simp <;> omega) _).setCell (by simp <;> omega) _).setCell (by simp <;> omega) _⟩
theorem shWide_ (a b : Nat) (L H : Int) (h : Sg.Rd a b L H) (w : World) : Calls Try.prog 17 #[.agg #[.float .f32 a, .float .f32 b]] w fun e w' => e = .returned (.agg #[.float .f64 (pw (wz L)), .float .f64 (pw (wz H))]) ∧ Kp w w' := shWideA_ a b _ _ _ _ (shRead_ a b L H h) (cnvP_ L h.vd.lo) (cnvP_ H h.vd.hi) w
end Go.Proofs.Ytjkbapnndoldgaa
namespace Go.Proofs.Ytjkbapnndoldgaa
open Go.RowKit
set_option linter.unusedVariables false
set_option maxRecDepth 20000 in
set_option maxHeartbeats 1000000 in
theorem rwide14A_ (X Y P Q U V : Int) (h1 : ∀ w : World, Calls Try.prog 35 #[.agg #[.int .u32 X, .int .u32 Y]] w fun e w' => e = .returned (.agg #[.int .u64 P, .int .u64 Q]) ∧ Kp w w') (h2 : ∀ w : World, Calls Try.prog 34 #[.agg #[.int .u64 P, .int .u64 Q]] w fun e w' => e = .returned (.agg #[.int .u64 U, .int .u64 V]) ∧ Kp w w') (w : World) : Calls Try.prog 18 #[.agg #[.int .u32 X, .int .u32 Y]] w fun e w' => e = .returned (.agg #[.int .u64 U, .int .u64 V]) ∧ Kp w w' := by
  have k0 := ((Kp.refl w).alloc (.cells #[.int .u32 X, .int .u32 Y] 24)).alloc (.cells #[.int .u64 0, .int .u64 0] 36)
  have s0 := H48.new w (.int .u32 X) (.int .u32 Y) (.int .u64 0) (.int .u64 0) 24 36
  go_enter Try.func18, Try.ntmps18
  go_wp2_with (first | (go_at_call 35; refine (h1 _).mono ?_; rintro e w1 ⟨rfl, g1⟩; have k1 := Kp.trans k0 g1; have s1 := H48.keep s0 g1; clear g1) | (go_at_call 34; refine (h2 _).mono ?_; rintro e w2 ⟨rfl, g2⟩; have k2 := Kp.trans k1 g2; have s2 := H48.keep s1 g2; clear g2; obtain ⟨⟨x0, x1, x2, x3⟩, y0, y1, y2, y3⟩ := id s2))
  exact bodyPost_ret (v := .agg #[.int .u64 U, .int .u64 V]) (by simp [results, Try.results18, go_sem, y0, y1]) rfl ⟨rfl, ((k2.setCell (by simp <;> omega) _).setCell (by simp <;> omega) _)⟩
theorem rwideI_ (a b : Nat) (L H : Int) (r : Sg.Rd a b L H) (w : World) : Calls Try.prog 18 #[.agg #[.int .u32 ((a : Nat) : Int), .int .u32 ((b : Nat) : Int)]] w fun e w' => e = .returned (.agg #[.int .u64 (pI (wz L)), .int .u64 (pI (wz H))]) ∧ Kp w w' := rwide14A_ _ _ _ _ _ _ (wideAll_ a b r.1 r.2.1) (rread9_ _ _ _ _ (rdW a b L H r)) w
end Go.Proofs.Ytjkbapnndoldgaa
namespace Go.Proofs.Ytjkbapnndoldgaa
open Go.RowKit
set_option linter.unusedVariables false
set_option maxRecDepth 20000 in
set_option maxHeartbeats 1000000 in
theorem sWidesA_ (X Y R S : Int) (a b c d : Nat) (hi : ∀ w : World, Calls Try.prog 9 #[.agg #[.int .u32 X, .int .u32 Y]] w fun e w' => e = .returned (.agg #[.float .f32 a, .float .f32 b]) ∧ Kp w w') (hp : ∀ w : World, Calls Try.prog 17 #[.agg #[.float .f32 a, .float .f32 b]] w fun e w' => e = .returned (.agg #[.float .f64 c, .float .f64 d]) ∧ Kp w w') (ho : ∀ w : World, Calls Try.prog 16 #[.agg #[.float .f64 c, .float .f64 d]] w fun e w' => e = .returned (.agg #[.int .u64 R, .int .u64 S]) ∧ Kp w w') (hr : ∀ w : World, Calls Try.prog 18 #[.agg #[.int .u32 X, .int .u32 Y]] w fun e w' => e = .returned (.agg #[.int .u64 R, .int .u64 S]) ∧ Kp w w') (w : World) : Calls Try.prog 5 #[.agg #[.int .u32 X, .int .u32 Y]] w fun e w' => e = .returned (.bool true) ∧ Kp w w' := by
  go_enter Try.func5, Try.ntmps5
  go_wp2
  refine Fq.wp_region_grow (by kernel_rfl) (by kernel_rfl) (fun ι _ G hG hall => ?_)
  have cc0 : ∀ n, (G n).cell? ⟨w.heap.size, 0, none⟩ = some (.int .u32 X) := fun n => Fq.gkeep (hG n) (by simp [go_sem])
  have cc1 : ∀ n, (G n).cell? ⟨w.heap.size, 1, none⟩ = some (.int .u32 Y) := fun n => Fq.gkeep (hG n) (by simp [go_sem])
  repeat (go_big_quiet_step (first | (go_at_call 9; exact (hi _).mono (fun e w' h => ⟨h.1, hall _ (Fq.gtrans (hG _) h.2)⟩)) | (go_at_call 17; exact (hp _).mono (fun e w' h => ⟨h.1, hall _ (Fq.gtrans (hG _) h.2)⟩)) | (go_at_call 16; exact (ho _).mono (fun e w' h => ⟨h.1, hall _ (Fq.gtrans (hG _) h.2)⟩)) | (go_at_call 18; exact (hr _).mono (fun e w' h => ⟨h.1, hall _ (Fq.gtrans (hG _) h.2)⟩))))
  refine wpQuiet_nil ?_
  rintro _ ⟨nq, rfl⟩
  have gq : Kp _ (G nq) := hG nq
  clear cc0 cc1 hall hG
  have gq2 := Kp.trans ((Kp.refl w).alloc _) gq
  go_wp2
  exact bodyPost_ret (v := .bool true) (by simp [results, Try.results5, go_sem]) rfl ⟨rfl, gq2⟩
theorem sWides_ (a b : Nat) (ha : a < 4294967296) (hb : b < 4294967296) (w : World) : Calls Try.prog 5 #[.agg #[.int .u32 ((a : Nat) : Int), .int .u32 ((b : Nat) : Int)]] w fun e w' => e = .returned (.bool true) ∧ Kp w w' := by
  obtain ⟨L, H, r⟩ := Sg.Rd.ex a b ha hb
  exact sWidesA_ _ _ _ _ a b _ _ (inS_ a b) (shWide_ a b L H r) (outL_ _ _) (rwideI_ a b L H r) w
end Go.Proofs.Ytjkbapnndoldgaa
