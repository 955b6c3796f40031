import Derived.Test.YtejklhnhggaolaaGreatDoorKXM
import Derived.Test.YtejklhnhggaolaaGreatDoorKXY
import Derived.Test.YtejklhnhggaolaaGreatDoorKMR7Q
import Derived.Test.YtejklhnhggaolaaGreatDoorKXMR
import Derived.Test.YtejklhnhggaolaaGreatDoorKXM3
import Derived.Test.YtejklhnhggaolaaGreatDoorKXQF
import Derived.Test.YtejklhnhggaolaaGreatDoorKXO
import Derived.Test.YtejklhnhggaolaaGreatDoorKXO3
import Derived.Test.YtejklhnhggaolaaGreatDoorKXEA
import Derived.Test.YtejklhnhggaolaaGreatDoorProg
import Derived.Test.YtejklhnhggaolaaGreatDoorKXA0
import Derived.Test.YtejklhnhggaolaaGreatDoorKQA
import Derived.Test.YtejklhnhggaolaaGreatDoorKQP
import Derived.Test.YtejklhnhggaolaaGreatDoorKXQU
import Derived.Test.YtejklhnhggaolaaGreatDoorKQB
import Derived.Test.YtejklhnhggaolaaGreatDoorKQBT
import Derived.Test.YtejklhnhggaolaaGreatDoorKQJd
import Derived.RowKit
import Derived.Laws.FloatArith
import Derived.WalkKit
import Derived.ProofKit
import Derived.RowKit3
import Derived.WalkSpells
import Derived.StillTactics
import Derived.Deep.QuietTactic
import Derived.BigQuiet
import Derived.Below
import Derived.Deep.OwnRows
import Derived.OwnWalk
import Derived.Laws.BitsAllLaws
import Derived.Laws.Slices
import Derived.Laws.Bits64b
import Derived.Deep.RegionHeld3
namespace Go.Proofs.YtejklhnhggaolaaGreatDoor
open Go.RowKit
theorem rU_vV (d : Int) (m : Nat) (hm : m < 9218868437227405312) : rU d 53 (Fq.vV Ieee.double m) 1 = Fq.vV Ieee.double m := by
  obtain ⟨E, hE⟩ : ∃ E, E = Fq.eE Ieee.double m := ⟨_, rfl⟩
  obtain ⟨M, hM⟩ : ∃ M, M = Fq.mM Ieee.double m := ⟨_, rfl⟩
  have hV : Fq.vV Ieee.double m = M * 2 ^ E := by rw [hM, hE]; rfl
  have hMb : M < 9007199254740992 ∧ (E = 0 ∨ 4503599627370496 ≤ M) := by
    rw [hM, hE]; unfold Fq.mM Fq.eE; rw [Fq.binD]
    by_cases c : m < 4503599627370496
    · rw [if_pos c, if_pos c]; exact ⟨by omega, .inl rfl⟩
    · rw [if_neg c, if_neg c]
      have := Nat.mod_lt m (show 0 < 4503599627370496 by decide)
      exact ⟨by omega, .inr (by omega)⟩
  rw [hV]
  clear hV hM hE
  have p0 : 0 < 2 ^ E := Nat.two_pow_pos E
  have hr : rE 53 (M * 2 ^ E) 1 = E := by
    refine rE_uniq 53 (M * 2 ^ E) 1 E (by decide) (by decide) ?_ ?_
    · rw [Nat.one_mul, Nat.pow_add, Nat.mul_comm]
      exact Nat.mul_lt_mul_of_pos_left (by rw [show (2 : Nat) ^ 53 = 9007199254740992 from by decide]; exact hMb.1) p0
    · rcases hMb.2 with h | h
      · exact .inl h
      · refine .inr ?_
        rw [Nat.one_mul, show E + 53 - 1 = 52 + E from by omega, Nat.pow_add, show (2 : Nat) ^ 52 = 4503599627370496 from by decide]
        exact Nat.mul_le_mul_right _ h
  unfold rU rS rR
  rw [hr, Nat.one_mul, Nat.mul_div_cancel _ p0, Nat.mul_mod_left, upw_none _ _ _ p0]
  simp
theorem fin_vV (d : Int) (m : Nat) (hm : m < 9218868437227405312) : finU 53 2098 9218868437227405311 9218868437227405312 d (Fq.vV Ieee.double m) = m := by
  have h1 := rU_vV d m hm
  have h2 := vV_rung (Fq.vV Ieee.double m) d
  rw [h1] at h2
  have h3 : rgU 53 (Fq.vV Ieee.double m) = m := (Fq.vV_inj _ _ _).1 h2
  obtain ⟨K, hK⟩ : ∃ K : Nat, K = 2098 := ⟨_, rfl⟩
  have hb : Fq.vV Ieee.double m < 2 ^ K := by
    unfold Fq.vV Fq.mM Fq.eE; rw [Fq.binD]
    have hp : ∀ a e : Nat, a < 9007199254740992 → e ≤ 2045 → a * 2 ^ e < 2 ^ K := fun a e ha he => by
      have g : a * 2 ^ e < 2 ^ 53 * 2 ^ e := Nat.mul_lt_mul_of_pos_right (by rw [show (2 : Nat) ^ 53 = 9007199254740992 from by decide]; exact ha) (Nat.two_pow_pos e)
      rw [← Nat.pow_add] at g
      exact Nat.lt_of_lt_of_le g (Nat.pow_le_pow_right (by decide) (by omega))
    by_cases c : m < 4503599627370496
    · rw [if_pos c, if_pos c]; exact hp _ _ (by omega) (by omega)
    · rw [if_neg c, if_neg c]
      have := Nat.mod_lt m (show 0 < 4503599627370496 by decide)
      exact hp _ _ (by omega) (by omega)
  have hbl : blen (Fq.vV Ieee.double m) ≤ 2098 := by rw [← hK]; exact (blen_le_iff _ _).2 hb
  unfold finU
  rw [if_pos hbl, h3]
theorem vV_zero_iff (m : Nat) : Fq.vV Ieee.double m = 0 ↔ m = 0 := by
  have h := Fq.vV_inj Ieee.double m 0
  rw [Fq.vV_zero] at h
  exact h
theorem sumW_exact (d : Int) (n : Bool) (m : Nat) (hm : m < 9218868437227405312) : sumW d (Iv n m) = Fq.pla (Fq.wD n m) := by
  unfold sumW
  by_cases c : m = 0
  · have h0 : Iv n m = 0 := by unfold Iv; rw [c, Fq.vV_zero]; cases n <;> rfl
    rw [if_pos h0, c]; unfold Fq.pla Fq.wD; cases n <;> rfl
  · have hv : Fq.vV Ieee.double m ≠ 0 := fun h => c ((vV_zero_iff m).1 h)
    have h0 : Iv n m ≠ 0 := by unfold Iv; cases n <;> simp <;> omega
    have h1 : decide (Iv n m < 0) = n := by unfold Iv; cases n <;> simp <;> omega
    have h2 : (Iv n m).natAbs = Fq.vV Ieee.double m := by unfold Iv; cases n <;> simp
    rw [if_neg h0, h1, h2, rU_vV _ m hm, fin_vV _ m hm]
    unfold mdW Fq.pla Fq.wD
    rw [if_neg c]
    cases n <;> simp <;> omega
/-- the pattern of what lies opposite -/
def mnP (n : Bool) (m : Nat) : Nat := Fq.pla (Fq.wD (!n) m)
theorem sub_zero_w (n : Bool) (m : Nat) (hm : m ≤ 9218868437227405312) : FloatKind.f64.format.sub 0 (Fq.wD n m) = some (mnP n m) := by
  by_cases c : m = 9218868437227405312
  · rw [c]; cases n <;> decide +kernel
  · have h := sub_w false n 0 m (by decide) (by omega) (Iv (!n) m) (by unfold Iv; rw [Fq.vV_zero]; cases n <;> simp)
    rw [show Fq.wD false 0 = 0 from rfl] at h
    rw [h]
    have e := sumW_exact 0 (!n) m (by omega)
    unfold mnP
    by_cases z : m = 0
    · have h0 : Iv (!n) m = 0 := by unfold Iv; rw [z, Fq.vV_zero]; cases n <;> rfl
      rw [if_pos h0, h0, z]
      have g := rU_vV 0 0 (by decide)
      have g2 := fin_vV 0 0 (by decide)
      rw [Fq.vV_zero] at g g2
      rw [show (0 : Int).natAbs = 0 from rfl, g, g2]
      cases n <;> rfl
    · have hv : Fq.vV Ieee.double m ≠ 0 := fun h => z ((vV_zero_iff m).1 h)
      have h0 : Iv (!n) m ≠ 0 := by unfold Iv; cases n <;> simp <;> omega
      have h1 : decide (Iv (!n) m < 0) = !n := by unfold Iv; cases n <;> simp <;> omega
      have h2 : (Iv (!n) m).natAbs = Fq.vV Ieee.double m := by unfold Iv; cases n <;> simp
      rw [if_neg h0, h1, h2, rU_vV _ m (by omega), fin_vV _ m (by omega)]
      congr 1
      unfold Fq.pla Fq.wD
      cases n <;> simp <;> omega

theorem rlo_w (a b : Nat) (ha : a < 18446744073709551616) (hb : b < 18446744073709551616) : ∃ n m, m ≤ 9218868437227405312 ∧ Fq.rlo a b = Fq.wD n m := by
  obtain ⟨n, m, hm, rfl⟩ := Fq.exD a ha
  obtain ⟨n', m', hm', rfl⟩ := Fq.exD b hb
  by_cases c : Fq.snd (Fq.wD n m) (Fq.wD n' m') = true
  · have es := Fq.snd_w n n' m m' hm hm'
    rw [c] at es
    have es := of_decide_eq_true es.symm
    rw [show Fq.rlo (Fq.wD n m) (Fq.wD n' m') = Fq.pla (Fq.wD n m) from by simp [Fq.rlo, c]]
    by_cases c2 : Fq.wD n m = 9223372036854775808
    · exact ⟨false, 0, by decide, by unfold Fq.pla; rw [if_pos c2]; rfl⟩
    · exact ⟨n, m, es.1, by simp [Fq.pla, c2]⟩
  · exact ⟨false, 9218868437227405312, by decide, by unfold Fq.rlo; rw [if_neg c]; rfl⟩
theorem rhi_w (a b : Nat) (ha : a < 18446744073709551616) (hb : b < 18446744073709551616) : ∃ n m, m ≤ 9218868437227405312 ∧ Fq.rhi a b = Fq.wD n m := by
  obtain ⟨n, m, hm, rfl⟩ := Fq.exD a ha
  obtain ⟨n', m', hm', rfl⟩ := Fq.exD b hb
  by_cases c : Fq.snd (Fq.wD n m) (Fq.wD n' m') = true
  · have es := Fq.snd_w n n' m m' hm hm'
    rw [c] at es
    have es := of_decide_eq_true es.symm
    rw [show Fq.rhi (Fq.wD n m) (Fq.wD n' m') = Fq.pla (Fq.wD n' m') from by simp [Fq.rhi, c]]
    by_cases c2 : Fq.wD n' m' = 9223372036854775808
    · exact ⟨false, 0, by decide, by unfold Fq.pla; rw [if_pos c2]; rfl⟩
    · exact ⟨n', m', es.2.1, by simp [Fq.pla, c2]⟩
  · exact ⟨true, 9218868437227405312, by decide, by unfold Fq.rhi; rw [if_neg c]; rfl⟩
/-- the pattern of what lies opposite, of patterns -/
def opP (x : Nat) : Nat := if x % 9223372036854775808 = 0 then 0 else if x < 9223372036854775808 then x + 9223372036854775808 else x - 9223372036854775808
theorem opP_w (n : Bool) (m : Nat) (hm : m < 9223372036854775808) : opP (Fq.wD n m) = mnP n m := by
  unfold opP mnP Fq.pla Fq.wD
  cases n <;> simp <;> repeat' split
  all_goals omega
set_option maxRecDepth 20000 in
set_option maxHeartbeats 400000 in
theorem minus6_ (n : Bool) (m : Nat) (hm : m ≤ 9218868437227405312) (w : World) : Calls Tryz.prog 39 #[.float .f64 (Fq.wD n m)] w fun e w' => e = .returned (.float .f64 (opP (Fq.wD n m))) ∧ w' = w := by
  have e1 := sub_zero_w n m hm
  rw [← opP_w n m (by omega)] at e1
  generalize Fq.wD n m = X at e1 ⊢
  generalize opP X = Z at e1 ⊢
  have g1 : ∀ w : World, (binOp .sub 26 (.float .f64 0) (.float .f64 X)).run Tryz.prog w = .ok (.float .f64 Z) w := fun w => run_float_arith w .sub 26 .f64 0 X Z e1
  clear e1 hm
  go_enter Tryz.func39, Tryz.ntmps39
  go_wp2
  exact bodyPost_ret (v := .float .f64 Z) (by simp [results, Tryz.results39, go_sem]) rfl ⟨rfl, rfl⟩
theorem Fq.H2.two0 (w : World) (a b c d : Value) (s t : TypeId) : Fq.H2 ((w.alloc (.cells #[a, b] s)).alloc (.cells #[c, d] t)) (w.heap.size + 1) c d := by
  unfold Fq.H2; simp [go_sem]
set_option maxRecDepth 20000 in
set_option maxHeartbeats 1000000 in
theorem neg6c_ (a b LO HI NL NH : Nat) (hr : ∀ w : World, Calls Tryz.prog 12 #[.agg #[.float .f64 a, .float .f64 b]] w fun e w' => e = .returned (.agg #[.float .f64 LO, .float .f64 HI]) ∧ Kp w w') (h1 : ∀ w : World, Calls Tryz.prog 39 #[.float .f64 LO] w fun e w' => e = .returned (.float .f64 NL) ∧ w' = w) (h2 : ∀ w : World, Calls Tryz.prog 39 #[.float .f64 HI] w fun e w' => e = .returned (.float .f64 NH) ∧ w' = w) (w : World) : Calls Tryz.prog 20 #[.agg #[.float .f64 a, .float .f64 b]] w fun e w' => e = .returned (.agg #[.float .f64 NH, .float .f64 NL]) ∧ Kp w w' := by
  go_enter Tryz.func20, Tryz.ntmps20
  go_wp2_with (first | (go_at_call 12; refine (hr _).mono ?_; rintro e w1 ⟨rfl, g1⟩; have q0 := Fq.H2.keep (Fq.H2.past (Fq.H2.new w (.float .f64 a) (.float .f64 b) 28) #[.float .f64 0, .float .f64 0] 28) g1; have q1 : Fq.H2 w1 (w.heap.size + 1) (.float .f64 0) (.float .f64 0) := Fq.H2.keep (Fq.H2.two0 w (.float .f64 a) (.float .f64 b) (.float .f64 0) (.float .f64 0) 28 28) g1; obtain ⟨x0, x1, x2, x3⟩ := id q0; obtain ⟨y0, y1, y2, y3⟩ := id q1))
  have kw : Kp w w1 := Kp.trans (((Kp.refl w).alloc _).alloc _) g1
  have qx := Fq.H2.put q0 (.float .f64 LO) (.float .f64 HI)
  have qy := Fq.H2.far q1 (show w.heap.size ≠ w.heap.size + 1 by omega) (.float .f64 LO) (.float .f64 HI)
  have kW : Kp w ((w1.setCell ⟨w.heap.size, 0, none⟩ (.float .f64 LO)).setCell ⟨w.heap.size, 1, none⟩ (.float .f64 HI)) := (kw.setCell (Nat.le_refl _) _).setCell (Nat.le_refl _) _
  generalize hW : (w1.setCell ⟨w.heap.size, 0, none⟩ (.float .f64 LO)).setCell ⟨w.heap.size, 1, none⟩ (.float .f64 HI) = W at qx qy kW ⊢
  clear hW kw q0 q1 g1 x0 x1 x2 x3 y0 y1 y2 y3
  obtain ⟨x0, x1, x2, x3⟩ := id qx
  obtain ⟨y0, y1, y2, y3⟩ := id qy
  go_region_held3 (fun w' => w'.cell? ⟨w.heap.size, 0, none⟩ = some (.float .f64 LO) ∧ w'.cell? ⟨w.heap.size, 1, none⟩ = some (.float .f64 HI)) (first | (exact ⟨x0, x1⟩) | (exact ⟨(World.cell?_setCell_far _ _ _ _ (by simp)).trans ((World.cell?_setCell_far _ _ _ _ (by simp)).trans x0), (World.cell?_setCell_far _ _ _ _ (by simp)).trans ((World.cell?_setCell_far _ _ _ _ (by simp)).trans x1)⟩)) (first | (go_at_call_of 39 (Value.float .f64 HI); refine (h2 _).mono ?_; rintro e w' ⟨rfl, rfl⟩) | (go_at_call_of 39 (Value.float .f64 LO); refine (h1 _).mono ?_; rintro e w' ⟨rfl, rfl⟩))
  go_wp2
  exact bodyPost_ret (v := .agg #[.float .f64 NH, .float .f64 NL]) (by simp [results, Tryz.results20, go_sem, y0, y1]) rfl ⟨rfl, (by repeat (with_reducible (first | assumption | exact Kp.refl _ | apply Kp.drew | apply Kp.alloc | apply Kp.drewN | (refine Kp.setCell ?_ (by first | omega | (simp <;> omega)) _) | (refine Kp.trans ?_ (by assumption)))))⟩
theorem neg6_ (a b : Nat) (ha : a < 18446744073709551616) (hb : b < 18446744073709551616) (w : World) : Calls Tryz.prog 20 #[.agg #[.float .f64 a, .float .f64 b]] w fun e w' => e = .returned (.agg #[.float .f64 (opP (Fq.rhi a b)), .float .f64 (opP (Fq.rlo a b))]) ∧ Kp w w' := by
  obtain ⟨n, m, hm, e1⟩ := rlo_w a b ha hb
  obtain ⟨n', m', hm', e2⟩ := rhi_w a b ha hb
  have h1 := minus6_ n m hm
  have h2 := minus6_ n' m' hm'
  rw [← e1] at h1
  rw [← e2] at h2
  exact neg6c_ a b _ _ _ _ (Fq.read_ a b ha hb) h1 h2 w

/-- three blocks of two cells, one behind the other -/
def H6 (w : World) (B : Nat) (a b c d e f : Value) : Prop := Fq.H2 w B a b ∧ Fq.H2 w (B + 1) c d ∧ Fq.H2 w (B + 2) e f
theorem H6.keep {W w : World} {B : Nat} {a b c d e f : Value} (h : H6 W B a b c d e f) (g : Kp W w) : H6 w B a b c d e f := ⟨Fq.H2.keep h.1 g, Fq.H2.keep h.2.1 g, Fq.H2.keep h.2.2 g⟩
theorem H6.new (w : World) (a b c d e f : Value) (s t u : TypeId) : H6 (((w.alloc (.cells #[a, b] s)).alloc (.cells #[c, d] t)).alloc (.cells #[e, f] u)) w.heap.size a b c d e f := by
  refine ⟨?_, ?_, ?_⟩ <;> (unfold Fq.H2; simp [go_sem])
theorem H6.put {w : World} {B : Nat} {a b c d e f : Value} (h : H6 w B a b c d e f) (a' b' c' d' : Value) : H6 ((((w.setCell ⟨B, 0, none⟩ a').setCell ⟨B, 1, none⟩ b').setCell ⟨B + 1, 0, none⟩ c').setCell ⟨B + 1, 1, none⟩ d') B a' b' c' d' e f := by
  refine ⟨?_, ?_, ?_⟩
  · exact Fq.H2.far (Fq.H2.put h.1 a' b') (by omega) c' d'
  · exact Fq.H2.put (Fq.H2.far h.2.1 (by omega) a' b') c' d'
  · exact Fq.H2.far (Fq.H2.far h.2.2 (by omega) a' b') (by omega) c' d'
set_option maxRecDepth 20000 in
set_option maxHeartbeats 2000000 in
theorem add6v1_ (a b c d L1 H1 L2 H2 : Nat) (hx : ∀ w : World, Calls Tryz.prog 12 #[.agg #[.float .f64 a, .float .f64 b]] w fun e w' => e = .returned (.agg #[.float .f64 L1, .float .f64 H1]) ∧ Kp w w') (hy : ∀ w : World, Calls Tryz.prog 12 #[.agg #[.float .f64 c, .float .f64 d]] w fun e w' => e = .returned (.agg #[.float .f64 L2, .float .f64 H2]) ∧ Kp w w') (hv1 : ∀ w : World, Calls Tryz.prog 13 #[.agg #[.float .f64 L1, .float .f64 H1]] w fun e w' => e = .returned (.bool true) ∧ Kp w w') (hE : ∀ w : World, Calls Tryz.prog 14 #[] w fun e w' => e = .returned (.agg #[.float .f64 9218868437227405312, .float .f64 18442240474082181120]) ∧ Kp w w') (w : World) : Calls Tryz.prog 6 #[.agg #[.float .f64 a, .float .f64 b], .agg #[.float .f64 c, .float .f64 d]] w fun e w' => e = .returned (.agg #[.float .f64 9218868437227405312, .float .f64 18442240474082181120]) ∧ Kp w w' := by
    go_enter Tryz.func6, Tryz.ntmps6
    go_wp2
    go_region_with (first | (go_at_call_of 12 (Value.agg #[.float .f64 a, .float .f64 b]); refine (hx _).mono ?_; rintro e wx ⟨rfl, gx⟩; first | (have kx := Kp.trans ky gx; have sx := H6.keep sy gx; obtain ⟨⟨p0, p1, p2, p3⟩, ⟨p4, p5, p6, p7⟩, ⟨p8, p9, pa, pb⟩⟩ := id sx) | (have kx : Kp w wx := Kp.trans (((((Kp.refl w).alloc _).alloc _).alloc _).drew) gx; have sx := H6.keep (H6.new w (.float .f64 a) (.float .f64 b) (.float .f64 c) (.float .f64 d) (.float .f64 0) (.float .f64 0) 28 28 28) (Kp.trans (Kp.drew (Kp.refl _)) gx); obtain ⟨⟨p0, p1, p2, p3⟩, ⟨p4, p5, p6, p7⟩, ⟨p8, p9, pa, pb⟩⟩ := id sx)) | (go_at_call_of 12 (Value.agg #[.float .f64 c, .float .f64 d]); refine (hy _).mono ?_; rintro e wy ⟨rfl, gy⟩; first | (have ky := Kp.trans kx gy; have sy := H6.keep sx gy; obtain ⟨⟨p0, p1, p2, p3⟩, ⟨p4, p5, p6, p7⟩, ⟨p8, p9, pa, pb⟩⟩ := id sy) | (have ky : Kp w wy := Kp.trans (((((Kp.refl w).alloc _).alloc _).alloc _).drew) gy; have sy := H6.keep (H6.new w (.float .f64 a) (.float .f64 b) (.float .f64 c) (.float .f64 d) (.float .f64 0) (.float .f64 0) 28 28 28) (Kp.trans (Kp.drew (Kp.refl _)) gy); obtain ⟨⟨p0, p1, p2, p3⟩, ⟨p4, p5, p6, p7⟩, ⟨p8, p9, pa, pb⟩⟩ := id sy)))
    all_goals (first
      | skip
        have sw := H6.put (id sy : H6 wy w.heap.size (.float .f64 a) (.float .f64 b) (.float .f64 c) (.float .f64 d) (.float .f64 0) (.float .f64 0)) (.float .f64 L1) (.float .f64 H1) (.float .f64 L2) (.float .f64 H2)
        have kw : Kp w ((((wy.setCell ⟨w.heap.size, 0, none⟩ (.float .f64 L1)).setCell ⟨w.heap.size, 1, none⟩ (.float .f64 H1)).setCell ⟨w.heap.size + 1, 0, none⟩ (.float .f64 L2)).setCell ⟨w.heap.size + 1, 1, none⟩ (.float .f64 H2)) := (((ky.setCell (Nat.le_refl _) _).setCell (Nat.le_refl _) _).setCell (Nat.le_succ _) _).setCell (Nat.le_succ _) _
        generalize hW : ((((wy.setCell ⟨w.heap.size, 0, none⟩ (.float .f64 L1)).setCell ⟨w.heap.size, 1, none⟩ (.float .f64 H1)).setCell ⟨w.heap.size + 1, 0, none⟩ (.float .f64 L2)).setCell ⟨w.heap.size + 1, 1, none⟩ (.float .f64 H2)) = W at sw kw ⊢
        clear hW
      | skip
        have sw := H6.put (id sx : H6 wx w.heap.size (.float .f64 a) (.float .f64 b) (.float .f64 c) (.float .f64 d) (.float .f64 0) (.float .f64 0)) (.float .f64 L1) (.float .f64 H1) (.float .f64 L2) (.float .f64 H2)
        have kw : Kp w ((((wx.setCell ⟨w.heap.size, 0, none⟩ (.float .f64 L1)).setCell ⟨w.heap.size, 1, none⟩ (.float .f64 H1)).setCell ⟨w.heap.size + 1, 0, none⟩ (.float .f64 L2)).setCell ⟨w.heap.size + 1, 1, none⟩ (.float .f64 H2)) := (((kx.setCell (Nat.le_refl _) _).setCell (Nat.le_refl _) _).setCell (Nat.le_succ _) _).setCell (Nat.le_succ _) _
        generalize hW : ((((wx.setCell ⟨w.heap.size, 0, none⟩ (.float .f64 L1)).setCell ⟨w.heap.size, 1, none⟩ (.float .f64 H1)).setCell ⟨w.heap.size + 1, 0, none⟩ (.float .f64 L2)).setCell ⟨w.heap.size + 1, 1, none⟩ (.float .f64 H2)) = W at sw kw ⊢
        clear hW)
    all_goals (
      obtain ⟨⟨p0, p1, p2, p3⟩, ⟨p4, p5, p6, p7⟩, ⟨p8, p9, pa, pb⟩⟩ := id sw
      go_wp2_with (first | (go_at_call_of 13 (Value.agg #[.float .f64 L1, .float .f64 H1]); refine (hv1 _).mono ?_; rintro e wv ⟨rfl, gv⟩; have kv := Kp.trans kw gv; have sv := H6.keep sw gv; obtain ⟨⟨u0, u1, u2, u3⟩, ⟨u4, u5, u6, u7⟩, ⟨u8, u9, ua, ub⟩⟩ := id sv) | (go_at_call 14; refine (hE _).mono ?_; rintro e we ⟨rfl, ge⟩; obtain ⟨⟨e0, e1, e2, e3⟩, ⟨e4, e5, e6, e7⟩, ⟨e8, e9, ea, eb⟩⟩ := H6.keep sv ge; have ke := Kp.trans kv ge))
      exact bodyPost_ret (v := .agg #[.float .f64 9218868437227405312, .float .f64 18442240474082181120]) (by simp [results, Tryz.results6, go_sem, e8, e9]) rfl ⟨rfl, (ke.setCell (by simp; omega) _).setCell (by simp; omega) _⟩)
set_option maxRecDepth 20000 in
set_option maxHeartbeats 2000000 in
theorem add6v2_ (a b c d L1 H1 L2 H2 : Nat) (hx : ∀ w : World, Calls Tryz.prog 12 #[.agg #[.float .f64 a, .float .f64 b]] w fun e w' => e = .returned (.agg #[.float .f64 L1, .float .f64 H1]) ∧ Kp w w') (hy : ∀ w : World, Calls Tryz.prog 12 #[.agg #[.float .f64 c, .float .f64 d]] w fun e w' => e = .returned (.agg #[.float .f64 L2, .float .f64 H2]) ∧ Kp w w') (hv1 : ∀ w : World, Calls Tryz.prog 13 #[.agg #[.float .f64 L1, .float .f64 H1]] w fun e w' => e = .returned (.bool false) ∧ Kp w w') (hv2 : ∀ w : World, Calls Tryz.prog 13 #[.agg #[.float .f64 L2, .float .f64 H2]] w fun e w' => e = .returned (.bool true) ∧ Kp w w') (hE : ∀ w : World, Calls Tryz.prog 14 #[] w fun e w' => e = .returned (.agg #[.float .f64 9218868437227405312, .float .f64 18442240474082181120]) ∧ Kp w w') (w : World) : Calls Tryz.prog 6 #[.agg #[.float .f64 a, .float .f64 b], .agg #[.float .f64 c, .float .f64 d]] w fun e w' => e = .returned (.agg #[.float .f64 9218868437227405312, .float .f64 18442240474082181120]) ∧ Kp w w' := by
    go_enter Tryz.func6, Tryz.ntmps6
    go_wp2
    go_region_with (first | (go_at_call_of 12 (Value.agg #[.float .f64 a, .float .f64 b]); refine (hx _).mono ?_; rintro e wx ⟨rfl, gx⟩; first | (have kx := Kp.trans ky gx; have sx := H6.keep sy gx; obtain ⟨⟨p0, p1, p2, p3⟩, ⟨p4, p5, p6, p7⟩, ⟨p8, p9, pa, pb⟩⟩ := id sx) | (have kx : Kp w wx := Kp.trans (((((Kp.refl w).alloc _).alloc _).alloc _).drew) gx; have sx := H6.keep (H6.new w (.float .f64 a) (.float .f64 b) (.float .f64 c) (.float .f64 d) (.float .f64 0) (.float .f64 0) 28 28 28) (Kp.trans (Kp.drew (Kp.refl _)) gx); obtain ⟨⟨p0, p1, p2, p3⟩, ⟨p4, p5, p6, p7⟩, ⟨p8, p9, pa, pb⟩⟩ := id sx)) | (go_at_call_of 12 (Value.agg #[.float .f64 c, .float .f64 d]); refine (hy _).mono ?_; rintro e wy ⟨rfl, gy⟩; first | (have ky := Kp.trans kx gy; have sy := H6.keep sx gy; obtain ⟨⟨p0, p1, p2, p3⟩, ⟨p4, p5, p6, p7⟩, ⟨p8, p9, pa, pb⟩⟩ := id sy) | (have ky : Kp w wy := Kp.trans (((((Kp.refl w).alloc _).alloc _).alloc _).drew) gy; have sy := H6.keep (H6.new w (.float .f64 a) (.float .f64 b) (.float .f64 c) (.float .f64 d) (.float .f64 0) (.float .f64 0) 28 28 28) (Kp.trans (Kp.drew (Kp.refl _)) gy); obtain ⟨⟨p0, p1, p2, p3⟩, ⟨p4, p5, p6, p7⟩, ⟨p8, p9, pa, pb⟩⟩ := id sy)))
    all_goals (first
      | skip
        have sw := H6.put (id sy : H6 wy w.heap.size (.float .f64 a) (.float .f64 b) (.float .f64 c) (.float .f64 d) (.float .f64 0) (.float .f64 0)) (.float .f64 L1) (.float .f64 H1) (.float .f64 L2) (.float .f64 H2)
        have kw : Kp w ((((wy.setCell ⟨w.heap.size, 0, none⟩ (.float .f64 L1)).setCell ⟨w.heap.size, 1, none⟩ (.float .f64 H1)).setCell ⟨w.heap.size + 1, 0, none⟩ (.float .f64 L2)).setCell ⟨w.heap.size + 1, 1, none⟩ (.float .f64 H2)) := (((ky.setCell (Nat.le_refl _) _).setCell (Nat.le_refl _) _).setCell (Nat.le_succ _) _).setCell (Nat.le_succ _) _
        generalize hW : ((((wy.setCell ⟨w.heap.size, 0, none⟩ (.float .f64 L1)).setCell ⟨w.heap.size, 1, none⟩ (.float .f64 H1)).setCell ⟨w.heap.size + 1, 0, none⟩ (.float .f64 L2)).setCell ⟨w.heap.size + 1, 1, none⟩ (.float .f64 H2)) = W at sw kw ⊢
        clear hW
      | skip
        have sw := H6.put (id sx : H6 wx w.heap.size (.float .f64 a) (.float .f64 b) (.float .f64 c) (.float .f64 d) (.float .f64 0) (.float .f64 0)) (.float .f64 L1) (.float .f64 H1) (.float .f64 L2) (.float .f64 H2)
        have kw : Kp w ((((wx.setCell ⟨w.heap.size, 0, none⟩ (.float .f64 L1)).setCell ⟨w.heap.size, 1, none⟩ (.float .f64 H1)).setCell ⟨w.heap.size + 1, 0, none⟩ (.float .f64 L2)).setCell ⟨w.heap.size + 1, 1, none⟩ (.float .f64 H2)) := (((kx.setCell (Nat.le_refl _) _).setCell (Nat.le_refl _) _).setCell (Nat.le_succ _) _).setCell (Nat.le_succ _) _
        generalize hW : ((((wx.setCell ⟨w.heap.size, 0, none⟩ (.float .f64 L1)).setCell ⟨w.heap.size, 1, none⟩ (.float .f64 H1)).setCell ⟨w.heap.size + 1, 0, none⟩ (.float .f64 L2)).setCell ⟨w.heap.size + 1, 1, none⟩ (.float .f64 H2)) = W at sw kw ⊢
        clear hW)
    all_goals (
      obtain ⟨⟨p0, p1, p2, p3⟩, ⟨p4, p5, p6, p7⟩, ⟨p8, p9, pa, pb⟩⟩ := id sw
      go_wp2_with (first | (go_at_call_of 13 (Value.agg #[.float .f64 L1, .float .f64 H1]); refine (hv1 _).mono ?_; rintro e wv ⟨rfl, gv⟩; have kv := Kp.trans kw gv; have sv := H6.keep sw gv; obtain ⟨⟨u0, u1, u2, u3⟩, ⟨u4, u5, u6, u7⟩, ⟨u8, u9, ua, ub⟩⟩ := id sv) | (go_at_call_of 13 (Value.agg #[.float .f64 L2, .float .f64 H2]); refine (hv2 _).mono ?_; rintro e wz ⟨rfl, gz⟩; have kz := Kp.trans kv gz; have sz := H6.keep sv gz; obtain ⟨⟨t0, t1, t2, t3⟩, ⟨t4, t5, t6, t7⟩, ⟨t8, t9, ta, tb⟩⟩ := id sz) | (go_at_call 14; refine (hE _).mono ?_; rintro e we ⟨rfl, ge⟩; obtain ⟨⟨e0, e1, e2, e3⟩, ⟨e4, e5, e6, e7⟩, ⟨e8, e9, ea, eb⟩⟩ := H6.keep sz ge; have ke := Kp.trans kz ge))
      exact bodyPost_ret (v := .agg #[.float .f64 9218868437227405312, .float .f64 18442240474082181120]) (by simp [results, Tryz.results6, go_sem, e8, e9]) rfl ⟨rfl, (ke.setCell (by simp; omega) _).setCell (by simp; omega) _⟩)
set_option maxRecDepth 20000 in
set_option maxHeartbeats 4000000 in
theorem add6n_ (a b c d L1 H1 L2 H2 NL NH : Nat) (hx : ∀ w : World, Calls Tryz.prog 12 #[.agg #[.float .f64 a, .float .f64 b]] w fun e w' => e = .returned (.agg #[.float .f64 L1, .float .f64 H1]) ∧ Kp w w') (hy : ∀ w : World, Calls Tryz.prog 12 #[.agg #[.float .f64 c, .float .f64 d]] w fun e w' => e = .returned (.agg #[.float .f64 L2, .float .f64 H2]) ∧ Kp w w') (hv1 : ∀ w : World, Calls Tryz.prog 13 #[.agg #[.float .f64 L1, .float .f64 H1]] w fun e w' => e = .returned (.bool false) ∧ Kp w w') (hv2 : ∀ w : World, Calls Tryz.prog 13 #[.agg #[.float .f64 L2, .float .f64 H2]] w fun e w' => e = .returned (.bool false) ∧ Kp w w') (w : World) (hA1 : ∀ W : World, Kp w W → Calls Tryz.prog 15 #[.int .i64 (-1), .float .f64 L1, .float .f64 L2] W fun e w' => e = .returned (.float .f64 NL) ∧ Kp W w') (hA2 : ∀ W : World, Kp w W → Calls Tryz.prog 15 #[.int .i64 1, .float .f64 H1, .float .f64 H2] W fun e w' => e = .returned (.float .f64 NH) ∧ Kp W w') : Calls Tryz.prog 6 #[.agg #[.float .f64 a, .float .f64 b], .agg #[.float .f64 c, .float .f64 d]] w fun e w' => e = .returned (.agg #[.float .f64 NL, .float .f64 NH]) ∧ Kp w w' := by
    go_enter Tryz.func6, Tryz.ntmps6
    go_wp2
    go_region_with (first | (go_at_call_of 12 (Value.agg #[.float .f64 a, .float .f64 b]); refine (hx _).mono ?_; rintro e wx ⟨rfl, gx⟩; first | (have kx := Kp.trans ky gx; have sx := H6.keep sy gx; obtain ⟨⟨p0, p1, p2, p3⟩, ⟨p4, p5, p6, p7⟩, ⟨p8, p9, pa, pb⟩⟩ := id sx) | (have kx : Kp w wx := Kp.trans (((((Kp.refl w).alloc _).alloc _).alloc _).drew) gx; have sx := H6.keep (H6.new w (.float .f64 a) (.float .f64 b) (.float .f64 c) (.float .f64 d) (.float .f64 0) (.float .f64 0) 28 28 28) (Kp.trans (Kp.drew (Kp.refl _)) gx); obtain ⟨⟨p0, p1, p2, p3⟩, ⟨p4, p5, p6, p7⟩, ⟨p8, p9, pa, pb⟩⟩ := id sx)) | (go_at_call_of 12 (Value.agg #[.float .f64 c, .float .f64 d]); refine (hy _).mono ?_; rintro e wy ⟨rfl, gy⟩; first | (have ky := Kp.trans kx gy; have sy := H6.keep sx gy; obtain ⟨⟨p0, p1, p2, p3⟩, ⟨p4, p5, p6, p7⟩, ⟨p8, p9, pa, pb⟩⟩ := id sy) | (have ky : Kp w wy := Kp.trans (((((Kp.refl w).alloc _).alloc _).alloc _).drew) gy; have sy := H6.keep (H6.new w (.float .f64 a) (.float .f64 b) (.float .f64 c) (.float .f64 d) (.float .f64 0) (.float .f64 0) 28 28 28) (Kp.trans (Kp.drew (Kp.refl _)) gy); obtain ⟨⟨p0, p1, p2, p3⟩, ⟨p4, p5, p6, p7⟩, ⟨p8, p9, pa, pb⟩⟩ := id sy)))
    all_goals (first
      | skip
        have sw := H6.put (id sy : H6 wy w.heap.size (.float .f64 a) (.float .f64 b) (.float .f64 c) (.float .f64 d) (.float .f64 0) (.float .f64 0)) (.float .f64 L1) (.float .f64 H1) (.float .f64 L2) (.float .f64 H2)
        have kw : Kp w ((((wy.setCell ⟨w.heap.size, 0, none⟩ (.float .f64 L1)).setCell ⟨w.heap.size, 1, none⟩ (.float .f64 H1)).setCell ⟨w.heap.size + 1, 0, none⟩ (.float .f64 L2)).setCell ⟨w.heap.size + 1, 1, none⟩ (.float .f64 H2)) := (((ky.setCell (Nat.le_refl _) _).setCell (Nat.le_refl _) _).setCell (Nat.le_succ _) _).setCell (Nat.le_succ _) _
        generalize hW : ((((wy.setCell ⟨w.heap.size, 0, none⟩ (.float .f64 L1)).setCell ⟨w.heap.size, 1, none⟩ (.float .f64 H1)).setCell ⟨w.heap.size + 1, 0, none⟩ (.float .f64 L2)).setCell ⟨w.heap.size + 1, 1, none⟩ (.float .f64 H2)) = W at sw kw ⊢
        clear hW
      | skip
        have sw := H6.put (id sx : H6 wx w.heap.size (.float .f64 a) (.float .f64 b) (.float .f64 c) (.float .f64 d) (.float .f64 0) (.float .f64 0)) (.float .f64 L1) (.float .f64 H1) (.float .f64 L2) (.float .f64 H2)
        have kw : Kp w ((((wx.setCell ⟨w.heap.size, 0, none⟩ (.float .f64 L1)).setCell ⟨w.heap.size, 1, none⟩ (.float .f64 H1)).setCell ⟨w.heap.size + 1, 0, none⟩ (.float .f64 L2)).setCell ⟨w.heap.size + 1, 1, none⟩ (.float .f64 H2)) := (((kx.setCell (Nat.le_refl _) _).setCell (Nat.le_refl _) _).setCell (Nat.le_succ _) _).setCell (Nat.le_succ _) _
        generalize hW : ((((wx.setCell ⟨w.heap.size, 0, none⟩ (.float .f64 L1)).setCell ⟨w.heap.size, 1, none⟩ (.float .f64 H1)).setCell ⟨w.heap.size + 1, 0, none⟩ (.float .f64 L2)).setCell ⟨w.heap.size + 1, 1, none⟩ (.float .f64 H2)) = W at sw kw ⊢
        clear hW)
    all_goals (
      obtain ⟨⟨p0, p1, p2, p3⟩, ⟨p4, p5, p6, p7⟩, ⟨p8, p9, pa, pb⟩⟩ := id sw
      go_wp2_with (first | (go_at_call_of 13 (Value.agg #[.float .f64 L1, .float .f64 H1]); refine (hv1 _).mono ?_; rintro e wv ⟨rfl, gv⟩; have kv := Kp.trans kw gv; have sv := H6.keep sw gv; obtain ⟨⟨u0, u1, u2, u3⟩, ⟨u4, u5, u6, u7⟩, ⟨u8, u9, ua, ub⟩⟩ := id sv) | (go_at_call_of 13 (Value.agg #[.float .f64 L2, .float .f64 H2]); refine (hv2 _).mono ?_; rintro e wz ⟨rfl, gz⟩; have kz := Kp.trans kv gz; have sz := H6.keep sv gz; obtain ⟨⟨t0, t1, t2, t3⟩, ⟨t4, t5, t6, t7⟩, ⟨t8, t9, ta, tb⟩⟩ := id sz))
      go_region_held3 (fun w' => w'.cell? ⟨w.heap.size, 0, none⟩ = some (.float .f64 L1) ∧ w'.cell? ⟨w.heap.size, 1, none⟩ = some (.float .f64 H1) ∧ w'.cell? ⟨w.heap.size + 1, 0, none⟩ = some (.float .f64 L2) ∧ w'.cell? ⟨w.heap.size + 1, 1, none⟩ = some (.float .f64 H2)) (first | (exact ⟨sz.1.1, sz.1.2.1, sz.2.1.1, sz.2.1.2.1⟩) | (exact ⟨sA.1.1, sA.1.2.1, sA.2.1.1, sA.2.1.2.1⟩) | (exact ⟨sC.1.1, sC.1.2.1, sC.2.1.1, sC.2.1.2.1⟩) | (exact ⟨(World.cell?_setCell_far _ _ _ _ (by simp <;> omega)).trans ((World.cell?_setCell_far _ _ _ _ (by simp <;> omega)).trans sA.1.1), (World.cell?_setCell_far _ _ _ _ (by simp <;> omega)).trans ((World.cell?_setCell_far _ _ _ _ (by simp <;> omega)).trans sA.1.2.1), (World.cell?_setCell_far _ _ _ _ (by simp <;> omega)).trans ((World.cell?_setCell_far _ _ _ _ (by simp <;> omega)).trans sA.2.1.1), (World.cell?_setCell_far _ _ _ _ (by simp <;> omega)).trans ((World.cell?_setCell_far _ _ _ _ (by simp <;> omega)).trans sA.2.1.2.1)⟩) | (exact ⟨(World.cell?_setCell_far _ _ _ _ (by simp <;> omega)).trans ((World.cell?_setCell_far _ _ _ _ (by simp <;> omega)).trans sC.1.1), (World.cell?_setCell_far _ _ _ _ (by simp <;> omega)).trans ((World.cell?_setCell_far _ _ _ _ (by simp <;> omega)).trans sC.1.2.1), (World.cell?_setCell_far _ _ _ _ (by simp <;> omega)).trans ((World.cell?_setCell_far _ _ _ _ (by simp <;> omega)).trans sC.2.1.1), (World.cell?_setCell_far _ _ _ _ (by simp <;> omega)).trans ((World.cell?_setCell_far _ _ _ _ (by simp <;> omega)).trans sC.2.1.2.1)⟩)) (first | (go_at_call_of 15 (Value.float .f64 L1); first | (refine (hA1 _ (Kp.trans kC (Kp.refl _))).mono ?_; rintro e wA ⟨rfl, gA⟩; have kA := Kp.trans kC gA; have sA := H6.keep sC gA; obtain ⟨⟨r0, r1, r2, r3⟩, ⟨r4, r5, r6, r7⟩, ⟨r8, r9, ra, rb⟩⟩ := id sA) | (refine (hA1 _ (Kp.drew kz)).mono ?_; rintro e wA ⟨rfl, gA⟩; have kA := Kp.trans (Kp.drew kz) gA; have sA := H6.keep sz (Kp.trans (Kp.drew (Kp.refl _)) gA); obtain ⟨⟨r0, r1, r2, r3⟩, ⟨r4, r5, r6, r7⟩, ⟨r8, r9, ra, rb⟩⟩ := id sA)) | (go_at_call_of 15 (Value.float .f64 H1); first | (refine (hA2 _ (Kp.trans kA (Kp.refl _))).mono ?_; rintro e wC ⟨rfl, gC⟩; have kC := Kp.trans kA gC; have sC := H6.keep sA gC; obtain ⟨⟨r0, r1, r2, r3⟩, ⟨r4, r5, r6, r7⟩, ⟨r8, r9, ra, rb⟩⟩ := id sC) | (refine (hA2 _ (Kp.drew kz)).mono ?_; rintro e wC ⟨rfl, gC⟩; have kC := Kp.trans (Kp.drew kz) gC; have sC := H6.keep sz (Kp.trans (Kp.drew (Kp.refl _)) gC); obtain ⟨⟨r0, r1, r2, r3⟩, ⟨r4, r5, r6, r7⟩, ⟨r8, r9, ra, rb⟩⟩ := id sC)))
      all_goals go_wp2
      all_goals first
        | exact bodyPost_ret (v := .agg #[.float .f64 NL, .float .f64 NH]) (by simp [results, Tryz.results6, go_sem, r8, r9]) rfl ⟨rfl, (kA.setCell (by simp; omega) _).setCell (by simp; omega) _⟩
        | exact bodyPost_ret (v := .agg #[.float .f64 NL, .float .f64 NH]) (by simp [results, Tryz.results6, go_sem, r8, r9]) rfl ⟨rfl, (kC.setCell (by simp; omega) _).setCell (by simp; omega) _⟩)
end Go.Proofs.YtejklhnhggaolaaGreatDoor
