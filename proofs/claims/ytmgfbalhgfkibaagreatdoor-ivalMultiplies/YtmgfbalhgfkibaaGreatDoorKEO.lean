import Derived.Test.YtmgfbalhgfkibaaGreatDoorKEH
import Derived.Test.YtmgfbalhgfkibaaGreatDoorKXMS
namespace Go.Proofs.YtmgfbalhgfkibaaGreatDoor
open Go.RowKit
namespace Fq
set_option maxRecDepth 20000 in
set_option maxHeartbeats 1000000 in
theorem out_ (a b : Nat) (w : World) : Calls Tryz.prog 4 #[.agg #[.float .f64 a, .float .f64 b]] w fun e w' => e = .returned (.agg #[.int .u64 (((a) : Nat) : Int), .int .u64 (((b) : Nat) : Int)]) ∧ Grown w w' := by
  have h1 := fb64 a
  have h2 := fb64 b
  generalize (a : Int) = X at h1 ⊢
  generalize (b : Int) = Y at h2 ⊢
  go_enter Tryz.func4, Tryz.ntmps4
  go_wp2
  go_region_held3 (fun w' => w'.cell? ⟨w.heap.size, 0, none⟩ = some (.float .f64 a) ∧ w'.cell? ⟨w.heap.size, 1, none⟩ = some (.float .f64 b)) (simp [go_sem, World.cell?_alloc_past]) (fail)
  go_wp2
  exact bodyPost_ret (v := .agg #[.int .u64 X, .int .u64 Y]) (by simp [results, Tryz.results4, go_sem] <;> simp only [*]) rfl ⟨rfl, (by repeat (with_reducible (first | assumption | exact Grown.refl _ | apply Grown.drew | apply Grown.alloc | apply gdrewN | (refine Grown.setCell ?_ (by simp <;> omega) _) | (refine gtrans ?_ (by assumption)))))⟩
set_option maxRecDepth 20000 in
set_option maxHeartbeats 1000000 in
theorem in_ (a b : Nat) (w : World) : Calls Tryz.prog 6 #[.agg #[.int .u64 (((a) : Nat) : Int), .int .u64 (((b) : Nat) : Int)]] w fun e w' => e = .returned (.agg #[.float .f64 a, .float .f64 b]) ∧ Grown w w' := by
  have h1 := ff64 a
  have h2 := ff64 b
  generalize (a : Int) = X at h1 ⊢
  generalize (b : Int) = Y at h2 ⊢
  go_enter Tryz.func6, Tryz.ntmps6
  go_wp2
  go_region_held3 (fun w' => w'.cell? ⟨w.heap.size, 0, none⟩ = some (.int .u64 X) ∧ w'.cell? ⟨w.heap.size, 1, none⟩ = some (.int .u64 Y)) (simp [go_sem]) (fail)
  go_wp2
  exact bodyPost_ret (v := .agg #[.float .f64 a, .float .f64 b]) (by simp [results, Tryz.results6, go_sem] <;> simp only [*]) rfl ⟨rfl, (by repeat (with_reducible (first | assumption | exact Grown.refl _ | apply Grown.drew | apply Grown.alloc | apply gdrewN | (refine Grown.setCell ?_ (by simp <;> omega) _) | (refine gtrans ?_ (by assumption)))))⟩
end Fq
theorem rU_vV (d : Int) (m : Nat) (hm : m < 9218868437227405312) : rU d 53 (Fq.vV Ieee.double m) 1 = Fq.vV Ieee.double m := by
  obtain ⟨E, hE⟩ : ∃ E, E = Fq.eE Ieee.double m := ⟨_, rfl⟩
  obtain ⟨M, hM⟩ : ∃ M, M = Fq.mM Ieee.double m := ⟨_, rfl⟩
  have hV : Fq.vV Ieee.double m = M * 2 ^ E := by rw [hM, hE]; rfl
  have hMb : M < 9007199254740992 ∧ (E = 0 ∨ 4503599627370496 ≤ M) := by
    rw [hM, hE]; unfold Fq.mM Fq.eE; rw [Fq.binD]
    by_cases c : m < 4503599627370496
    · rw [if_pos c, if_pos c]; exact ⟨by omega, .inl rfl⟩
    · rw [if_neg c, if_neg c]
      have := Nat.mod_lt m (show 0 < 4503599627370496 by decide)
      exact ⟨by omega, .inr (by omega)⟩
  rw [hV]
  clear hV hM hE
  have p0 : 0 < 2 ^ E := Nat.two_pow_pos E
  have hr : rE 53 (M * 2 ^ E) 1 = E := by
    refine rE_uniq 53 (M * 2 ^ E) 1 E (by decide) (by decide) ?_ ?_
    · rw [Nat.one_mul, Nat.pow_add, Nat.mul_comm]
      exact Nat.mul_lt_mul_of_pos_left (by rw [show (2 : Nat) ^ 53 = 9007199254740992 from by decide]; exact hMb.1) p0
    · rcases hMb.2 with h | h
      · exact .inl h
      · refine .inr ?_
        rw [Nat.one_mul, show E + 53 - 1 = 52 + E from by omega, Nat.pow_add, show (2 : Nat) ^ 52 = 4503599627370496 from by decide]
        exact Nat.mul_le_mul_right _ h
  unfold rU rS rR
  rw [hr, Nat.one_mul, Nat.mul_div_cancel _ p0, Nat.mul_mod_left, upw_none _ _ _ p0]
  simp
theorem fin_vV (d : Int) (m : Nat) (hm : m < 9218868437227405312) : finU 53 2098 9218868437227405311 9218868437227405312 d (Fq.vV Ieee.double m) = m := by
  have h1 := rU_vV d m hm
  have h2 := vV_rung (Fq.vV Ieee.double m) d
  rw [h1] at h2
  have h3 : rgU 53 (Fq.vV Ieee.double m) = m := (Fq.vV_inj _ _ _).1 h2
  obtain ⟨K, hK⟩ : ∃ K : Nat, K = 2098 := ⟨_, rfl⟩
  have hb : Fq.vV Ieee.double m < 2 ^ K := by
    unfold Fq.vV Fq.mM Fq.eE; rw [Fq.binD]
    have hp : ∀ a e : Nat, a < 9007199254740992 → e ≤ 2045 → a * 2 ^ e < 2 ^ K := fun a e ha he => by
      have g : a * 2 ^ e < 2 ^ 53 * 2 ^ e := Nat.mul_lt_mul_of_pos_right (by rw [show (2 : Nat) ^ 53 = 9007199254740992 from by decide]; exact ha) (Nat.two_pow_pos e)
      rw [← Nat.pow_add] at g
      exact Nat.lt_of_lt_of_le g (Nat.pow_le_pow_right (by decide) (by omega))
    by_cases c : m < 4503599627370496
    · rw [if_pos c, if_pos c]; exact hp _ _ (by omega) (by omega)
    · rw [if_neg c, if_neg c]
      have := Nat.mod_lt m (show 0 < 4503599627370496 by decide)
      exact hp _ _ (by omega) (by omega)
  have hbl : blen (Fq.vV Ieee.double m) ≤ 2098 := by rw [← hK]; exact (blen_le_iff _ _).2 hb
  unfold finU
  rw [if_pos hbl, h3]
theorem vV_zero_iff (m : Nat) : Fq.vV Ieee.double m = 0 ↔ m = 0 := by
  have h := Fq.vV_inj Ieee.double m 0
  rw [Fq.vV_zero] at h
  exact h
theorem sumW_exact (d : Int) (n : Bool) (m : Nat) (hm : m < 9218868437227405312) : sumW d (Iv n m) = Fq.pla (Fq.wD n m) := by
  unfold sumW
  by_cases c : m = 0
  · have h0 : Iv n m = 0 := by unfold Iv; rw [c, Fq.vV_zero]; cases n <;> rfl
    rw [if_pos h0, c]; unfold Fq.pla Fq.wD; cases n <;> rfl
  · have hv : Fq.vV Ieee.double m ≠ 0 := fun h => c ((vV_zero_iff m).1 h)
    have h0 : Iv n m ≠ 0 := by unfold Iv; cases n <;> simp <;> omega
    have h1 : decide (Iv n m < 0) = n := by unfold Iv; cases n <;> simp <;> omega
    have h2 : (Iv n m).natAbs = Fq.vV Ieee.double m := by unfold Iv; cases n <;> simp
    rw [if_neg h0, h1, h2, rU_vV _ m hm, fin_vV _ m hm]
    unfold mdW Fq.pla Fq.wD
    rw [if_neg c]
    cases n <;> simp <;> omega
def mnP (n : Bool) (m : Nat) : Nat := Fq.pla (Fq.wD (!n) m)
theorem sub_zero_w (n : Bool) (m : Nat) (hm : m ≤ 9218868437227405312) : FloatKind.f64.format.sub 0 (Fq.wD n m) = some (mnP n m) := by
  by_cases c : m = 9218868437227405312
  · rw [c]; cases n <;> decide +kernel
  · have h := sub_w false n 0 m (by decide) (by omega) (Iv (!n) m) (by unfold Iv; rw [Fq.vV_zero]; cases n <;> simp)
    rw [show Fq.wD false 0 = 0 from rfl] at h
    rw [h]
    have e := sumW_exact 0 (!n) m (by omega)
    unfold mnP
    by_cases z : m = 0
    · have h0 : Iv (!n) m = 0 := by unfold Iv; rw [z, Fq.vV_zero]; cases n <;> rfl
      rw [if_pos h0, h0, z]
      have g := rU_vV 0 0 (by decide)
      have g2 := fin_vV 0 0 (by decide)
      rw [Fq.vV_zero] at g g2
      rw [show (0 : Int).natAbs = 0 from rfl, g, g2]
      cases n <;> rfl
    · have hv : Fq.vV Ieee.double m ≠ 0 := fun h => z ((vV_zero_iff m).1 h)
      have h0 : Iv (!n) m ≠ 0 := by unfold Iv; cases n <;> simp <;> omega
      have h1 : decide (Iv (!n) m < 0) = !n := by unfold Iv; cases n <;> simp <;> omega
      have h2 : (Iv (!n) m).natAbs = Fq.vV Ieee.double m := by unfold Iv; cases n <;> simp
      rw [if_neg h0, h1, h2, rU_vV _ m (by omega), fin_vV _ m (by omega)]
      congr 1
      unfold Fq.pla Fq.wD
      cases n <;> simp <;> omega

theorem rlo_w (a b : Nat) (ha : a < 18446744073709551616) (hb : b < 18446744073709551616) : ∃ n m, m ≤ 9218868437227405312 ∧ Fq.rlo a b = Fq.wD n m := by
  obtain ⟨n, m, hm, rfl⟩ := Fq.exD a ha
  obtain ⟨n', m', hm', rfl⟩ := Fq.exD b hb
  by_cases c : Fq.snd (Fq.wD n m) (Fq.wD n' m') = true
  · have es := Fq.snd_w n n' m m' hm hm'
    rw [c] at es
    have es := of_decide_eq_true es.symm
    rw [show Fq.rlo (Fq.wD n m) (Fq.wD n' m') = Fq.pla (Fq.wD n m) from by simp [Fq.rlo, c]]
    by_cases c2 : Fq.wD n m = 9223372036854775808
    · exact ⟨false, 0, by decide, by unfold Fq.pla; rw [if_pos c2]; rfl⟩
    · exact ⟨n, m, es.1, by simp [Fq.pla, c2]⟩
  · exact ⟨false, 9218868437227405312, by decide, by unfold Fq.rlo; rw [if_neg c]; rfl⟩
theorem rhi_w (a b : Nat) (ha : a < 18446744073709551616) (hb : b < 18446744073709551616) : ∃ n m, m ≤ 9218868437227405312 ∧ Fq.rhi a b = Fq.wD n m := by
  obtain ⟨n, m, hm, rfl⟩ := Fq.exD a ha
  obtain ⟨n', m', hm', rfl⟩ := Fq.exD b hb
  by_cases c : Fq.snd (Fq.wD n m) (Fq.wD n' m') = true
  · have es := Fq.snd_w n n' m m' hm hm'
    rw [c] at es
    have es := of_decide_eq_true es.symm
    rw [show Fq.rhi (Fq.wD n m) (Fq.wD n' m') = Fq.pla (Fq.wD n' m') from by simp [Fq.rhi, c]]
    by_cases c2 : Fq.wD n' m' = 9223372036854775808
    · exact ⟨false, 0, by decide, by unfold Fq.pla; rw [if_pos c2]; rfl⟩
    · exact ⟨n', m', es.2.1, by simp [Fq.pla, c2]⟩
  · exact ⟨true, 9218868437227405312, by decide, by unfold Fq.rhi; rw [if_neg c]; rfl⟩
def opP (x : Nat) : Nat := if x % 9223372036854775808 = 0 then 0 else if x < 9223372036854775808 then x + 9223372036854775808 else x - 9223372036854775808
theorem opP_w (n : Bool) (m : Nat) (hm : m < 9223372036854775808) : opP (Fq.wD n m) = mnP n m := by
  unfold opP mnP Fq.pla Fq.wD
  cases n <;> simp <;> repeat' split
  all_goals omega
set_option maxRecDepth 20000 in
set_option maxHeartbeats 400000 in
theorem minus6_ (n : Bool) (m : Nat) (hm : m ≤ 9218868437227405312) (w : World) : Calls Tryz.prog 21 #[.float .f64 (Fq.wD n m)] w fun e w' => e = .returned (.float .f64 (opP (Fq.wD n m))) ∧ w' = w := by
  have e1 := sub_zero_w n m hm
  rw [← opP_w n m (by omega)] at e1
  generalize Fq.wD n m = X at e1 ⊢
  generalize opP X = Z at e1 ⊢
  have g1 : ∀ w : World, (binOp .sub 26 (.float .f64 0) (.float .f64 X)).run Tryz.prog w = .ok (.float .f64 Z) w := fun w => run_float_arith w .sub 26 .f64 0 X Z e1
  clear e1 hm
  go_enter Tryz.func21, Tryz.ntmps21
  go_wp2
  exact bodyPost_ret (v := .float .f64 Z) (by simp [results, Tryz.results21, go_sem]) rfl ⟨rfl, rfl⟩
theorem Fq.H2.two0 (w : World) (a b c d : Value) (s t : TypeId) : Fq.H2 ((w.alloc (.cells #[a, b] s)).alloc (.cells #[c, d] t)) (w.heap.size + 1) c d := by
  unfold Fq.H2; simp [go_sem]
set_option maxRecDepth 20000 in
set_option maxHeartbeats 1000000 in
theorem neg6c_ (a b LO HI NL NH : Nat) (hr : ∀ w : World, Calls Tryz.prog 9 #[.agg #[.float .f64 a, .float .f64 b]] w fun e w' => e = .returned (.agg #[.float .f64 LO, .float .f64 HI]) ∧ Kp w w') (h1 : ∀ w : World, Calls Tryz.prog 21 #[.float .f64 LO] w fun e w' => e = .returned (.float .f64 NL) ∧ w' = w) (h2 : ∀ w : World, Calls Tryz.prog 21 #[.float .f64 HI] w fun e w' => e = .returned (.float .f64 NH) ∧ w' = w) (w : World) : Calls Tryz.prog 22 #[.agg #[.float .f64 a, .float .f64 b]] w fun e w' => e = .returned (.agg #[.float .f64 NH, .float .f64 NL]) ∧ Kp w w' := by
  go_enter Tryz.func22, Tryz.ntmps22
  go_wp2_with (first | (go_at_call 9; refine (hr _).mono ?_; rintro e w1 ⟨rfl, g1⟩; have q0 := Fq.H2.keep (Fq.H2.past (Fq.H2.new w (.float .f64 a) (.float .f64 b) 28) #[.float .f64 0, .float .f64 0] 28) g1; have q1 : Fq.H2 w1 (w.heap.size + 1) (.float .f64 0) (.float .f64 0) := Fq.H2.keep (Fq.H2.two0 w (.float .f64 a) (.float .f64 b) (.float .f64 0) (.float .f64 0) 28 28) g1; obtain ⟨x0, x1, x2, x3⟩ := id q0; obtain ⟨y0, y1, y2, y3⟩ := id q1))
  have kw : Kp w w1 := Kp.trans (((Kp.refl w).alloc _).alloc _) g1
  have qx := Fq.H2.put q0 (.float .f64 LO) (.float .f64 HI)
  have qy := Fq.H2.far q1 (show w.heap.size ≠ w.heap.size + 1 by omega) (.float .f64 LO) (.float .f64 HI)
  have kW : Kp w ((w1.setCell ⟨w.heap.size, 0, none⟩ (.float .f64 LO)).setCell ⟨w.heap.size, 1, none⟩ (.float .f64 HI)) := (kw.setCell (Nat.le_refl _) _).setCell (Nat.le_refl _) _
  generalize hW : (w1.setCell ⟨w.heap.size, 0, none⟩ (.float .f64 LO)).setCell ⟨w.heap.size, 1, none⟩ (.float .f64 HI) = W at qx qy kW ⊢
  clear hW kw q0 q1 g1 x0 x1 x2 x3 y0 y1 y2 y3
  obtain ⟨x0, x1, x2, x3⟩ := id qx
  obtain ⟨y0, y1, y2, y3⟩ := id qy
  go_region_held3 (fun w' => w'.cell? ⟨w.heap.size, 0, none⟩ = some (.float .f64 LO) ∧ w'.cell? ⟨w.heap.size, 1, none⟩ = some (.float .f64 HI)) (first | (exact ⟨x0, x1⟩) | (exact ⟨(World.cell?_setCell_far _ _ _ _ (by simp)).trans ((World.cell?_setCell_far _ _ _ _ (by simp)).trans x0), (World.cell?_setCell_far _ _ _ _ (by simp)).trans ((World.cell?_setCell_far _ _ _ _ (by simp)).trans x1)⟩)) (first | (go_at_call_of 21 (Value.float .f64 HI); refine (h2 _).mono ?_; rintro e w' ⟨rfl, rfl⟩) | (go_at_call_of 21 (Value.float .f64 LO); refine (h1 _).mono ?_; rintro e w' ⟨rfl, rfl⟩))
  go_wp2
  exact bodyPost_ret (v := .agg #[.float .f64 NH, .float .f64 NL]) (by simp [results, Tryz.results22, go_sem, y0, y1]) rfl ⟨rfl, (by repeat (with_reducible (first | assumption | exact Kp.refl _ | apply Kp.drew | apply Kp.alloc | apply Kp.drewN | (refine Kp.setCell ?_ (by first | omega | (simp <;> omega)) _) | (refine Kp.trans ?_ (by assumption)))))⟩
end Go.Proofs.YtmgfbalhgfkibaaGreatDoor
