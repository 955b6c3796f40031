import Derived.Test.YtdoggmkkegoldaaGreatDoorKXM
import Derived.Test.YtdoggmkkegoldaaGreatDoorKXY
import Derived.Test.YtdoggmkkegoldaaGreatDoorKXMR
import Derived.Test.YtdoggmkkegoldaaGreatDoorKXMQ
import Derived.Test.YtdoggmkkegoldaaGreatDoorKXMS
import Derived.Test.YtdoggmkkegoldaaGreatDoorKXQF
import Derived.Test.YtdoggmkkegoldaaGreatDoorKXO
import Derived.Test.YtdoggmkkegoldaaGreatDoorKXO3
import Derived.Test.YtdoggmkkegoldaaGreatDoorKXEA
import Derived.Test.YtdoggmkkegoldaaGreatDoorProg
import Derived.Test.YtdoggmkkegoldaaGreatDoorKXA0
import Derived.Test.YtdoggmkkegoldaaGreatDoorKQA
import Derived.Test.YtdoggmkkegoldaaGreatDoorKQP
import Derived.Test.YtdoggmkkegoldaaGreatDoorKXQU
import Derived.Test.YtdoggmkkegoldaaGreatDoorKQB
import Derived.Test.YtdoggmkkegoldaaGreatDoorKQBT
import Derived.Test.YtdoggmkkegoldaaGreatDoorKQJd
import Derived.Test.YtdoggmkkegoldaaGreatDoorKXS2
import Derived.Test.YtdoggmkkegoldaaGreatDoorKHB
import Derived.Test.YtdoggmkkegoldaaGreatDoorKLX
import Derived.Test.YtdoggmkkegoldaaGreatDoorKXG1
import Derived.Test.YtdoggmkkegoldaaGreatDoorKXH2Q
import Derived.Test.YtdoggmkkegoldaaGreatDoorKNSm
import Derived.Test.YtdoggmkkegoldaaGreatDoorKXU1
import Derived.Test.YtdoggmkkegoldaaGreatDoorKXVD
import Derived.Test.YtdoggmkkegoldaaGreatDoorKH3DQ
import Derived.Test.YtdoggmkkegoldaaGreatDoorKLN
import Derived.Test.YtdoggmkkegoldaaGreatDoorKXT
import Derived.Test.YtdoggmkkegoldaaGreatDoorKXRT
import Derived.Test.YtdoggmkkegoldaaGreatDoorKXRL
import Derived.Test.YtdoggmkkegoldaaGreatDoorKXCO
import Derived.Test.YtdoggmkkegoldaaGreatDoorKXRN
import Derived.Test.YtdoggmkkegoldaaGreatDoorKW4
import Derived.Test.YtdoggmkkegoldaaGreatDoorKBY
import Derived.Test.YtdoggmkkegoldaaGreatDoorKXBW
import Derived.Test.YtdoggmkkegoldaaGreatDoorKXTZ
import Derived.Test.YtdoggmkkegoldaaGreatDoorKXG4
import Derived.Test.YtdoggmkkegoldaaGreatDoorKXVG
import Derived.RowKit
import Derived.Laws.FloatArith
import Derived.WalkKit
import Derived.ProofKit
import Derived.RowKit3
import Derived.WalkSpells
import Derived.StillTactics
import Derived.Deep.QuietTactic
import Derived.BigQuiet
import Derived.Below
import Derived.Deep.OwnRows
import Derived.OwnWalk
import Derived.Laws.BitsAllLaws
import Derived.Laws.Slices
import Derived.Laws.Bits64b
import Derived.Deep.RegionHeld3
namespace Go.Proofs.YtdoggmkkegoldaaGreatDoor
open Go.RowKit
theorem rU_vV (d : Int) (m : Nat) (hm : m < 9218868437227405312) : rU d 53 (Fq.vV Ieee.double m) 1 = Fq.vV Ieee.double m := by
  obtain ⟨E, hE⟩ : ∃ E, E = Fq.eE Ieee.double m := ⟨_, rfl⟩
  obtain ⟨M, hM⟩ : ∃ M, M = Fq.mM Ieee.double m := ⟨_, rfl⟩
  have hV : Fq.vV Ieee.double m = M * 2 ^ E := by rw [hM, hE]; rfl
  have hMb : M < 9007199254740992 ∧ (E = 0 ∨ 4503599627370496 ≤ M) := by
    rw [hM, hE]; unfold Fq.mM Fq.eE; rw [Fq.binD]
    by_cases c : m < 4503599627370496
    · rw [if_pos c, if_pos c]; exact ⟨by omega, .inl rfl⟩
    · rw [if_neg c, if_neg c]
      have := Nat.mod_lt m (show 0 < 4503599627370496 by decide)
      exact ⟨by omega, .inr (by omega)⟩
  rw [hV]
  clear hV hM hE
  have p0 : 0 < 2 ^ E := Nat.two_pow_pos E
  have hr : rE 53 (M * 2 ^ E) 1 = E := by
    refine rE_uniq 53 (M * 2 ^ E) 1 E (by decide) (by decide) ?_ ?_
    · rw [Nat.one_mul, Nat.pow_add, Nat.mul_comm]
      exact Nat.mul_lt_mul_of_pos_left (by rw [show (2 : Nat) ^ 53 = 9007199254740992 from by decide]; exact hMb.1) p0
    · rcases hMb.2 with h | h
      · exact .inl h
      · refine .inr ?_
        rw [Nat.one_mul, show E + 53 - 1 = 52 + E from by omega, Nat.pow_add, show (2 : Nat) ^ 52 = 4503599627370496 from by decide]
        exact Nat.mul_le_mul_right _ h
  unfold rU rS rR
  rw [hr, Nat.one_mul, Nat.mul_div_cancel _ p0, Nat.mul_mod_left, upw_none _ _ _ p0]
  simp
theorem fin_vV (d : Int) (m : Nat) (hm : m < 9218868437227405312) : finU 53 2098 9218868437227405311 9218868437227405312 d (Fq.vV Ieee.double m) = m := by
  have h1 := rU_vV d m hm
  have h2 := vV_rung (Fq.vV Ieee.double m) d
  rw [h1] at h2
  have h3 : rgU 53 (Fq.vV Ieee.double m) = m := (Fq.vV_inj _ _ _).1 h2
  obtain ⟨K, hK⟩ : ∃ K : Nat, K = 2098 := ⟨_, rfl⟩
  have hb : Fq.vV Ieee.double m < 2 ^ K := by
    unfold Fq.vV Fq.mM Fq.eE; rw [Fq.binD]
    have hp : ∀ a e : Nat, a < 9007199254740992 → e ≤ 2045 → a * 2 ^ e < 2 ^ K := fun a e ha he => by
      have g : a * 2 ^ e < 2 ^ 53 * 2 ^ e := Nat.mul_lt_mul_of_pos_right (by rw [show (2 : Nat) ^ 53 = 9007199254740992 from by decide]; exact ha) (Nat.two_pow_pos e)
      rw [← Nat.pow_add] at g
      exact Nat.lt_of_lt_of_le g (Nat.pow_le_pow_right (by decide) (by omega))
    by_cases c : m < 4503599627370496
    · rw [if_pos c, if_pos c]; exact hp _ _ (by omega) (by omega)
    · rw [if_neg c, if_neg c]
      have := Nat.mod_lt m (show 0 < 4503599627370496 by decide)
      exact hp _ _ (by omega) (by omega)
  have hbl : blen (Fq.vV Ieee.double m) ≤ 2098 := by rw [← hK]; exact (blen_le_iff _ _).2 hb
  unfold finU
  rw [if_pos hbl, h3]
theorem vV_zero_iff (m : Nat) : Fq.vV Ieee.double m = 0 ↔ m = 0 := by
  have h := Fq.vV_inj Ieee.double m 0
  rw [Fq.vV_zero] at h
  exact h
theorem sumW_exact (d : Int) (n : Bool) (m : Nat) (hm : m < 9218868437227405312) : sumW d (Iv n m) = Fq.pla (Fq.wD n m) := by
  unfold sumW
  by_cases c : m = 0
  · have h0 : Iv n m = 0 := by unfold Iv; rw [c, Fq.vV_zero]; cases n <;> rfl
    rw [if_pos h0, c]; unfold Fq.pla Fq.wD; cases n <;> rfl
  · have hv : Fq.vV Ieee.double m ≠ 0 := fun h => c ((vV_zero_iff m).1 h)
    have h0 : Iv n m ≠ 0 := by unfold Iv; cases n <;> simp <;> omega
    have h1 : decide (Iv n m < 0) = n := by unfold Iv; cases n <;> simp <;> omega
    have h2 : (Iv n m).natAbs = Fq.vV Ieee.double m := by unfold Iv; cases n <;> simp
    rw [if_neg h0, h1, h2, rU_vV _ m hm, fin_vV _ m hm]
    unfold mdW Fq.pla Fq.wD
    rw [if_neg c]
    cases n <;> simp <;> omega
/-- the pattern of what lies opposite -/
def mnP (n : Bool) (m : Nat) : Nat := Fq.pla (Fq.wD (!n) m)
theorem sub_zero_w (n : Bool) (m : Nat) (hm : m ≤ 9218868437227405312) : FloatKind.f64.format.sub 0 (Fq.wD n m) = some (mnP n m) := by
  by_cases c : m = 9218868437227405312
  · rw [c]; cases n <;> decide +kernel
  · have h := sub_w false n 0 m (by decide) (by omega) (Iv (!n) m) (by unfold Iv; rw [Fq.vV_zero]; cases n <;> simp)
    rw [show Fq.wD false 0 = 0 from rfl] at h
    rw [h]
    have e := sumW_exact 0 (!n) m (by omega)
    unfold mnP
    by_cases z : m = 0
    · have h0 : Iv (!n) m = 0 := by unfold Iv; rw [z, Fq.vV_zero]; cases n <;> rfl
      rw [if_pos h0, h0, z]
      have g := rU_vV 0 0 (by decide)
      have g2 := fin_vV 0 0 (by decide)
      rw [Fq.vV_zero] at g g2
      rw [show (0 : Int).natAbs = 0 from rfl, g, g2]
      cases n <;> rfl
    · have hv : Fq.vV Ieee.double m ≠ 0 := fun h => z ((vV_zero_iff m).1 h)
      have h0 : Iv (!n) m ≠ 0 := by unfold Iv; cases n <;> simp <;> omega
      have h1 : decide (Iv (!n) m < 0) = !n := by unfold Iv; cases n <;> simp <;> omega
      have h2 : (Iv (!n) m).natAbs = Fq.vV Ieee.double m := by unfold Iv; cases n <;> simp
      rw [if_neg h0, h1, h2, rU_vV _ m (by omega), fin_vV _ m (by omega)]
      congr 1
      unfold Fq.pla Fq.wD
      cases n <;> simp <;> omega

theorem rlo_w (a b : Nat) (ha : a < 18446744073709551616) (hb : b < 18446744073709551616) : ∃ n m, m ≤ 9218868437227405312 ∧ Fq.rlo a b = Fq.wD n m := by
  obtain ⟨n, m, hm, rfl⟩ := Fq.exD a ha
  obtain ⟨n', m', hm', rfl⟩ := Fq.exD b hb
  by_cases c : Fq.snd (Fq.wD n m) (Fq.wD n' m') = true
  · have es := Fq.snd_w n n' m m' hm hm'
    rw [c] at es
    have es := of_decide_eq_true es.symm
    rw [show Fq.rlo (Fq.wD n m) (Fq.wD n' m') = Fq.pla (Fq.wD n m) from by simp [Fq.rlo, c]]
    by_cases c2 : Fq.wD n m = 9223372036854775808
    · exact ⟨false, 0, by decide, by unfold Fq.pla; rw [if_pos c2]; rfl⟩
    · exact ⟨n, m, es.1, by simp [Fq.pla, c2]⟩
  · exact ⟨false, 9218868437227405312, by decide, by unfold Fq.rlo; rw [if_neg c]; rfl⟩
theorem rhi_w (a b : Nat) (ha : a < 18446744073709551616) (hb : b < 18446744073709551616) : ∃ n m, m ≤ 9218868437227405312 ∧ Fq.rhi a b = Fq.wD n m := by
  obtain ⟨n, m, hm, rfl⟩ := Fq.exD a ha
  obtain ⟨n', m', hm', rfl⟩ := Fq.exD b hb
  by_cases c : Fq.snd (Fq.wD n m) (Fq.wD n' m') = true
  · have es := Fq.snd_w n n' m m' hm hm'
    rw [c] at es
    have es := of_decide_eq_true es.symm
    rw [show Fq.rhi (Fq.wD n m) (Fq.wD n' m') = Fq.pla (Fq.wD n' m') from by simp [Fq.rhi, c]]
    by_cases c2 : Fq.wD n' m' = 9223372036854775808
    · exact ⟨false, 0, by decide, by unfold Fq.pla; rw [if_pos c2]; rfl⟩
    · exact ⟨n', m', es.2.1, by simp [Fq.pla, c2]⟩
  · exact ⟨true, 9218868437227405312, by decide, by unfold Fq.rhi; rw [if_neg c]; rfl⟩
/-- the pattern of what lies opposite, of patterns -/
def opP (x : Nat) : Nat := if x % 9223372036854775808 = 0 then 0 else if x < 9223372036854775808 then x + 9223372036854775808 else x - 9223372036854775808
theorem opP_w (n : Bool) (m : Nat) (hm : m < 9223372036854775808) : opP (Fq.wD n m) = mnP n m := by
  unfold opP mnP Fq.pla Fq.wD
  cases n <;> simp <;> repeat' split
  all_goals omega
theorem Fq.H2.two0 (w : World) (a b c d : Value) (s t : TypeId) : Fq.H2 ((w.alloc (.cells #[a, b] s)).alloc (.cells #[c, d] t)) (w.heap.size + 1) c d := by
  unfold Fq.H2; simp [go_sem]
set_option maxRecDepth 20000 in
set_option maxHeartbeats 1000000 in
theorem sqv_ (a b LO HI : Nat) (hr : ∀ w : World, Calls Tryz.prog 9 #[.agg #[.float .f64 a, .float .f64 b]] w fun e w' => e = .returned (.agg #[.float .f64 LO, .float .f64 HI]) ∧ Kp w w') (hv : ∀ w : World, Calls Tryz.prog 10 #[.agg #[.float .f64 LO, .float .f64 HI]] w fun e w' => e = .returned (.bool true) ∧ Kp w w') (hE : ∀ w : World, Calls Tryz.prog 11 #[] w fun e w' => e = .returned (.agg #[.float .f64 9218868437227405312, .float .f64 18442240474082181120]) ∧ Kp w w') (w : World) : Calls Tryz.prog 5 #[.agg #[.float .f64 a, .float .f64 b]] w fun e w' => e = .returned (.agg #[.float .f64 9218868437227405312, .float .f64 18442240474082181120]) ∧ Kp w w' := by
  go_enter Tryz.func5, Tryz.ntmps5
  go_wp2_with (first | (go_at_call 9; refine (hr _).mono ?_; rintro e w1 ⟨rfl, g1⟩; have q0 := Fq.H2.keep (Fq.H2.past (Fq.H2.new w (.float .f64 a) (.float .f64 b) 28) #[.float .f64 0, .float .f64 0] 28) g1; have q1 : Fq.H2 w1 (w.heap.size + 1) (.float .f64 0) (.float .f64 0) := Fq.H2.keep (Fq.H2.two0 w (.float .f64 a) (.float .f64 b) (.float .f64 0) (.float .f64 0) 28 28) g1; have kw : Kp w w1 := Kp.trans (((Kp.refl w).alloc _).alloc _) g1; obtain ⟨x0, x1, x2, x3⟩ := id q0; obtain ⟨y0, y1, y2, y3⟩ := id q1) | (go_at_call 10; refine (hv _).mono ?_; rintro e w2 ⟨rfl, g2⟩; have qx := Fq.H2.keep (Fq.H2.put q0 (.float .f64 LO) (.float .f64 HI)) g2; have qy := Fq.H2.keep (Fq.H2.far q1 (show w.heap.size ≠ w.heap.size + 1 by omega) (.float .f64 LO) (.float .f64 HI)) g2; have kv : Kp w w2 := Kp.trans ((kw.setCell (Nat.le_refl _) _).setCell (Nat.le_refl _) _) g2; obtain ⟨u0, u1, u2, u3⟩ := id qx; obtain ⟨v0, v1, v2, v3⟩ := id qy) | (go_at_call 11; refine (hE _).mono ?_; rintro e w3 ⟨rfl, g3⟩; have ke := Kp.trans kv g3; obtain ⟨e0, e1, e2, e3⟩ := Fq.H2.keep qy g3))
  exact bodyPost_ret (v := .agg #[.float .f64 9218868437227405312, .float .f64 18442240474082181120]) (by simp [results, Tryz.results5, go_sem, e0, e1]) rfl ⟨rfl, (ke.setCell (by simp) _).setCell (by simp) _⟩
set_option maxRecDepth 20000 in
set_option maxHeartbeats 1000000 in
theorem sqn_ (a b LO HI : Nat) (hr : ∀ w : World, Calls Tryz.prog 9 #[.agg #[.float .f64 a, .float .f64 b]] w fun e w' => e = .returned (.agg #[.float .f64 LO, .float .f64 HI]) ∧ Kp w w') (hv : ∀ w : World, Calls Tryz.prog 10 #[.agg #[.float .f64 LO, .float .f64 HI]] w fun e w' => e = .returned (.bool false) ∧ Kp w w') (hE : ∀ w : World, Calls Tryz.prog 11 #[] w fun e w' => e = .returned (.agg #[.float .f64 9218868437227405312, .float .f64 18442240474082181120]) ∧ Kp w w') (t1 : (FloatKind.f64.format.order HI 0 == some Ordering.lt) = true) (w : World) : Calls Tryz.prog 5 #[.agg #[.float .f64 a, .float .f64 b]] w fun e w' => e = .returned (.agg #[.float .f64 9218868437227405312, .float .f64 18442240474082181120]) ∧ Kp w w' := by
  go_enter Tryz.func5, Tryz.ntmps5
  go_wp2_with (first | (go_at_call 9; refine (hr _).mono ?_; rintro e w1 ⟨rfl, g1⟩; have q0 := Fq.H2.keep (Fq.H2.past (Fq.H2.new w (.float .f64 a) (.float .f64 b) 28) #[.float .f64 0, .float .f64 0] 28) g1; have q1 : Fq.H2 w1 (w.heap.size + 1) (.float .f64 0) (.float .f64 0) := Fq.H2.keep (Fq.H2.two0 w (.float .f64 a) (.float .f64 b) (.float .f64 0) (.float .f64 0) 28 28) g1; have kw : Kp w w1 := Kp.trans (((Kp.refl w).alloc _).alloc _) g1; obtain ⟨x0, x1, x2, x3⟩ := id q0; obtain ⟨y0, y1, y2, y3⟩ := id q1) | (go_at_call 10; refine (hv _).mono ?_; rintro e w2 ⟨rfl, g2⟩; have qx := Fq.H2.keep (Fq.H2.put q0 (.float .f64 LO) (.float .f64 HI)) g2; have qy := Fq.H2.keep (Fq.H2.far q1 (show w.heap.size ≠ w.heap.size + 1 by omega) (.float .f64 LO) (.float .f64 HI)) g2; have kv : Kp w w2 := Kp.trans ((kw.setCell (Nat.le_refl _) _).setCell (Nat.le_refl _) _) g2; obtain ⟨u0, u1, u2, u3⟩ := id qx; obtain ⟨v0, v1, v2, v3⟩ := id qy) | (go_at_call 11; refine (hE _).mono ?_; rintro e w3 ⟨rfl, g3⟩; have ke := Kp.trans kv g3; obtain ⟨e0, e1, e2, e3⟩ := Fq.H2.keep qy g3))
  exact bodyPost_ret (v := .agg #[.float .f64 9218868437227405312, .float .f64 18442240474082181120]) (by simp [results, Tryz.results5, go_sem, e0, e1]) rfl ⟨rfl, (ke.setCell (by simp) _).setCell (by simp) _⟩
set_option maxRecDepth 20000 in
set_option maxHeartbeats 1000000 in
theorem sqs_ (a b LO HI : Nat) (hr : ∀ w : World, Calls Tryz.prog 9 #[.agg #[.float .f64 a, .float .f64 b]] w fun e w' => e = .returned (.agg #[.float .f64 LO, .float .f64 HI]) ∧ Kp w w') (MX NL NH : Nat) (hv : ∀ w : World, Calls Tryz.prog 10 #[.agg #[.float .f64 LO, .float .f64 HI]] w fun e w' => e = .returned (.bool false) ∧ Kp w w') (t1 : (FloatKind.f64.format.order HI 0 == some Ordering.lt) = false) (hm : ∀ (ts : Array TypeId) (t : TypeId) (w : World), (Builtin.max_ ts t #[.float .f64 LO, .float .f64 0]).run Tryz.prog w = .ok (.float .f64 MX) w) (w : World) (hA1 : ∀ W : World, Kp w W → Calls Tryz.prog 12 #[.int .i64 (-1), .float .f64 MX] W fun e w' => e = .returned (.float .f64 NL) ∧ Kp W w') (hA2 : ∀ W : World, Kp w W → Calls Tryz.prog 12 #[.int .i64 1, .float .f64 HI] W fun e w' => e = .returned (.float .f64 NH) ∧ Kp W w') : Calls Tryz.prog 5 #[.agg #[.float .f64 a, .float .f64 b]] w fun e w' => e = .returned (.agg #[.float .f64 NL, .float .f64 NH]) ∧ Kp w w' := by
  go_enter Tryz.func5, Tryz.ntmps5
  go_wp2_with (first | (go_at_call 9; refine (hr _).mono ?_; rintro e w1 ⟨rfl, g1⟩; have q0 := Fq.H2.keep (Fq.H2.past (Fq.H2.new w (.float .f64 a) (.float .f64 b) 28) #[.float .f64 0, .float .f64 0] 28) g1; have q1 : Fq.H2 w1 (w.heap.size + 1) (.float .f64 0) (.float .f64 0) := Fq.H2.keep (Fq.H2.two0 w (.float .f64 a) (.float .f64 b) (.float .f64 0) (.float .f64 0) 28 28) g1; have kw : Kp w w1 := Kp.trans (((Kp.refl w).alloc _).alloc _) g1; obtain ⟨x0, x1, x2, x3⟩ := id q0; obtain ⟨y0, y1, y2, y3⟩ := id q1) | (go_at_call 10; refine (hv _).mono ?_; rintro e w2 ⟨rfl, g2⟩; have qx := Fq.H2.keep (Fq.H2.put q0 (.float .f64 LO) (.float .f64 HI)) g2; have qy := Fq.H2.keep (Fq.H2.far q1 (show w.heap.size ≠ w.heap.size + 1 by omega) (.float .f64 LO) (.float .f64 HI)) g2; have kv : Kp w w2 := Kp.trans ((kw.setCell (Nat.le_refl _) _).setCell (Nat.le_refl _) _) g2; obtain ⟨u0, u1, u2, u3⟩ := id qx; obtain ⟨v0, v1, v2, v3⟩ := id qy))
  have d0 : w2.drew.cell? ⟨w.heap.size, 0, none⟩ = some (.float .f64 LO) := u0
  have d1 : w2.drew.cell? ⟨w.heap.size, 1, none⟩ = some (.float .f64 HI) := u1
  have hn1 : w.heap.size + 1 ≠ w.heap.size := by omega
  go_region_held3 (fun w' => w'.cell? ⟨w.heap.size, 0, none⟩ = some (.float .f64 LO) ∧ w'.cell? ⟨w.heap.size, 1, none⟩ = some (.float .f64 HI)) (first | (with_reducible exact ⟨d0, d1⟩) | (with_reducible exact ⟨u0, u1⟩) | (with_reducible exact ⟨a0, a1⟩) | (with_reducible exact ⟨b0, b1⟩) | (exact ⟨((World.cell?_setCell_far _ _ _ _ hn1).trans ((World.cell?_setCell_far _ _ _ _ hn1).trans b0)), ((World.cell?_setCell_far _ _ _ _ hn1).trans ((World.cell?_setCell_far _ _ _ _ hn1).trans b1))⟩)) (first | (go_at_call_of 12 (Value.float .f64 MX); refine (hA1 _ ?q0).mono ?_; (case q0 => exact kv.drew); rintro e wl ⟨rfl, gl⟩; have kl : Kp w2 wl := Kp.trans (Kp.drew (Kp.refl _)) gl; have a0 := kkeep kl u0; have a1 := kkeep kl u1) | (go_at_call_of 12 (Value.float .f64 HI); refine (hA2 _ ?q0).mono ?_; (case q0 => exact kv.trans kl); rintro e wh ⟨rfl, gh⟩; have kh : Kp w2 wh := Kp.trans kl gh; have b0 := kkeep kh u0; have b1 := kkeep kh u1; obtain ⟨R0, R1, R2, R3⟩ := Fq.H2.keep qy kh))
  go_wp2
  exact bodyPost_ret (v := .agg #[.float .f64 NL, .float .f64 NH]) (by simp [results, Tryz.results5, go_sem, R0, R1]) rfl ⟨rfl, ((kv.trans kh).setCell (by simp) _).setCell (by simp) _⟩
set_option maxRecDepth 20000 in
set_option maxHeartbeats 400000 in
theorem neg3_ (X : Int) (V : Bool) (t : decide (9223372036854775808 < X) = V) (w : World) : Calls Tryz.prog 16 #[.int .u64 X] w fun e w' => e = .returned (.bool V) ∧ w' = w := by
  go_enter Tryz.func16, Tryz.ntmps16
  go_wp2
  exact bodyPost_ret (v := .bool V) (by simp [results, Tryz.results16, go_sem] <;> simpa using t) rfl ⟨rfl, rfl⟩
set_option maxRecDepth 20000 in
set_option maxHeartbeats 1000000 in
theorem rsqe_ (X Y LO HI : Int) (hr : ∀ w : World, Calls Tryz.prog 14 #[.agg #[.int .u64 X, .int .u64 Y]] w fun e w' => e = .returned (.agg #[.int .u64 LO, .int .u64 HI]) ∧ Kp w w') (t1 : (LO == 9218868437227405312) = true) (t2 : (HI == 18442240474082181120) = true) (w : World) : Calls Tryz.prog 7 #[.agg #[.int .u64 X, .int .u64 Y]] w fun e w' => e = .returned (.agg #[.int .u64 9218868437227405312, .int .u64 18442240474082181120]) ∧ Kp w w' := by
  go_enter Tryz.func7, Tryz.ntmps7
  go_wp2_with (first | (go_at_call 14; refine (hr _).mono ?_; rintro e w1 ⟨rfl, g1⟩; have r0 := kkeep g1 (b := w.heap.size + 1) (o := 0) (v := .int .u64 0) (by simp [go_sem]); have rz0 : w1.frozen? ⟨w.heap.size + 1, 0, none⟩ = false := (kfro g1 (by simp <;> omega)).trans (by simp [go_sem]); have r1 := kkeep g1 (b := w.heap.size + 1) (o := 1) (v := .int .u64 0) (by simp [go_sem]); have rz1 : w1.frozen? ⟨w.heap.size + 1, 1, none⟩ = false := (kfro g1 (by simp <;> omega)).trans (by simp [go_sem]); have kw : Kp w w1 := Kp.trans (((Kp.refl w).alloc _).alloc _) g1))
  have hB1 : w.heap.size + 1 < w1.heap.size := cell_lt r0
  have hne : w.heap.size + 1 ≠ w1.heap.size := Nat.ne_of_lt hB1
  refine Fq.wp_region_grow (by kernel_rfl) (by kernel_rfl) (fun ι _ G hG hall => ?_)
  have c0 : ∀ n, (G n).cell? ⟨w1.heap.size, 0, none⟩ = some (.int .u64 LO) := fun n => Fq.gkeep (hG n) (by simp [go_sem])
  have c1 : ∀ n, (G n).cell? ⟨w1.heap.size, 1, none⟩ = some (.int .u64 HI) := fun n => Fq.gkeep (hG n) (by simp [go_sem])
  have kG : ∀ n, Kp w1 (G n) := fun n => Kp.trans ((Kp.refl w1).alloc _) (hG n)
  repeat (go_big_quiet_step (first | (go_at_call 15; exact (Fq.rempty_ _).mono (fun e w' h => ⟨h.1, hall _ (by rw [h.2]; exact (hG _).alloc _ _)⟩))))
  refine wpQuiet_nil ?_
  rintro _ ⟨nq, rfl⟩
  have y0 := c0 nq
  have y1 := c1 nq
  have kW := kG nq
  generalize G nq = W at y0 y1 kW ⊢
  clear c0 c1 hall hG kG
  replace r0 := kkeep kW r0
  replace rz0 := (kfro kW hB1).trans rz0
  replace r1 := kkeep kW r1
  replace rz1 := (kfro kW hB1).trans rz1
  have hE : ∀ w : World, Calls Tryz.prog 15 #[] w fun e w' => e = .returned (.agg #[.int .u64 9218868437227405312, .int .u64 18442240474082181120]) ∧ Kp w w' := fun w => (Fq.rempty_ w).mono (fun e w' h => ⟨h.1, by rw [h.2]; exact (Kp.refl w).alloc _⟩)
  go_wp2_with (first | (go_at_call 15; refine (hE _).mono ?_; rintro e w3 ⟨rfl, g3⟩; have R0 := kkeep g3 r0; have Rz0 : w3.frozen? ⟨w.heap.size + 1, 0, none⟩ = false := (kfro g3 (cell_lt r0)).trans rz0; have R1 := kkeep g3 r1; have Rz1 : w3.frozen? ⟨w.heap.size + 1, 1, none⟩ = false := (kfro g3 (cell_lt r1)).trans rz1))
  exact bodyPost_ret (v := .agg #[.int .u64 9218868437227405312, .int .u64 18442240474082181120]) (by simp [results, Tryz.results7, go_sem, R0, R1]) rfl ⟨rfl, (((Kp.trans (Kp.trans kw kW) g3)).setCell (by simp) _).setCell (by simp) _⟩
set_option maxRecDepth 20000 in
set_option maxHeartbeats 1000000 in
theorem rsqn_ (X Y LO HI : Int) (hr : ∀ w : World, Calls Tryz.prog 14 #[.agg #[.int .u64 X, .int .u64 Y]] w fun e w' => e = .returned (.agg #[.int .u64 LO, .int .u64 HI]) ∧ Kp w w') (t1 : (LO == 9218868437227405312) = false) (hn2 : ∀ w : World, Calls Tryz.prog 16 #[.int .u64 HI] w fun e w' => e = .returned (.bool true) ∧ w' = w) (w : World) : Calls Tryz.prog 7 #[.agg #[.int .u64 X, .int .u64 Y]] w fun e w' => e = .returned (.agg #[.int .u64 9218868437227405312, .int .u64 18442240474082181120]) ∧ Kp w w' := by
  go_enter Tryz.func7, Tryz.ntmps7
  go_wp2_with (first | (go_at_call 14; refine (hr _).mono ?_; rintro e w1 ⟨rfl, g1⟩; have r0 := kkeep g1 (b := w.heap.size + 1) (o := 0) (v := .int .u64 0) (by simp [go_sem]); have rz0 : w1.frozen? ⟨w.heap.size + 1, 0, none⟩ = false := (kfro g1 (by simp <;> omega)).trans (by simp [go_sem]); have r1 := kkeep g1 (b := w.heap.size + 1) (o := 1) (v := .int .u64 0) (by simp [go_sem]); have rz1 : w1.frozen? ⟨w.heap.size + 1, 1, none⟩ = false := (kfro g1 (by simp <;> omega)).trans (by simp [go_sem]); have kw : Kp w w1 := Kp.trans (((Kp.refl w).alloc _).alloc _) g1))
  have hB1 : w.heap.size + 1 < w1.heap.size := cell_lt r0
  have hne : w.heap.size + 1 ≠ w1.heap.size := Nat.ne_of_lt hB1
  refine Fq.wp_region_grow (by kernel_rfl) (by kernel_rfl) (fun ι _ G hG hall => ?_)
  have c0 : ∀ n, (G n).cell? ⟨w1.heap.size, 0, none⟩ = some (.int .u64 LO) := fun n => Fq.gkeep (hG n) (by simp [go_sem])
  have c1 : ∀ n, (G n).cell? ⟨w1.heap.size, 1, none⟩ = some (.int .u64 HI) := fun n => Fq.gkeep (hG n) (by simp [go_sem])
  have kG : ∀ n, Kp w1 (G n) := fun n => Kp.trans ((Kp.refl w1).alloc _) (hG n)
  repeat (go_big_quiet_step (first | (go_at_call 15; exact (Fq.rempty_ _).mono (fun e w' h => ⟨h.1, hall _ (by rw [h.2]; exact (hG _).alloc _ _)⟩)) | (go_at_call 16; exact (hn2 _).mono (fun e w' h => ⟨h.1, hall _ (by rw [h.2]; exact hG _)⟩))))
  refine wpQuiet_nil ?_
  rintro _ ⟨nq, rfl⟩
  have y0 := c0 nq
  have y1 := c1 nq
  have kW := kG nq
  generalize G nq = W at y0 y1 kW ⊢
  clear c0 c1 hall hG kG
  replace r0 := kkeep kW r0
  replace rz0 := (kfro kW hB1).trans rz0
  replace r1 := kkeep kW r1
  replace rz1 := (kfro kW hB1).trans rz1
  have hE : ∀ w : World, Calls Tryz.prog 15 #[] w fun e w' => e = .returned (.agg #[.int .u64 9218868437227405312, .int .u64 18442240474082181120]) ∧ Kp w w' := fun w => (Fq.rempty_ w).mono (fun e w' h => ⟨h.1, by rw [h.2]; exact (Kp.refl w).alloc _⟩)
  go_wp2_with (first | (go_at_call 15; refine (hE _).mono ?_; rintro e w3 ⟨rfl, g3⟩; have R0 := kkeep g3 r0; have Rz0 : w3.frozen? ⟨w.heap.size + 1, 0, none⟩ = false := (kfro g3 (cell_lt r0)).trans rz0; have R1 := kkeep g3 r1; have Rz1 : w3.frozen? ⟨w.heap.size + 1, 1, none⟩ = false := (kfro g3 (cell_lt r1)).trans rz1))
  exact bodyPost_ret (v := .agg #[.int .u64 9218868437227405312, .int .u64 18442240474082181120]) (by simp [results, Tryz.results7, go_sem, R0, R1]) rfl ⟨rfl, (((Kp.trans (Kp.trans kw kW) g3)).setCell (by simp) _).setCell (by simp) _⟩
set_option maxRecDepth 20000 in
set_option maxHeartbeats 1000000 in
theorem rsqp_ (X Y LO HI NL NH : Int) (hr : ∀ w : World, Calls Tryz.prog 14 #[.agg #[.int .u64 X, .int .u64 Y]] w fun e w' => e = .returned (.agg #[.int .u64 LO, .int .u64 HI]) ∧ Kp w w') (t1 : (LO == 9218868437227405312) = false) (hn1 : ∀ w : World, Calls Tryz.prog 16 #[.int .u64 LO] w fun e w' => e = .returned (.bool false) ∧ w' = w) (hn2 : ∀ w : World, Calls Tryz.prog 16 #[.int .u64 HI] w fun e w' => e = .returned (.bool false) ∧ w' = w) (w : World) (hA1 : ∀ W : World, Kp w W → Calls Tryz.prog 17 #[.int .i64 (-1), .int .u64 LO] W fun e w' => e = .returned (.int .u64 NL) ∧ Kp W w') (hA2 : ∀ W : World, Kp w W → Calls Tryz.prog 17 #[.int .i64 1, .int .u64 HI] W fun e w' => e = .returned (.int .u64 NH) ∧ Kp W w') : Calls Tryz.prog 7 #[.agg #[.int .u64 X, .int .u64 Y]] w fun e w' => e = .returned (.agg #[.int .u64 NL, .int .u64 NH]) ∧ Kp w w' := by
  go_enter Tryz.func7, Tryz.ntmps7
  go_wp2_with (first | (go_at_call 14; refine (hr _).mono ?_; rintro e w1 ⟨rfl, g1⟩; have r0 := kkeep g1 (b := w.heap.size + 1) (o := 0) (v := .int .u64 0) (by simp [go_sem]); have rz0 : w1.frozen? ⟨w.heap.size + 1, 0, none⟩ = false := (kfro g1 (by simp <;> omega)).trans (by simp [go_sem]); have r1 := kkeep g1 (b := w.heap.size + 1) (o := 1) (v := .int .u64 0) (by simp [go_sem]); have rz1 : w1.frozen? ⟨w.heap.size + 1, 1, none⟩ = false := (kfro g1 (by simp <;> omega)).trans (by simp [go_sem]); have kw : Kp w w1 := Kp.trans (((Kp.refl w).alloc _).alloc _) g1))
  have hB1 : w.heap.size + 1 < w1.heap.size := cell_lt r0
  have hne : w.heap.size + 1 ≠ w1.heap.size := Nat.ne_of_lt hB1
  refine Fq.wp_region_grow (by kernel_rfl) (by kernel_rfl) (fun ι _ G hG hall => ?_)
  have c0 : ∀ n, (G n).cell? ⟨w1.heap.size, 0, none⟩ = some (.int .u64 LO) := fun n => Fq.gkeep (hG n) (by simp [go_sem])
  have c1 : ∀ n, (G n).cell? ⟨w1.heap.size, 1, none⟩ = some (.int .u64 HI) := fun n => Fq.gkeep (hG n) (by simp [go_sem])
  have kG : ∀ n, Kp w1 (G n) := fun n => Kp.trans ((Kp.refl w1).alloc _) (hG n)
  repeat (go_big_quiet_step (first | (go_at_call 15; exact (Fq.rempty_ _).mono (fun e w' h => ⟨h.1, hall _ (by rw [h.2]; exact (hG _).alloc _ _)⟩)) | (go_at_call 16; exact (hn2 _).mono (fun e w' h => ⟨h.1, hall _ (by rw [h.2]; exact hG _)⟩))))
  refine wpQuiet_nil ?_
  rintro _ ⟨nq, rfl⟩
  have y0 := c0 nq
  have y1 := c1 nq
  have kW := kG nq
  generalize G nq = W at y0 y1 kW ⊢
  clear c0 c1 hall hG kG
  replace r0 := kkeep kW r0
  replace rz0 := (kfro kW hB1).trans rz0
  replace r1 := kkeep kW r1
  replace rz1 := (kfro kW hB1).trans rz1
  generalize hby : w1.heap.size = by9 at y0 y1 hne ⊢
  go_wp2_with (first | (go_at_call 16; refine (hn1 _).mono ?_; rintro e w' ⟨rfl, hw'⟩; obtain rfl := hw'.symm; clear hw'))
  have y2 : W.drew.cell? ⟨by9, 0, none⟩ = some (.int .u64 LO) := y0
  have y3 : W.drew.cell? ⟨by9, 1, none⟩ = some (.int .u64 HI) := y1
  go_region_held3 (fun w' => w'.cell? ⟨by9, 0, none⟩ = some (.int .u64 LO) ∧ w'.cell? ⟨by9, 1, none⟩ = some (.int .u64 HI)) (first | (with_reducible exact ⟨y2, y3⟩) | (with_reducible exact ⟨y0, y1⟩) | (with_reducible exact ⟨a0, a1⟩) | (with_reducible exact ⟨b0, b1⟩) | (exact ⟨((World.cell?_setCell_far _ _ _ _ hne).trans ((World.cell?_setCell_far _ _ _ _ hne).trans b0)), ((World.cell?_setCell_far _ _ _ _ hne).trans ((World.cell?_setCell_far _ _ _ _ hne).trans b1))⟩)) (first | (go_at_call_of 17 (Value.int .u64 HI); refine (hA2 _ ?q0).mono ?_; (case q0 => exact Kp.trans (Kp.trans kw kW) kl); rintro e wh ⟨rfl, gh⟩; have kh : Kp W wh := Kp.trans kl gh; have b0 := kkeep kh y0; have b1 := kkeep kh y1; have R0 := kkeep kh r0; have Rz0 : wh.frozen? ⟨w.heap.size + 1, 0, none⟩ = false := (kfro kh (cell_lt r0)).trans rz0; have R1 := kkeep kh r1; have Rz1 : wh.frozen? ⟨w.heap.size + 1, 1, none⟩ = false := (kfro kh (cell_lt r1)).trans rz1) | (go_at_call 17; refine (hA1 _ ?q0).mono ?_; (case q0 => exact (Kp.trans kw kW).drew); rintro e wl ⟨rfl, gl⟩; have kl : Kp W wl := Kp.trans (Kp.drew (Kp.refl _)) gl; have a0 := kkeep kl y0; have a1 := kkeep kl y1))
  go_wp2
  exact bodyPost_ret (v := .agg #[.int .u64 NL, .int .u64 NH]) (by simp [results, Tryz.results7, go_sem, R0, R1]) rfl ⟨rfl, ((Kp.trans (Kp.trans kw kW) kh).setCell (by simp) _).setCell (by simp) _⟩
set_option maxRecDepth 20000 in
set_option maxHeartbeats 1000000 in
theorem rsqm_ (X Y LO HI NL NH : Int) (hr : ∀ w : World, Calls Tryz.prog 14 #[.agg #[.int .u64 X, .int .u64 Y]] w fun e w' => e = .returned (.agg #[.int .u64 LO, .int .u64 HI]) ∧ Kp w w') (t1 : (LO == 9218868437227405312) = false) (hn1 : ∀ w : World, Calls Tryz.prog 16 #[.int .u64 LO] w fun e w' => e = .returned (.bool true) ∧ w' = w) (hn2 : ∀ w : World, Calls Tryz.prog 16 #[.int .u64 HI] w fun e w' => e = .returned (.bool false) ∧ w' = w) (w : World) (hA1 : ∀ W : World, Kp w W → Calls Tryz.prog 17 #[.int .i64 (-1), .int .u64 0] W fun e w' => e = .returned (.int .u64 NL) ∧ Kp W w') (hA2 : ∀ W : World, Kp w W → Calls Tryz.prog 17 #[.int .i64 1, .int .u64 HI] W fun e w' => e = .returned (.int .u64 NH) ∧ Kp W w') : Calls Tryz.prog 7 #[.agg #[.int .u64 X, .int .u64 Y]] w fun e w' => e = .returned (.agg #[.int .u64 NL, .int .u64 NH]) ∧ Kp w w' := by
  go_enter Tryz.func7, Tryz.ntmps7
  go_wp2_with (first | (go_at_call 14; refine (hr _).mono ?_; rintro e w1 ⟨rfl, g1⟩; have r0 := kkeep g1 (b := w.heap.size + 1) (o := 0) (v := .int .u64 0) (by simp [go_sem]); have rz0 : w1.frozen? ⟨w.heap.size + 1, 0, none⟩ = false := (kfro g1 (by simp <;> omega)).trans (by simp [go_sem]); have r1 := kkeep g1 (b := w.heap.size + 1) (o := 1) (v := .int .u64 0) (by simp [go_sem]); have rz1 : w1.frozen? ⟨w.heap.size + 1, 1, none⟩ = false := (kfro g1 (by simp <;> omega)).trans (by simp [go_sem]); have kw : Kp w w1 := Kp.trans (((Kp.refl w).alloc _).alloc _) g1))
  have hB1 : w.heap.size + 1 < w1.heap.size := cell_lt r0
  have hne : w.heap.size + 1 ≠ w1.heap.size := Nat.ne_of_lt hB1
  refine Fq.wp_region_grow (by kernel_rfl) (by kernel_rfl) (fun ι _ G hG hall => ?_)
  have c0 : ∀ n, (G n).cell? ⟨w1.heap.size, 0, none⟩ = some (.int .u64 LO) := fun n => Fq.gkeep (hG n) (by simp [go_sem])
  have c1 : ∀ n, (G n).cell? ⟨w1.heap.size, 1, none⟩ = some (.int .u64 HI) := fun n => Fq.gkeep (hG n) (by simp [go_sem])
  have kG : ∀ n, Kp w1 (G n) := fun n => Kp.trans ((Kp.refl w1).alloc _) (hG n)
  repeat (go_big_quiet_step (first | (go_at_call 15; exact (Fq.rempty_ _).mono (fun e w' h => ⟨h.1, hall _ (by rw [h.2]; exact (hG _).alloc _ _)⟩)) | (go_at_call 16; exact (hn2 _).mono (fun e w' h => ⟨h.1, hall _ (by rw [h.2]; exact hG _)⟩))))
  refine wpQuiet_nil ?_
  rintro _ ⟨nq, rfl⟩
  have y0 := c0 nq
  have y1 := c1 nq
  have kW := kG nq
  generalize G nq = W at y0 y1 kW ⊢
  clear c0 c1 hall hG kG
  replace r0 := kkeep kW r0
  replace rz0 := (kfro kW hB1).trans rz0
  replace r1 := kkeep kW r1
  replace rz1 := (kfro kW hB1).trans rz1
  generalize hby : w1.heap.size = by9 at y0 y1 hne ⊢
  go_wp2_with (first | (go_at_call 16; refine (hn1 _).mono ?_; rintro e w' ⟨rfl, hw'⟩; obtain rfl := hw'.symm; clear hw'))
  have y2 : W.drew.cell? ⟨by9, 0, none⟩ = some (.int .u64 LO) := y0
  have y3 : W.drew.cell? ⟨by9, 1, none⟩ = some (.int .u64 HI) := y1
  go_region_held3 (fun w' => w'.cell? ⟨by9, 0, none⟩ = some (.int .u64 LO) ∧ w'.cell? ⟨by9, 1, none⟩ = some (.int .u64 HI)) (first | (with_reducible exact ⟨y2, y3⟩) | (with_reducible exact ⟨y0, y1⟩) | (with_reducible exact ⟨a0, a1⟩) | (with_reducible exact ⟨b0, b1⟩) | (exact ⟨((World.cell?_setCell_far _ _ _ _ hne).trans ((World.cell?_setCell_far _ _ _ _ hne).trans b0)), ((World.cell?_setCell_far _ _ _ _ hne).trans ((World.cell?_setCell_far _ _ _ _ hne).trans b1))⟩)) (first | (go_at_call_of 17 (Value.int .u64 HI); refine (hA2 _ ?q0).mono ?_; (case q0 => exact Kp.trans (Kp.trans kw kW) kl); rintro e wh ⟨rfl, gh⟩; have kh : Kp W wh := Kp.trans kl gh; have b0 := kkeep kh y0; have b1 := kkeep kh y1; have R0 := kkeep kh r0; have Rz0 : wh.frozen? ⟨w.heap.size + 1, 0, none⟩ = false := (kfro kh (cell_lt r0)).trans rz0; have R1 := kkeep kh r1; have Rz1 : wh.frozen? ⟨w.heap.size + 1, 1, none⟩ = false := (kfro kh (cell_lt r1)).trans rz1) | (go_at_call 17; refine (hA1 _ ?q0).mono ?_; (case q0 => exact (Kp.trans kw kW).drew); rintro e wl ⟨rfl, gl⟩; have kl : Kp W wl := Kp.trans (Kp.drew (Kp.refl _)) gl; have a0 := kkeep kl y0; have a1 := kkeep kl y1))
  go_wp2
  exact bodyPost_ret (v := .agg #[.int .u64 NL, .int .u64 NH]) (by simp [results, Tryz.results7, go_sem, R0, R1]) rfl ⟨rfl, ((Kp.trans (Kp.trans kw kW) kh).setCell (by simp) _).setCell (by simp) _⟩

/-- the root of a number that is not below 0, rounded -/
def sqW (d : Int) (m : Nat) : Nat := if m = 9218868437227405312 then 9218868437227405312 else if m = 0 then 0 else rootW d (Fq.vV Ieee.double m)
theorem sqP_ (d : Int) (m : Nat) (hm : m ≤ 9218868437227405312) (w : World) (hQ : Fq.Tab w) (hd1 : -9223372036854775808 ≤ d) (hd2 : d < 9223372036854775808) : Calls Tryz.prog 12 #[.int .i64 d, .float .f64 (Fq.wD false m)] w fun e w' => e = .returned (.float .f64 (sqW d m)) ∧ Kp w w' := by
  unfold sqW
  by_cases c1 : m = 9218868437227405312
  · rw [if_pos c1]
    subst c1
    have hp := Fq.plain_d false 9218868437227405312 (by decide) w
    rw [Bool.false_and] at hp
    exact psqrtP_ d false 9218868437227405312 (by decide) (fun h => by omega) w w _ _ (msqrt_ _ _ sqrt_inf w) (Kp.refl _) hp
  · rw [if_neg c1]
    by_cases z : m = 0
    · rw [if_pos z]
      subst z
      have hp := Fq.plain_d false 0 (by decide) w
      rw [show Fq.wD (false && !((0 : Nat) == 0)) 0 = 0 from by simp; rfl] at hp
      exact psqrtP_ d false 0 (by decide) (fun h => h.2.2 rfl) w w _ _ (msqrt_ _ _ (sqrt_zero false) w) (Kp.refl _) hp
    · rw [if_neg z]
      by_cases ct : 2580562586483294208 ≤ m ∧ m ≤ 6633802251116740608
      · exact psqrtQ_ d m ct w
      · exact psqrtE_ d m (by omega) z ct w hQ hd1 hd2
theorem sqR_ (d : Int) (m : Nat) (hm : m ≤ 9218868437227405312) (w : World) : Calls Tryz.prog 17 #[.int .i64 d, .int .u64 ((Fq.wD false m : Nat) : Int)] w fun e w' => e = .returned (.int .u64 ((sqW d m : Nat) : Int)) ∧ Kp w w' := by
  unfold sqW
  by_cases c1 : m = 9218868437227405312
  · rw [if_pos c1]
    subst c1
    exact rsqrtI_ d w
  · rw [if_neg c1]
    have h := rsqrtF_ d false m (by omega) (Or.inl rfl) w
    exact h
theorem void6_ (a b : Nat) (ha : a < 18446744073709551616) (hb : b < 18446744073709551616) (V : Bool) (hs : Fq.snd a b = !V) (w : World) : Calls Tryz.prog 10 #[.agg #[.float .f64 (Fq.rlo a b), .float .f64 (Fq.rhi a b)]] w fun e w' => e = .returned (.bool V) ∧ Kp w w' := by
  have h := Fq.void_ (Fq.rlo a b) (Fq.rhi a b) (Fq.rlo_lt a b ha) (Fq.rhi_lt a b hb) w
  rw [Fq.void_read, hs, Bool.not_not] at h
  exact h
theorem empty6K_ (w : World) : Calls Tryz.prog 11 #[] w fun e w' => e = .returned (.agg #[.float .f64 9218868437227405312, .float .f64 18442240474082181120]) ∧ Kp w w' := by
  refine (Fq.empty6_ w).mono ?_
  rintro e w' ⟨rfl, rfl⟩
  exact ⟨rfl, (Kp.refl w).alloc _⟩
theorem rlo_inf (a b : Nat) (hs : Fq.snd a b = true) (n : Bool) (m : Nat) (e1 : Fq.rlo a b = Fq.wD n m) (c : m = 9218868437227405312) : n = true := by
  have h2 : a ≠ 9218868437227405312 := by intro h; rw [h] at hs; simp [Fq.snd] at hs
  have h1 : Fq.rlo a b ≠ 9218868437227405312 := by simp only [Fq.rlo, hs, if_true, Fq.pla]; split <;> omega
  rw [e1, c] at h1
  cases n
  · exact absurd rfl h1
  · rfl
theorem rhi_inf (a b : Nat) (hs : Fq.snd a b = true) (n : Bool) (m : Nat) (e1 : Fq.rhi a b = Fq.wD n m) (c : m = 9218868437227405312) : n = false := by
  have h2 : b ≠ 18442240474082181120 := by intro h; rw [h] at hs; simp [Fq.snd] at hs
  have h1 : Fq.rhi a b ≠ 18442240474082181120 := by simp only [Fq.rhi, hs, if_true, Fq.pla]; split <;> omega
  rw [e1, c] at h1
  cases n
  · rfl
  · exact absurd rfl h1
theorem pla_ne (x : Nat) : Fq.pla x ≠ 9223372036854775808 := by unfold Fq.pla; split <;> omega
theorem rlo_ne (a b : Nat) : Fq.rlo a b ≠ 9223372036854775808 := by
  unfold Fq.rlo
  split
  · exact pla_ne a
  · decide
theorem rhi_ne (a b : Nat) : Fq.rhi a b ≠ 9223372036854775808 := by
  unfold Fq.rhi
  split
  · exact pla_ne b
  · decide
theorem wD_inj6 (n n' : Bool) (m m' : Nat) (h : m < 9223372036854775808) (h' : m' < 9223372036854775808) (e : Fq.wD n m = Fq.wD n' m') : n = n' ∧ m = m' := by
  unfold Fq.wD at e
  cases n <;> cases n' <;> simp at e ⊢ <;> omega

theorem max6_ (n : Bool) (m : Nat) (hm : m ≤ 9218868437227405312) (ht : Fq.wD n m ≠ 9223372036854775808) (ts : Array TypeId) (t : TypeId) (w : World) : (Builtin.max_ ts t #[.float .f64 (Fq.wD n m), .float .f64 0]).run Tryz.prog w = .ok (.float .f64 (Fq.wD false (if n then 0 else m))) w := by
  have ho := Fq.ordD n false m 0 hm (by decide)
  rw [show Fq.wD false 0 = 0 from rfl] at ho
  cases n
  · by_cases z : m = 0
    · subst z
      rw [Fq.cmp_eq rfl] at ho
      have ho' : FloatKind.f64.format.order 0 0 = some Ordering.eq := ho
      show (Builtin.max_ ts t #[.float .f64 0, .float .f64 0]).run Tryz.prog w = .ok (.float .f64 0) w
      simp [Builtin.max_, Builtin.max2, ho']
    · rw [Fq.cmp_gt (by unfold Fq.plz; simp; omega)] at ho
      simp only [Bool.false_eq_true, if_false]
      generalize Fq.wD false m = X at ho ⊢
      simp [Builtin.max_, Builtin.max2, ho]
  · have z : m ≠ 0 := fun z => ht (by rw [z]; rfl)
    rw [Fq.cmp_lt (by unfold Fq.plz; simp; omega)] at ho
    simp only [if_true]
    rw [show Fq.wD false 0 = 0 from rfl]
    generalize Fq.wD true m = X at ho ⊢
    simp [Builtin.max_, Builtin.max2, ho]
theorem root_both6 (a b : Nat) (ha : a < 18446744073709551616) (hb : b < 18446744073709551616) : ∃ LO HI : Nat, (∀ w : World, Fq.Tab w → Calls Tryz.prog 5 #[.agg #[.float .f64 a, .float .f64 b]] w fun e w' => e = .returned (.agg #[.float .f64 LO, .float .f64 HI]) ∧ Kp w w') ∧ (∀ w : World, Calls Tryz.prog 7 #[.agg #[.int .u64 ((a : Nat) : Int), .int .u64 ((b : Nat) : Int)]] w fun e w' => e = .returned (.agg #[.int .u64 ((LO : Nat) : Int), .int .u64 ((HI : Nat) : Int)]) ∧ Kp w w') := by
  have hr : ∀ w : World, Calls Tryz.prog 14 #[.agg #[.int .u64 ((a : Nat) : Int), .int .u64 ((b : Nat) : Int)]] w fun e w' => e = .returned (.agg #[.int .u64 ((Fq.rlo a b : Nat) : Int), .int .u64 ((Fq.rhi a b : Nat) : Int)]) ∧ Kp w w' := by
    obtain ⟨n, m, hm, rfl⟩ := Fq.exD a ha
    obtain ⟨n', m', hm', rfl⟩ := Fq.exD b hb
    exact fun w => Fq.rread_ n n' m m' hm hm' w
  have hp := Fq.read_ a b ha hb
  by_cases s1 : Fq.snd a b = true
  · obtain ⟨n, m, l1, e1⟩ := rlo_w a b ha hb
    obtain ⟨g, r, l2, e2⟩ := rhi_w a b ha hb
    have i1 := rlo_inf a b s1 n m e1
    have t1 : (((Fq.wD n m : Nat) : Int) == 9218868437227405312) = false := by
      have h2 : Fq.wD n m ≠ 9218868437227405312 := by
        intro h
        have hh := wD_inj6 n false m 9218868437227405312 (by omega) (by decide) (h.trans rfl)
        have := i1 hh.2
        rw [hh.1] at this; cases this
      simp; omega
    have n1 : Fq.wD n m ≠ 9223372036854775808 := e1 ▸ rlo_ne a b
    have n2 : Fq.wD g r ≠ 9223372036854775808 := e2 ▸ rhi_ne a b
    have hv := void6_ a b ha hb false (by simpa using s1)
    rw [e1, e2] at hr hp hv
    have fl := Fq.flt g false r 0 (by omega) (by decide)
    rw [show Fq.wD false 0 = 0 from rfl] at fl
    cases g
    · -- not below 0
      have fl' : (FloatKind.f64.format.order (Fq.wD false r) 0 == some Ordering.lt) = false := by
        rw [fl]; exact decide_eq_false (fun h => by have := h.2.2; unfold Fq.plz at this; simp at this; omega)
      have hn2 : ∀ w : World, Calls Tryz.prog 16 #[.int .u64 ((Fq.wD false r : Nat) : Int)] w fun e w' => e = .returned (.bool false) ∧ w' = w := neg3_ _ false (decide_eq_false (by show ¬ ((9223372036854775808 : Int) < (r : Int)); omega))
      refine ⟨sqW (-1) (if n then 0 else m), sqW 1 r, fun w hQ => ?_, fun w => ?_⟩
      · exact sqs_ a b _ _ hp _ _ _ hv fl' (max6_ n m l1 n1) w (fun W y => sqP_ (-1) _ (by cases n <;> simp <;> omega) W (Fq.Tab.grown hQ y) (by decide) (by decide)) (fun W y => sqP_ 1 r l2 W (Fq.Tab.grown hQ y) (by decide) (by decide))
      · cases n
        · exact rsqp_ _ _ _ _ _ _ hr t1 (neg3_ _ false (decide_eq_false (by show ¬ ((9223372036854775808 : Int) < (m : Int)); omega))) hn2 w (fun W _ => sqR_ (-1) m l1 W) (fun W _ => sqR_ 1 r l2 W)
        · have z : m ≠ 0 := fun z => n1 (by rw [z]; rfl)
          exact rsqm_ _ _ _ _ _ _ hr t1 (neg3_ _ true (decide_eq_true (by show (9223372036854775808 : Int) < ((9223372036854775808 + m : Nat) : Int); omega))) hn2 w (fun W _ => sqR_ (-1) 0 (by decide) W) (fun W _ => sqR_ 1 r l2 W)
    · have z : r ≠ 0 := fun z => n2 (by rw [z]; rfl)
      have fl' : (FloatKind.f64.format.order (Fq.wD true r) 0 == some Ordering.lt) = true := by
        rw [fl]; exact decide_eq_true ⟨l2, by decide, by unfold Fq.plz; simp; omega⟩
      refine ⟨9218868437227405312, 18442240474082181120, fun w hQ => ?_, fun w => ?_⟩
      · exact sqn_ a b _ _ hp hv empty6K_ fl' w
      · exact rsqn_ _ _ _ _ hr t1 (neg3_ _ true (decide_eq_true (by show (9223372036854775808 : Int) < ((9223372036854775808 + r : Nat) : Int); omega))) w
  · have s1 : Fq.snd a b = false := by simpa using s1
    have q1 : Fq.rlo a b = 9218868437227405312 := by rw [Fq.rlo, if_neg (by rw [s1]; decide)]
    have q2 : Fq.rhi a b = 18442240474082181120 := by rw [Fq.rhi, if_neg (by rw [s1]; decide)]
    have hv := void6_ a b ha hb true (by simpa using s1)
    rw [q1, q2] at hr
    refine ⟨9218868437227405312, 18442240474082181120, fun w hQ => ?_, fun w => ?_⟩
    · exact sqv_ a b _ _ hp hv empty6K_ w
    · exact rsqe_ _ _ _ _ hr (by decide) (by decide) w
set_option maxRecDepth 20000 in
set_option maxHeartbeats 4000000 in
theorem ivroots_ (a b : Nat) (ha : a < 18446744073709551616) (hb : b < 18446744073709551616) (w : World) (hQ : Fq.Tab w) : Calls Tryz.prog 3 #[.agg #[.int .u64 ((a : Nat) : Int), .int .u64 ((b : Nat) : Int)]] w fun e w' => e = .returned (.bool true) ∧ Kp w w' := by
  obtain ⟨LO, HI, hP0, hR⟩ := root_both6 a b ha hb
  have hP : ∀ W : World, Kp w W → Calls Tryz.prog 5 #[.agg #[.float .f64 a, .float .f64 b]] W fun e w' => e = .returned (.agg #[.float .f64 LO, .float .f64 HI]) ∧ Kp W w' := fun W y => hP0 W (Fq.Tab.grown hQ y)
  clear hP0 hQ
  have h1 := Fq.in_ a b
  have hO := Fq.out_ LO HI
  clear ha hb
  generalize (LO : Int) = LI at hR hO
  generalize (HI : Int) = HJ at hR hO
  generalize (a : Int) = X at h1 hR ⊢
  generalize (b : Int) = Y at h1 hR ⊢
  go_enter Tryz.func3, Tryz.ntmps3
  go_wp2
  refine Fq.wp_region_grow (by kernel_rfl) (by kernel_rfl) (fun ι _ G hG hall => ?_)
  have cc0 : ∀ n, (G n).cell? ⟨w.heap.size, 0, none⟩ = some (.int .u64 X) := fun n => Fq.gkeep (hG n) (by simp [go_sem])
  have cc1 : ∀ n, (G n).cell? ⟨w.heap.size, 1, none⟩ = some (.int .u64 Y) := fun n => Fq.gkeep (hG n) (by simp [go_sem])
  have kG : ∀ n, Kp w (G n) := fun n => Kp.trans ((Kp.refl w).alloc _) (hG n)
  repeat (go_big_quiet_step (first | (go_at_call 6; exact (h1 _).mono (fun e w' h => ⟨h.1, hall _ (Fq.gtrans (hG _) h.2)⟩)) | (go_at_call 5; exact (hP _ (kG _)).mono (fun e w' h => ⟨h.1, hall _ (Fq.gtrans (hG _) h.2)⟩)) | (go_at_call 4; exact (hO _).mono (fun e w' h => ⟨h.1, hall _ (Fq.gtrans (hG _) h.2)⟩)) | (go_at_call 7; exact (hR _).mono (fun e w' h => ⟨h.1, hall _ (Fq.gtrans (hG _) h.2)⟩))))
  refine wpQuiet_nil ?_
  rintro _ ⟨nq, rfl⟩
  have gq : Kp w (G nq) := Kp.trans ((Kp.refl w).alloc _) (hG nq)
  clear cc0 cc1 hall hG kG
  go_wp2
  exact bodyPost_ret (v := .bool true) (by simp [results, Tryz.results3, go_sem]) rfl ⟨rfl, gq⟩
end Go.Proofs.YtdoggmkkegoldaaGreatDoor
