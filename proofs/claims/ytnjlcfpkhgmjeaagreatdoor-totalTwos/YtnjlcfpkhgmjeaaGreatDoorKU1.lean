import Derived.Test.YtnjlcfpkhgmjeaaGreatDoorKH4Q
import Derived.Test.YtnjlcfpkhgmjeaaGreatDoorKMR20
namespace Go.Proofs.YtnjlcfpkhgmjeaaGreatDoor
open Go.RowKit
set_option maxRecDepth 20000 in
set_option maxHeartbeats 400000 in
theorem halves_ (n : Bool) (m : Nat) (hm : m < 9218868437227405312) (e : Nat) (he : e ≤ 1960) (hU : ((2 ^ e : Nat) : Int) ∣ Iv n m) (b1 : 4503599627370496 * 2 ^ e ≤ (Iv n m).natAbs) (b2 : (Iv n m).natAbs < 9007199254740992 * 2 ^ e) :
    ∃ (h l : Bool) (hr lr : Nat), (∀ w : World, Calls Tryz.prog 68 #[.float .f64 (Fq.wD n m)] w fun e w' => e = .returned (.tuple #[.float .f64 (Fq.wD h hr), .float .f64 (Fq.wD l lr)]) ∧ w' = w) ∧ hr < 9218868437227405312 ∧ lr < 9218868437227405312 ∧ ∃ a b : Int, Iv h hr = 134217728 * (((2 ^ e : Nat) : Int) * a) ∧ Iv l lr = ((2 ^ e : Nat) : Int) * b ∧ Iv n m = Iv h hr + Iv l lr ∧ a.natAbs ≤ 67108864 ∧ b.natAbs ≤ 67108864 := by
  obtain ⟨c, g, h, l, cr, gr, hr, lr, e1, e2, e3, e4, h1, h2, h3⟩ := half_words n m hm e he hU b1 b2
  refine ⟨h, l, hr, lr, fun w => ?_, h1, h2, h3⟩
  obtain ⟨X, hX⟩ : ∃ X, X = Fq.wD n m := ⟨_, rfl⟩
  obtain ⟨C, hC⟩ : ∃ C, C = Fq.wD c cr := ⟨_, rfl⟩
  obtain ⟨G, hG⟩ : ∃ G, G = Fq.wD g gr := ⟨_, rfl⟩
  obtain ⟨H, hH⟩ : ∃ H, H = Fq.wD h hr := ⟨_, rfl⟩
  obtain ⟨L, hL⟩ : ∃ L, L = Fq.wD l lr := ⟨_, rfl⟩
  rw [show Fq.wD false 4728779608772575232 = 4728779608772575232 from rfl, ← hX, ← hC] at e1
  rw [← hC, ← hX, ← hG] at e2
  rw [← hC, ← hG, ← hH] at e3
  rw [← hX, ← hH, ← hL] at e4
  rw [← hX, ← hH, ← hL]
  have g1 : ∀ w : World, (binOp .mul 24 (.float .f64 X) (.float .f64 4728779608772575232)).run Tryz.prog w = .ok (.float .f64 C) w := fun w => run_float_arith w .mul 24 .f64 X 4728779608772575232 C e1
  have g2 : ∀ w : World, (binOp .sub 24 (.float .f64 C) (.float .f64 X)).run Tryz.prog w = .ok (.float .f64 G) w := fun w => run_float_arith w .sub 24 .f64 C X G e2
  have g3 : ∀ w : World, (binOp .sub 24 (.float .f64 C) (.float .f64 G)).run Tryz.prog w = .ok (.float .f64 H) w := fun w => run_float_arith w .sub 24 .f64 C G H e3
  have g4 : ∀ w : World, (binOp .sub 24 (.float .f64 X) (.float .f64 H)).run Tryz.prog w = .ok (.float .f64 L) w := fun w => run_float_arith w .sub 24 .f64 X H L e4
  clear hX hC hG hH hL e1 e2 e3 e4 h1 h2 h3 hm hU b1 b2
  go_enter Tryz.func68, Tryz.ntmps68
  go_wp2
  exact bodyPost_ret (v := .tuple #[.float .f64 H, .float .f64 L]) (by simp [results, Tryz.results68, go_sem]) rfl ⟨rfl, rfl⟩
set_option maxRecDepth 20000 in
set_option maxHeartbeats 1000000 in
theorem twoProduct_ (n n' : Bool) (m m' e e' : Nat) (hm : m < 9218868437227405312) (hm' : m' < 9218868437227405312) (he : e ≤ 1960) (he' : e' ≤ 1960) (s1 : 1074 ≤ e + e') (s2 : e + e' ≤ 2944) (hU : ((2 ^ e : Nat) : Int) ∣ Iv n m) (b1 : 4503599627370496 * 2 ^ e ≤ (Iv n m).natAbs) (b2 : (Iv n m).natAbs < 9007199254740992 * 2 ^ e) (hU' : ((2 ^ e' : Nat) : Int) ∣ Iv n' m') (b3 : 4503599627370496 * 2 ^ e' ≤ (Iv n' m').natAbs) (b4 : (Iv n' m').natAbs < 9007199254740992 * 2 ^ e') (L : Nat) (hL : L = 1074) :
    ∃ (V : Int) (s o : Bool) (r ro K : Nat), V * ((2 ^ L : Nat) : Int) = Iv n m * Iv n' m' ∧ (∀ w : World, Calls Tryz.prog 36 #[.float .f64 (Fq.wD n m), .float .f64 (Fq.wD n' m')] w fun e w' => e = .returned (.tuple #[.float .f64 (Fq.wD s r), .float .f64 (Fq.wD o ro)]) ∧ w' = w) ∧ r < 9218868437227405312 ∧ ro < 9218868437227405312 ∧ r = rgU 53 (rU 0 53 V.natAbs 1) ∧ s = (if V = 0 then n ^^ n' else decide (V < 0)) ∧ Iv o ro = V - Iv s r ∧ 53 ≤ K ∧ K ≤ 2096 ∧ V.natAbs < 2 ^ K := by
  obtain ⟨h, l, hr, lr, k1, f1, f2, a, b, ga, gb, gx, la, lb⟩ := halves_ n m hm e he hU b1 b2
  obtain ⟨h', l', hr', lr', k2, f3, f4, a', b', ga', gb', gx', la', lb'⟩ := halves_ n' m' hm' e' he' hU' b3 b4
  obtain ⟨V, s, p1, q1, p2, q2, p3, q3, p4, o, r, pr1, qr1, pr2, qr2, pr3, qr3, pr4, ro, K, zV, w0, w1, w2, w3, w4, w5, w6, w7, w8, r0, r8, e0, e0', hex, K1, K2, kV⟩ := prod_words n n' h l h' l' m m' hr lr hr' lr' e e' hm hm' f1 f2 f3 f4 s1 s2 b1 b2 b3 b4 a b a' b' ga gb gx la lb ga' gb' gx' la' lb' L hL
  refine ⟨V, s, o, r, ro, K, zV, fun w => ?_, r0, r8, e0, e0', hex, K1, K2, kV⟩
  clear zV r0 r8 e0 e0' hex K1 K2 kV ga gb gx la lb ga' gb' gx' la' lb' f1 f2 f3 f4 hU b1 b2 hU' b3 b4 s1 s2 hm hm' he he' hL
  obtain ⟨X, hX⟩ : ∃ X, X = Fq.wD n m := ⟨_, rfl⟩
  obtain ⟨Y, hY⟩ : ∃ Y, Y = Fq.wD n' m' := ⟨_, rfl⟩
  obtain ⟨S, hS⟩ : ∃ S, S = Fq.wD s r := ⟨_, rfl⟩
  obtain ⟨H1, hH1⟩ : ∃ H1, H1 = Fq.wD h hr := ⟨_, rfl⟩
  obtain ⟨L1, hL1⟩ : ∃ L1, L1 = Fq.wD l lr := ⟨_, rfl⟩
  obtain ⟨H2, hH2⟩ : ∃ H2, H2 = Fq.wD h' hr' := ⟨_, rfl⟩
  obtain ⟨L2, hL2⟩ : ∃ L2, L2 = Fq.wD l' lr' := ⟨_, rfl⟩
  obtain ⟨P1, hP1⟩ : ∃ P1, P1 = Fq.wD p1 pr1 := ⟨_, rfl⟩
  obtain ⟨P2, hP2⟩ : ∃ P2, P2 = Fq.wD p2 pr2 := ⟨_, rfl⟩
  obtain ⟨P3, hP3⟩ : ∃ P3, P3 = Fq.wD p3 pr3 := ⟨_, rfl⟩
  obtain ⟨P4, hP4⟩ : ∃ P4, P4 = Fq.wD p4 pr4 := ⟨_, rfl⟩
  obtain ⟨Q1, hQ1⟩ : ∃ Q1, Q1 = Fq.wD q1 qr1 := ⟨_, rfl⟩
  obtain ⟨Q2, hQ2⟩ : ∃ Q2, Q2 = Fq.wD q2 qr2 := ⟨_, rfl⟩
  obtain ⟨Q3, hQ3⟩ : ∃ Q3, Q3 = Fq.wD q3 qr3 := ⟨_, rfl⟩
  obtain ⟨O, hO⟩ : ∃ O, O = Fq.wD o ro := ⟨_, rfl⟩
  rw [← hX, ← hY, ← hS] at w0
  rw [← hH1, ← hH2, ← hP1] at w1
  rw [← hS, ← hP1, ← hQ1] at w2
  rw [← hL1, ← hH2, ← hP2] at w3
  rw [← hQ1, ← hP2, ← hQ2] at w4
  rw [← hH1, ← hL2, ← hP3] at w5
  rw [← hQ2, ← hP3, ← hQ3] at w6
  rw [← hL1, ← hL2, ← hP4] at w7
  rw [← hP4, ← hQ3, ← hO] at w8
  rw [← hX, ← hH1, ← hL1] at k1
  rw [← hY, ← hH2, ← hL2] at k2
  rw [← hX, ← hY, ← hS, ← hO]
  have g0 : ∀ w : World, (binOp .mul 24 (.float .f64 X) (.float .f64 Y)).run Tryz.prog w = .ok (.float .f64 S) w := fun w => run_float_arith w .mul 24 .f64 X Y S w0
  have g1 : ∀ w : World, (binOp .mul 24 (.float .f64 H1) (.float .f64 H2)).run Tryz.prog w = .ok (.float .f64 P1) w := fun w => run_float_arith w .mul 24 .f64 H1 H2 P1 w1
  have g2 : ∀ w : World, (binOp .sub 24 (.float .f64 S) (.float .f64 P1)).run Tryz.prog w = .ok (.float .f64 Q1) w := fun w => run_float_arith w .sub 24 .f64 S P1 Q1 w2
  have g3 : ∀ w : World, (binOp .mul 24 (.float .f64 L1) (.float .f64 H2)).run Tryz.prog w = .ok (.float .f64 P2) w := fun w => run_float_arith w .mul 24 .f64 L1 H2 P2 w3
  have g4 : ∀ w : World, (binOp .sub 24 (.float .f64 Q1) (.float .f64 P2)).run Tryz.prog w = .ok (.float .f64 Q2) w := fun w => run_float_arith w .sub 24 .f64 Q1 P2 Q2 w4
  have g5 : ∀ w : World, (binOp .mul 24 (.float .f64 H1) (.float .f64 L2)).run Tryz.prog w = .ok (.float .f64 P3) w := fun w => run_float_arith w .mul 24 .f64 H1 L2 P3 w5
  have g6 : ∀ w : World, (binOp .sub 24 (.float .f64 Q2) (.float .f64 P3)).run Tryz.prog w = .ok (.float .f64 Q3) w := fun w => run_float_arith w .sub 24 .f64 Q2 P3 Q3 w6
  have g7 : ∀ w : World, (binOp .mul 24 (.float .f64 L1) (.float .f64 L2)).run Tryz.prog w = .ok (.float .f64 P4) w := fun w => run_float_arith w .mul 24 .f64 L1 L2 P4 w7
  have g8 : ∀ w : World, (binOp .sub 24 (.float .f64 P4) (.float .f64 Q3)).run Tryz.prog w = .ok (.float .f64 O) w := fun w => run_float_arith w .sub 24 .f64 P4 Q3 O w8
  clear hX hY hS hH1 hL1 hH2 hL2 hP1 hP2 hP3 hP4 hQ1 hQ2 hQ3 hO w0 w1 w2 w3 w4 w5 w6 w7 w8
  go_enter Tryz.func36, Tryz.ntmps36
  go_wp2_with fail
  refine (k1 _).mono ?_; rintro e w' ⟨rfl, hw'⟩; obtain rfl := hw'.symm; clear hw' k1
  go_wp2_with fail
  refine (k2 _).mono ?_; rintro e w' ⟨rfl, hw'⟩; obtain rfl := hw'.symm; clear hw' k2
  go_wp2
  exact bodyPost_ret (v := .tuple #[.float .f64 S, .float .f64 O]) (by simp [results, Tryz.results36, go_sem]) rfl ⟨rfl, rfl⟩
end Go.Proofs.YtnjlcfpkhgmjeaaGreatDoor
