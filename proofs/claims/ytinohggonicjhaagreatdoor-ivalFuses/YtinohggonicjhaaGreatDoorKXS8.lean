import Derived.Test.YtinohggonicjhaaGreatDoorKXMS
import Derived.Test.YtinohggonicjhaaGreatDoorKXS4
namespace Go.Proofs.YtinohggonicjhaaGreatDoor
open Go.RowKit
theorem read_nanD (n : Bool) (m : Nat) (h1 : 9218868437227405312 < m) (h2 : m < 9223372036854775808) : Ieee.double.read (Fq.wD n m) = .nan n (m - 9218868437227405312) := by
  rw [Fq.read_nan Ieee.double _ Fq.binfD (by rw [Fq.rgD n m h2, Fq.infD]; exact h1), Fq.rgD n m h2, Fq.ngD n m h2, Fq.infD]
theorem read_infD (n : Bool) : Ieee.double.read (Fq.wD n 9218868437227405312) = .infinity n := by
  rw [Fq.read_inf Ieee.double _ Fq.binfD (by rw [Fq.rgD n 9218868437227405312 (by decide), Fq.infD]), Fq.ngD n 9218868437227405312 (by decide)]
theorem read_finD (n : Bool) (m : Nat) (h : m < 9218868437227405312) : ∃ a e, Ieee.double.read (Fq.wD n m) = .number n a e := by
  rw [Fq.read_fin _ _ (by rw [Fq.rgD n m (by omega), Fq.infD]; exact h), Fq.ngD n m (by omega)]
  exact ⟨_, _, rfl⟩
def badS (n : Bool) (m : Nat) (n' : Bool) (m' : Nat) : Prop := 9218868437227405312 < m ∨ 9218868437227405312 < m' ∨ (m = 9218868437227405312 ∧ m' = 9218868437227405312 ∧ n ≠ n')
theorem add_bad (n n' : Bool) (m m' : Nat) (hm : m < 9223372036854775808) (hm' : m' < 9223372036854775808) (h : badS n m n' m') : FloatKind.f64.format.add (Fq.wD n m) (Fq.wD n' m') = none := by
  show Ieee.double.add _ _ = none
  unfold Ieee.Format.add
  by_cases c1 : 9218868437227405312 < m
  · rw [read_nanD n m c1 hm]; rfl
  · by_cases c2 : 9218868437227405312 < m'
    · rw [read_nanD n' m' c2 hm']
      by_cases c3 : m = 9218868437227405312
      · rw [c3, read_infD]; rfl
      · obtain ⟨a, e, he⟩ := read_finD n m (by omega)
        rw [he]; rfl
    · obtain ⟨e1, e2, e3⟩ := (h.resolve_left c1).resolve_left c2
      rw [e1, e2, read_infD, read_infD]
      unfold Ieee.Datum.sum
      simp only
      rw [if_neg e3]; rfl
theorem add_inf (n n' : Bool) (m m' : Nat) (h : ¬ badS n m n' m') (hi : ¬ (m < 9218868437227405312 ∧ m' < 9218868437227405312)) : FloatKind.f64.format.add (Fq.wD n m) (Fq.wD n' m') = some (Fq.wD (if m = 9218868437227405312 then n else n') 9218868437227405312) := by
  unfold badS at h
  have hw : ∀ s, Ieee.double.write (.infinity s) = Fq.wD s 9218868437227405312 := fun s => by unfold Ieee.Format.write Ieee.Format.word Fq.wD; rw [Fq.signD, Fq.infD]
  show Ieee.double.add _ _ = _
  unfold Ieee.Format.add
  by_cases c1 : m = 9218868437227405312
  · rw [if_pos c1, c1, read_infD]
    by_cases c2 : m' = 9218868437227405312
    · have e : n = n' := by
        rcases Decidable.em (n = n') with e | e
        · exact e
        · exact absurd (Or.inr (Or.inr ⟨c1, c2, e⟩)) h
      rw [c2, read_infD]
      unfold Ieee.Datum.sum
      simp only
      rw [if_pos e]
      exact congrArg some (hw n)
    · obtain ⟨a, e, he⟩ := read_finD n' m' (by omega)
      rw [he]
      exact congrArg some (hw n)
  · have c2 : m' = 9218868437227405312 := by omega
    rw [if_neg c1, c2, read_infD]
    obtain ⟨a, e, he⟩ := read_finD n m (by omega)
    rw [he]
    exact congrArg some (hw n')
theorem nan_cutD (t : Nat) : 9218868437227405312 < (t % 2 * 2 ^ 63 + 0x7ff0000000000000 + 1 + t / 2 % (2 ^ 52 - 1)) % 9223372036854775808 ∧ t % 2 * 2 ^ 63 + 0x7ff0000000000000 + 1 + t / 2 % (2 ^ 52 - 1) < 18446744073709551616 := by
  rw [show (2 : Nat) ^ 63 = 9223372036854775808 from by decide, show (2 : Nat) ^ 52 - 1 = 4503599627370495 from by decide]
  have h1 : t % 2 = 0 ∨ t % 2 = 1 := by omega
  have h2 : t / 2 % 4503599627370495 < 4503599627370495 := Nat.mod_lt _ (by decide)
  generalize t / 2 % 4503599627370495 = b at *
  rcases h1 with h | h <;> rw [h] <;> omega
theorem run_nan (X Y : Nat) (h : FloatKind.f64.format.add X Y = none) (w : World) : ∃ r, 9218868437227405312 < r % 9223372036854775808 ∧ r < 18446744073709551616 ∧ (binOp .add 26 (.float .f64 X) (.float .f64 Y)).run Tryz.prog w = .ok (.float .f64 r) w.drew := by
  refine ⟨Question.cut (.nanBits .f64 X Y) _, ?_, ?_, by simp [binOp, Op.floatArith, h]; rfl⟩
  · simp only [Question.cut]; exact (nan_cutD _).1
  · simp only [Question.cut]; exact (nan_cutD _).2
set_option maxRecDepth 20000 in
set_option maxHeartbeats 400000 in
theorem halves_ (n : Bool) (m : Nat) (hm : m < 9218868437227405312) (e : Nat) (he : e ≤ 1960) (hU : ((2 ^ e : Nat) : Int) ∣ Iv n m) (b1 : 4503599627370496 * 2 ^ e ≤ (Iv n m).natAbs) (b2 : (Iv n m).natAbs < 9007199254740992 * 2 ^ e) :
    ∃ (h l : Bool) (hr lr : Nat), (∀ w : World, Calls Tryz.prog 139 #[.float .f64 (Fq.wD n m)] w fun e w' => e = .returned (.tuple #[.float .f64 (Fq.wD h hr), .float .f64 (Fq.wD l lr)]) ∧ w' = w) ∧ hr < 9218868437227405312 ∧ lr < 9218868437227405312 ∧ ∃ a b : Int, Iv h hr = 134217728 * (((2 ^ e : Nat) : Int) * a) ∧ Iv l lr = ((2 ^ e : Nat) : Int) * b ∧ Iv n m = Iv h hr + Iv l lr ∧ a.natAbs ≤ 67108864 ∧ b.natAbs ≤ 67108864 := by
  obtain ⟨c, g, h, l, cr, gr, hr, lr, e1, e2, e3, e4, h1, h2, h3⟩ := half_words n m hm e he hU b1 b2
  refine ⟨h, l, hr, lr, fun w => ?_, h1, h2, h3⟩
  obtain ⟨X, hX⟩ : ∃ X, X = Fq.wD n m := ⟨_, rfl⟩
  obtain ⟨C, hC⟩ : ∃ C, C = Fq.wD c cr := ⟨_, rfl⟩
  obtain ⟨G, hG⟩ : ∃ G, G = Fq.wD g gr := ⟨_, rfl⟩
  obtain ⟨H, hH⟩ : ∃ H, H = Fq.wD h hr := ⟨_, rfl⟩
  obtain ⟨L, hL⟩ : ∃ L, L = Fq.wD l lr := ⟨_, rfl⟩
  rw [show Fq.wD false 4728779608772575232 = 4728779608772575232 from rfl, ← hX, ← hC] at e1
  rw [← hC, ← hX, ← hG] at e2
  rw [← hC, ← hG, ← hH] at e3
  rw [← hX, ← hH, ← hL] at e4
  rw [← hX, ← hH, ← hL]
  have g1 : ∀ w : World, (binOp .mul 26 (.float .f64 X) (.float .f64 4728779608772575232)).run Tryz.prog w = .ok (.float .f64 C) w := fun w => run_float_arith w .mul 26 .f64 X 4728779608772575232 C e1
  have g2 : ∀ w : World, (binOp .sub 26 (.float .f64 C) (.float .f64 X)).run Tryz.prog w = .ok (.float .f64 G) w := fun w => run_float_arith w .sub 26 .f64 C X G e2
  have g3 : ∀ w : World, (binOp .sub 26 (.float .f64 C) (.float .f64 G)).run Tryz.prog w = .ok (.float .f64 H) w := fun w => run_float_arith w .sub 26 .f64 C G H e3
  have g4 : ∀ w : World, (binOp .sub 26 (.float .f64 X) (.float .f64 H)).run Tryz.prog w = .ok (.float .f64 L) w := fun w => run_float_arith w .sub 26 .f64 X H L e4
  clear hX hC hG hH hL e1 e2 e3 e4 h1 h2 h3 hm hU b1 b2
  go_enter Tryz.func139, Tryz.ntmps139
  go_wp2
  exact bodyPost_ret (v := .tuple #[.float .f64 H, .float .f64 L]) (by simp [results, Tryz.results139, go_sem]) rfl ⟨rfl, rfl⟩
set_option maxRecDepth 20000 in
set_option maxHeartbeats 1000000 in
theorem twoProduct_ (n n' : Bool) (m m' e e' : Nat) (hm : m < 9218868437227405312) (hm' : m' < 9218868437227405312) (he : e ≤ 1960) (he' : e' ≤ 1960) (s1 : 1074 ≤ e + e') (s2 : e + e' ≤ 2944) (hU : ((2 ^ e : Nat) : Int) ∣ Iv n m) (b1 : 4503599627370496 * 2 ^ e ≤ (Iv n m).natAbs) (b2 : (Iv n m).natAbs < 9007199254740992 * 2 ^ e) (hU' : ((2 ^ e' : Nat) : Int) ∣ Iv n' m') (b3 : 4503599627370496 * 2 ^ e' ≤ (Iv n' m').natAbs) (b4 : (Iv n' m').natAbs < 9007199254740992 * 2 ^ e') (L : Nat) (hL : L = 1074) :
    ∃ (V : Int) (s o : Bool) (r ro K : Nat), V * ((2 ^ L : Nat) : Int) = Iv n m * Iv n' m' ∧ (∀ w : World, Calls Tryz.prog 107 #[.float .f64 (Fq.wD n m), .float .f64 (Fq.wD n' m')] w fun e w' => e = .returned (.tuple #[.float .f64 (Fq.wD s r), .float .f64 (Fq.wD o ro)]) ∧ w' = w) ∧ r < 9218868437227405312 ∧ ro < 9218868437227405312 ∧ r = rgU 53 (rU 0 53 V.natAbs 1) ∧ s = (if V = 0 then n ^^ n' else decide (V < 0)) ∧ Iv o ro = V - Iv s r ∧ 53 ≤ K ∧ K ≤ 2096 ∧ V.natAbs < 2 ^ K := by
  obtain ⟨h, l, hr, lr, k1, f1, f2, a, b, ga, gb, gx, la, lb⟩ := halves_ n m hm e he hU b1 b2
  obtain ⟨h', l', hr', lr', k2, f3, f4, a', b', ga', gb', gx', la', lb'⟩ := halves_ n' m' hm' e' he' hU' b3 b4
  obtain ⟨V, s, p1, q1, p2, q2, p3, q3, p4, o, r, pr1, qr1, pr2, qr2, pr3, qr3, pr4, ro, K, zV, w0, w1, w2, w3, w4, w5, w6, w7, w8, r0, r8, e0, e0', hex, K1, K2, kV⟩ := prod_words n n' h l h' l' m m' hr lr hr' lr' e e' hm hm' f1 f2 f3 f4 s1 s2 b1 b2 b3 b4 a b a' b' ga gb gx la lb ga' gb' gx' la' lb' L hL
  refine ⟨V, s, o, r, ro, K, zV, fun w => ?_, r0, r8, e0, e0', hex, K1, K2, kV⟩
  clear zV r0 r8 e0 e0' hex K1 K2 kV ga gb gx la lb ga' gb' gx' la' lb' f1 f2 f3 f4 hU b1 b2 hU' b3 b4 s1 s2 hm hm' he he' hL
  obtain ⟨X, hX⟩ : ∃ X, X = Fq.wD n m := ⟨_, rfl⟩
  obtain ⟨Y, hY⟩ : ∃ Y, Y = Fq.wD n' m' := ⟨_, rfl⟩
  obtain ⟨S, hS⟩ : ∃ S, S = Fq.wD s r := ⟨_, rfl⟩
  obtain ⟨H1, hH1⟩ : ∃ H1, H1 = Fq.wD h hr := ⟨_, rfl⟩
  obtain ⟨L1, hL1⟩ : ∃ L1, L1 = Fq.wD l lr := ⟨_, rfl⟩
  obtain ⟨H2, hH2⟩ : ∃ H2, H2 = Fq.wD h' hr' := ⟨_, rfl⟩
  obtain ⟨L2, hL2⟩ : ∃ L2, L2 = Fq.wD l' lr' := ⟨_, rfl⟩
  obtain ⟨P1, hP1⟩ : ∃ P1, P1 = Fq.wD p1 pr1 := ⟨_, rfl⟩
  obtain ⟨P2, hP2⟩ : ∃ P2, P2 = Fq.wD p2 pr2 := ⟨_, rfl⟩
  obtain ⟨P3, hP3⟩ : ∃ P3, P3 = Fq.wD p3 pr3 := ⟨_, rfl⟩
  obtain ⟨P4, hP4⟩ : ∃ P4, P4 = Fq.wD p4 pr4 := ⟨_, rfl⟩
  obtain ⟨Q1, hQ1⟩ : ∃ Q1, Q1 = Fq.wD q1 qr1 := ⟨_, rfl⟩
  obtain ⟨Q2, hQ2⟩ : ∃ Q2, Q2 = Fq.wD q2 qr2 := ⟨_, rfl⟩
  obtain ⟨Q3, hQ3⟩ : ∃ Q3, Q3 = Fq.wD q3 qr3 := ⟨_, rfl⟩
  obtain ⟨O, hO⟩ : ∃ O, O = Fq.wD o ro := ⟨_, rfl⟩
  rw [← hX, ← hY, ← hS] at w0
  rw [← hH1, ← hH2, ← hP1] at w1
  rw [← hS, ← hP1, ← hQ1] at w2
  rw [← hL1, ← hH2, ← hP2] at w3
  rw [← hQ1, ← hP2, ← hQ2] at w4
  rw [← hH1, ← hL2, ← hP3] at w5
  rw [← hQ2, ← hP3, ← hQ3] at w6
  rw [← hL1, ← hL2, ← hP4] at w7
  rw [← hP4, ← hQ3, ← hO] at w8
  rw [← hX, ← hH1, ← hL1] at k1
  rw [← hY, ← hH2, ← hL2] at k2
  rw [← hX, ← hY, ← hS, ← hO]
  have g0 : ∀ w : World, (binOp .mul 26 (.float .f64 X) (.float .f64 Y)).run Tryz.prog w = .ok (.float .f64 S) w := fun w => run_float_arith w .mul 26 .f64 X Y S w0
  have g1 : ∀ w : World, (binOp .mul 26 (.float .f64 H1) (.float .f64 H2)).run Tryz.prog w = .ok (.float .f64 P1) w := fun w => run_float_arith w .mul 26 .f64 H1 H2 P1 w1
  have g2 : ∀ w : World, (binOp .sub 26 (.float .f64 S) (.float .f64 P1)).run Tryz.prog w = .ok (.float .f64 Q1) w := fun w => run_float_arith w .sub 26 .f64 S P1 Q1 w2
  have g3 : ∀ w : World, (binOp .mul 26 (.float .f64 L1) (.float .f64 H2)).run Tryz.prog w = .ok (.float .f64 P2) w := fun w => run_float_arith w .mul 26 .f64 L1 H2 P2 w3
  have g4 : ∀ w : World, (binOp .sub 26 (.float .f64 Q1) (.float .f64 P2)).run Tryz.prog w = .ok (.float .f64 Q2) w := fun w => run_float_arith w .sub 26 .f64 Q1 P2 Q2 w4
  have g5 : ∀ w : World, (binOp .mul 26 (.float .f64 H1) (.float .f64 L2)).run Tryz.prog w = .ok (.float .f64 P3) w := fun w => run_float_arith w .mul 26 .f64 H1 L2 P3 w5
  have g6 : ∀ w : World, (binOp .sub 26 (.float .f64 Q2) (.float .f64 P3)).run Tryz.prog w = .ok (.float .f64 Q3) w := fun w => run_float_arith w .sub 26 .f64 Q2 P3 Q3 w6
  have g7 : ∀ w : World, (binOp .mul 26 (.float .f64 L1) (.float .f64 L2)).run Tryz.prog w = .ok (.float .f64 P4) w := fun w => run_float_arith w .mul 26 .f64 L1 L2 P4 w7
  have g8 : ∀ w : World, (binOp .sub 26 (.float .f64 P4) (.float .f64 Q3)).run Tryz.prog w = .ok (.float .f64 O) w := fun w => run_float_arith w .sub 26 .f64 P4 Q3 O w8
  clear hX hY hS hH1 hL1 hH2 hL2 hP1 hP2 hP3 hP4 hQ1 hQ2 hQ3 hO w0 w1 w2 w3 w4 w5 w6 w7 w8
  go_enter Tryz.func107, Tryz.ntmps107
  go_wp2_with fail
  refine (k1 _).mono ?_; rintro e w' ⟨rfl, hw'⟩; obtain rfl := hw'.symm; clear hw' k1
  go_wp2_with fail
  refine (k2 _).mono ?_; rintro e w' ⟨rfl, hw'⟩; obtain rfl := hw'.symm; clear hw' k2
  go_wp2
  exact bodyPost_ret (v := .tuple #[.float .f64 S, .float .f64 O]) (by simp [results, Tryz.results107, go_sem]) rfl ⟨rfl, rfl⟩
open Ieee in
theorem ord_const (m C : Nat) (hm : m < 9223372036854775808) (hC : C ≤ 9218868437227405312) : FloatKind.f64.format.order m C = if m ≤ 9218868437227405312 then some (compare (m : Int) (C : Int)) else none := by
  have hf : FloatKind.f64.format = double := rfl
  have hi : double.infRung = 9218868437227405312 := by decide +kernel
  have hw : double.signWeight = 9223372036854775808 := by decide +kernel
  have hb : double.binade ≤ double.infRung := by decide +kernel
  have r1 : Fq.rg double m = m := by unfold Fq.rg; rw [hw]; exact Nat.mod_eq_of_lt hm
  have r2 : Fq.rg double C = C := by unfold Fq.rg; rw [hw]; exact Nat.mod_eq_of_lt (by omega)
  have p1 : Fq.pl double m = (m : Int) := by
    unfold Fq.pl Fq.ng
    rw [r1, hw, Nat.div_eq_of_lt hm]; rfl
  have p2 : Fq.pl double C = (C : Int) := by
    unfold Fq.pl Fq.ng
    rw [r2, hw, Nat.div_eq_of_lt (by omega)]; rfl
  rw [hf]
  by_cases c : m ≤ 9218868437227405312
  · rw [if_pos c, Fq.order_num double m C hb (by rw [r1, hi]; exact c) (by rw [r2, hi]; exact hC), p1, p2]
  · rw [if_neg c, Fq.order_nan_left double m C hb (by rw [r1, hi]; omega)]
set_option maxRecDepth 20000 in
set_option maxHeartbeats 400000 in
theorem mild_ (n : Bool) (m : Nat) (hm : m < 9223372036854775808) (w : World) : Calls Tryz.prog 56 #[.float .f64 (Fq.wD n m)] w fun e w' => e = .returned (.bool (decide (2580562586483294208 ≤ m ∧ m ≤ 6633802251116740608))) ∧ w' = w := by
  have h := abs_ n m hm w
  obtain ⟨X, hX⟩ : ∃ X, X = Fq.wD n m := ⟨_, rfl⟩
  rw [← hX] at h ⊢
  have q1 := ord_const m 2580562586483294208 hm (by decide)
  have q2 := ord_const m 6633802251116740608 hm (by decide)
  clear hX
  by_cases c : m ≤ 9218868437227405312
  · rw [if_pos c] at q1 q2
    rcases Int.lt_trichotomy (m : Int) (2580562586483294208 : Nat) with d1 | d1 | d1
    · have o1 : FloatKind.f64.format.order m 2580562586483294208 = some .lt := by rw [q1, Int.compare_eq_lt.2 d1]
      rw [decide_eq_false (by omega)]
      clear q1 q2 c d1
      go_enter Tryz.func56, Tryz.ntmps56
      go_wp2_with fail
      refine h.mono ?_; rintro e w' ⟨rfl, hw'⟩; obtain rfl := hw'.symm; clear hw'
      go_wp2
      exact bodyPost_ret (v := .bool false) (by simp [results, Tryz.results56, go_sem]) rfl ⟨rfl, rfl⟩
    · have o1 : FloatKind.f64.format.order m 2580562586483294208 = some .eq := by rw [q1, Int.compare_eq_eq.2 d1]
      have o2 : FloatKind.f64.format.order m 6633802251116740608 = some .lt := by rw [q2, Int.compare_eq_lt.2 (by omega)]
      rw [decide_eq_true (by omega)]
      clear q1 q2 c d1
      go_enter Tryz.func56, Tryz.ntmps56
      go_wp2_with fail
      refine h.mono ?_; rintro e w' ⟨rfl, hw'⟩; obtain rfl := hw'.symm; clear hw'
      go_wp2_with fail
      refine h.mono ?_; rintro e w' ⟨rfl, hw'⟩; obtain rfl := hw'.symm; clear hw'
      go_wp2
      exact bodyPost_ret (v := .bool true) (by simp [results, Tryz.results56, go_sem]) rfl ⟨rfl, rfl⟩
    · have o1 : FloatKind.f64.format.order m 2580562586483294208 = some .gt := by rw [q1, Int.compare_eq_gt.2 d1]
      rcases Int.lt_trichotomy (m : Int) (6633802251116740608 : Nat) with d2 | d2 | d2
      · have o2 : FloatKind.f64.format.order m 6633802251116740608 = some .lt := by rw [q2, Int.compare_eq_lt.2 d2]
        rw [decide_eq_true (by omega)]
        clear q1 q2 c d1 d2
        go_enter Tryz.func56, Tryz.ntmps56
        go_wp2_with fail
        refine h.mono ?_; rintro e w' ⟨rfl, hw'⟩; obtain rfl := hw'.symm; clear hw'
        go_wp2_with fail
        refine h.mono ?_; rintro e w' ⟨rfl, hw'⟩; obtain rfl := hw'.symm; clear hw'
        go_wp2
        exact bodyPost_ret (v := .bool true) (by simp [results, Tryz.results56, go_sem]) rfl ⟨rfl, rfl⟩
      · have o2 : FloatKind.f64.format.order m 6633802251116740608 = some .eq := by rw [q2, Int.compare_eq_eq.2 d2]
        rw [decide_eq_true (by omega)]
        clear q1 q2 c d1 d2
        go_enter Tryz.func56, Tryz.ntmps56
        go_wp2_with fail
        refine h.mono ?_; rintro e w' ⟨rfl, hw'⟩; obtain rfl := hw'.symm; clear hw'
        go_wp2_with fail
        refine h.mono ?_; rintro e w' ⟨rfl, hw'⟩; obtain rfl := hw'.symm; clear hw'
        go_wp2
        exact bodyPost_ret (v := .bool true) (by simp [results, Tryz.results56, go_sem]) rfl ⟨rfl, rfl⟩
      · have o2 : FloatKind.f64.format.order m 6633802251116740608 = some .gt := by rw [q2, Int.compare_eq_gt.2 d2]
        rw [decide_eq_false (by omega)]
        clear q1 q2 c d1 d2
        go_enter Tryz.func56, Tryz.ntmps56
        go_wp2_with fail
        refine h.mono ?_; rintro e w' ⟨rfl, hw'⟩; obtain rfl := hw'.symm; clear hw'
        go_wp2_with fail
        refine h.mono ?_; rintro e w' ⟨rfl, hw'⟩; obtain rfl := hw'.symm; clear hw'
        go_wp2
        exact bodyPost_ret (v := .bool false) (by simp [results, Tryz.results56, go_sem]) rfl ⟨rfl, rfl⟩
  · rw [if_neg c] at q1 q2
    have o1 := q1
    rw [decide_eq_false (by omega)]
    clear q1 q2 c
    go_enter Tryz.func56, Tryz.ntmps56
    go_wp2_with fail
    refine h.mono ?_; rintro e w' ⟨rfl, hw'⟩; obtain rfl := hw'.symm; clear hw'
    go_wp2
    exact bodyPost_ret (v := .bool false) (by simp [results, Tryz.results56, go_sem]) rfl ⟨rfl, rfl⟩
set_option maxRecDepth 20000 in
set_option maxHeartbeats 1000000 in
theorem times_ (s t : Bool) (a b : Nat) (ea eb : Int) (va vb : Value) (w : World) (ha : Ls w va (dig a)) (hb : Ls w vb (dig b)) (la : a < 9007199254740992) (lb : b < 9007199254740992) (ea1 : -1074 ≤ ea) (ea2 : ea ≤ 2048) (eb1 : -1074 ≤ eb) (eb2 : eb ≤ 2048) :
    Calls Tryz.prog 75 #[.agg #[.bool s, va, .int .i64 ea], .agg #[.bool t, vb, .int .i64 eb]] w fun e w' => ∃ v, e = .returned (.agg #[.bool (s ^^ t), v, .int .i64 (ea + eb)]) ∧ Ls w' v (dig (a * b)) ∧ Kp w w' := by
  obtain ⟨pa, ca, rfl, ha, hca⟩ := ha
  obtain ⟨pb, cb, rfl, hb, hcb⟩ := hb
  obtain ⟨La, hLa⟩ : ∃ La, La = (dig a).length := ⟨_, rfl⟩
  obtain ⟨Lb, hLb⟩ : ∃ Lb, Lb = (dig b).length := ⟨_, rfl⟩
  rw [← hLa, ← hLb]
  obtain ⟨B, hB⟩ : ∃ B, B = w.heap.size := ⟨_, rfl⟩
  obtain ⟨w0, hw0⟩ : ∃ w0, w0 = ((w.alloc (.cells #[.bool s, .slice pa La ca, .int .i64 ea] 73)).alloc (.cells #[.bool t, .slice pb Lb cb, .int .i64 eb] 73)).alloc (.cells #[.bool false, .slice none 0 0, .int .i64 0] 73) := ⟨_, rfl⟩
  have hk0 : Kp w w0 := by rw [hw0]; exact (((Kp.refl w).alloc _).alloc _).alloc _
  have x0 : w0.cell? ⟨B, 0, none⟩ = some (.bool s) := by rw [hw0, hB]; simp [go_sem]
  have x1 : w0.cell? ⟨B, 1, none⟩ = some (.slice pa La ca) := by rw [hw0, hB]; simp [go_sem]
  have x2 : w0.cell? ⟨B, 2, none⟩ = some (.int .i64 ea) := by rw [hw0, hB]; simp [go_sem]
  have y0 : w0.cell? ⟨B + 1, 0, none⟩ = some (.bool t) := by rw [hw0, hB]; simp [go_sem]
  have y1 : w0.cell? ⟨B + 1, 1, none⟩ = some (.slice pb Lb cb) := by rw [hw0, hB]; simp [go_sem]
  have y2 : w0.cell? ⟨B + 1, 2, none⟩ = some (.int .i64 eb) := by rw [hw0, hB]; simp [go_sem]
  have z0 : w0.cell? ⟨B + 2, 0, none⟩ = some (.bool false) := by rw [hw0, hB]; simp [go_sem]
  have z1 : w0.cell? ⟨B + 2, 1, none⟩ = some (.slice none 0 0) := by rw [hw0, hB]; simp [go_sem]
  have z2 : w0.cell? ⟨B + 2, 2, none⟩ = some (.int .i64 0) := by rw [hw0, hB]; simp [go_sem]
  have f0 : w0.frozen? ⟨B + 2, 0, none⟩ = false := by rw [hw0, hB]; simp [go_sem]
  have f1 : w0.frozen? ⟨B + 2, 1, none⟩ = false := by rw [hw0, hB]; simp [go_sem]
  have f2 : w0.frozen? ⟨B + 2, 2, none⟩ = false := by rw [hw0, hB]; simp [go_sem]
  have hlt := cell_lt z0
  have ba : blen a ≤ 53 := by rw [blen_le_iff, show (2 : Nat) ^ 53 = 9007199254740992 from by decide]; exact la
  have bb : blen b ≤ 53 := by rw [blen_le_iff, show (2 : Nat) ^ 53 = 9007199254740992 from by decide]; exact lb
  have la3 : len32 a ≤ 2 := dlen a 2 (by omega)
  have lb3 : len32 b ≤ 2 := dlen b 2 (by omega)
  have hab : len32 (a * b) ≤ 16384 := dlen (a * b) 16384 (by
    have h : blen (a * b) ≤ 53 + 53 := by
      rw [blen_le_iff, Nat.pow_add]
      exact Nat.mul_lt_mul'' ((blen_le_iff a 53).1 ba) ((blen_le_iff b 53).1 bb)
    omega)
  have q1 := nmul_ pa pb ca cb (dig a) (dig b) w0 (ha.grown hk0) (hb.grown hk0) (Wd_dig a) (Wd_dig b) (by change len32 a ≤ _; omega) (by change len32 b ≤ _; omega) hca hcb
  rw [val_dig, val_dig] at q1
  have hs : mulN a b = (dig (a * b), 0) := by
    unfold mulN
    rw [if_neg (by omega), if_neg (by omega)]
  rw [hs, ← hLa, ← hLb] at q1
  have w1e : wrap64 (ea + eb) = ea + eb := w64x _ (by omega) (by omega)
  have gne : ∀ w : World, (binOp .neq 4 (.bool s) (.bool t)).run Tryz.prog w = .ok (.bool (s ^^ t)) w := fun w => by cases s <;> cases t <;> rfl
  obtain ⟨st, hst⟩ : ∃ st, st = (s ^^ t) := ⟨_, rfl⟩
  have hst2 : (s != t) = st := by rw [hst]
  have hst3 : (!decide (s = t)) = st := by rw [hst]; cases s <;> cases t <;> rfl
  have hst4 : (!(s == t)) = st := by rw [hst]; cases s <;> cases t <;> rfl
  rw [← hst] at gne ⊢
  have HW : Hid (w0 = ((w.alloc (.cells #[.bool s, .slice pa La ca, .int .i64 ea] 73)).alloc (.cells #[.bool t, .slice pb Lb cb, .int .i64 eb] 73)).alloc (.cells #[.bool false, .slice none 0 0, .int .i64 0] 73) ∧ B = w.heap.size ∧ Kp w w0) := ⟨hw0, hB, hk0⟩
  clear hst ha hca hb hcb la lb hLa hLb hw0 hB hk0 ba bb la3 lb3 hab hs
  go_enter Tryz.func75, Tryz.ntmps75
  go_wp2_with fail
  rw [← HW.out.2.1]
  try rw [← HW.out.1]
  refine q1.mono ?_; rintro e w1 ⟨v, rfl, ho, k1⟩
  obtain ⟨pv, cv, rfl, hav, hcv⟩ := ho.arr
  obtain ⟨LV, hLV⟩ : ∃ LV, LV = (dig (a * b)).length := ⟨_, rfl⟩
  rw [← hLV]
  replace x0 := kkeep k1 x0
  replace x1 := kkeep k1 x1
  replace x2 := kkeep k1 x2
  replace y0 := kkeep k1 y0
  replace y1 := kkeep k1 y1
  replace y2 := kkeep k1 y2
  replace z0 := kkeep k1 z0
  replace z1 := kkeep k1 z1
  replace z2 := kkeep k1 z2
  replace f0 := (kfro k1 hlt).trans f0
  replace f1 := (kfro k1 hlt).trans f1
  replace f2 := (kfro k1 hlt).trans f2
  have HO : Hid (Own w1 w0.heap.size (.slice pv (dig (a * b)).length cv) (dig (a * b)) ∧ LV = (dig (a * b)).length ∧ Kp w0 w1 ∧ B + 2 < w0.heap.size) := ⟨ho, hLV, k1, hlt⟩
  clear q1 ho hav hcv k1 hLV
  go_wp2
  obtain ⟨ho, hL, k01, hBl⟩ := HO.out
  have kb : Kb (B + 2) w1 (((w1.setCell ⟨B + 2, 0, none⟩ (.bool st)).setCell ⟨B + 2, 1, none⟩ (.slice pv LV cv)).setCell ⟨B + 2, 2, none⟩ (.int .i64 (ea + eb))) := (((Kb.refl (B + 2) w1).setCell 0 _).setCell 1 _).setCell 2 _
  have ho2 := ho.kb kb (fun g hg => by have := ho.lt g hg; omega)
  have hls := ho2.ls
  rw [← hL] at hls
  have hkw : Kp w (((w1.setCell ⟨B + 2, 0, none⟩ (.bool st)).setCell ⟨B + 2, 1, none⟩ (.slice pv LV cv)).setCell ⟨B + 2, 2, none⟩ (.int .i64 (ea + eb))) := kb.kp (HW.out.2.2.trans k01) (by rw [HW.out.2.1]; omega)
  exact bodyPost_ret (v := .agg #[.bool st, .slice pv LV cv, .int .i64 (ea + eb)]) (by simp [results, Tryz.results75, go_sem, z0, z1, z2]) rfl ⟨_, rfl, hls, hkw⟩
theorem nanD9 (n : Bool) (m : Nat) (h1 : 9218868437227405312 < m) (h2 : m < 9223372036854775808) : Ieee.double.read (Fq.wD n m) = .nan n (m - 9218868437227405312) := by
  rw [Fq.read_nan Ieee.double _ Fq.binfD (by rw [Fq.rgD n m h2, Fq.infD]; exact h1), Fq.rgD n m h2, Fq.ngD n m h2, Fq.infD]
theorem infD9 (n : Bool) : Ieee.double.read (Fq.wD n 9218868437227405312) = .infinity n := by
  rw [Fq.read_inf Ieee.double _ Fq.binfD (by rw [Fq.rgD n 9218868437227405312 (by decide), Fq.infD]), Fq.ngD n 9218868437227405312 (by decide)]
theorem finD9 (n : Bool) (m : Nat) (h : m < 9218868437227405312) : ∃ a e, Ieee.double.read (Fq.wD n m) = .number n a e ∧ (a = 0 ↔ m = 0) := by
  rw [Fq.read_fin _ _ (by rw [Fq.rgD n m (by omega), Fq.infD]; exact h), Fq.ngD n m (by omega), Fq.rgD n m (by omega)]
  refine ⟨_, _, rfl, ?_⟩
  unfold Fq.mM
  rw [Fq.binD]
  split <;> omega
theorem wrI9 (s : Bool) : Ieee.double.write (.infinity s) = Fq.wD s 9218868437227405312 := by unfold Ieee.Format.write Ieee.Format.word Fq.wD; rw [Fq.signD, Fq.infD]
theorem nan_cut9 (t : Nat) : 9218868437227405312 < (t % 2 * 2 ^ 63 + 0x7ff0000000000000 + 1 + t / 2 % (2 ^ 52 - 1)) % 9223372036854775808 ∧ t % 2 * 2 ^ 63 + 0x7ff0000000000000 + 1 + t / 2 % (2 ^ 52 - 1) < 18446744073709551616 := by
  rw [show (2 : Nat) ^ 63 = 9223372036854775808 from by decide, show (2 : Nat) ^ 52 - 1 = 4503599627370495 from by decide]
  have h1 : t % 2 = 0 ∨ t % 2 = 1 := by omega
  have h2 : t / 2 % 4503599627370495 < 4503599627370495 := Nat.mod_lt _ (by decide)
  generalize t / 2 % 4503599627370495 = b at *
  rcases h1 with h | h <;> rw [h] <;> omega
theorem word_of (R : Nat) (h : R < 18446744073709551616) : ∃ n m, m = R % 9223372036854775808 ∧ R = Fq.wD n m := by
  by_cases c : 9223372036854775808 ≤ R
  · exact ⟨true, R % 9223372036854775808, rfl, by unfold Fq.wD; rw [if_pos rfl]; omega⟩
  · exact ⟨false, R % 9223372036854775808, rfl, by unfold Fq.wD; simp; omega⟩
end Go.Proofs.YtinohggonicjhaaGreatDoor
