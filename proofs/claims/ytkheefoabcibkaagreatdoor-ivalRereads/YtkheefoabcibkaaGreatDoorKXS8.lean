import Derived.Test.YtkheefoabcibkaaGreatDoorKXS2
import Derived.Scope
import Derived.ScopeJumps
namespace Go.Proofs.YtkheefoabcibkaaGreatDoor
open Go.RowKit
theorem read_nanD (n : Bool) (m : Nat) (h1 : 9218868437227405312 < m) (h2 : m < 9223372036854775808) : Ieee.double.read (Fq.wD n m) = .nan n (m - 9218868437227405312) := by
  rw [Fq.read_nan Ieee.double _ Fq.binfD (by rw [Fq.rgD n m h2, Fq.infD]; exact h1), Fq.rgD n m h2, Fq.ngD n m h2, Fq.infD]
theorem read_infD (n : Bool) : Ieee.double.read (Fq.wD n 9218868437227405312) = .infinity n := by
  rw [Fq.read_inf Ieee.double _ Fq.binfD (by rw [Fq.rgD n 9218868437227405312 (by decide), Fq.infD]), Fq.ngD n 9218868437227405312 (by decide)]
theorem read_finD (n : Bool) (m : Nat) (h : m < 9218868437227405312) : ∃ a e, Ieee.double.read (Fq.wD n m) = .number n a e := by
  rw [Fq.read_fin _ _ (by rw [Fq.rgD n m (by omega), Fq.infD]; exact h), Fq.ngD n m (by omega)]
  exact ⟨_, _, rfl⟩
def badS (n : Bool) (m : Nat) (n' : Bool) (m' : Nat) : Prop := 9218868437227405312 < m ∨ 9218868437227405312 < m' ∨ (m = 9218868437227405312 ∧ m' = 9218868437227405312 ∧ n ≠ n')
theorem add_bad (n n' : Bool) (m m' : Nat) (hm : m < 9223372036854775808) (hm' : m' < 9223372036854775808) (h : badS n m n' m') : FloatKind.f64.format.add (Fq.wD n m) (Fq.wD n' m') = none := by
  show Ieee.double.add _ _ = none
  unfold Ieee.Format.add
  by_cases c1 : 9218868437227405312 < m
  · rw [read_nanD n m c1 hm]; rfl
  · by_cases c2 : 9218868437227405312 < m'
    · rw [read_nanD n' m' c2 hm']
      by_cases c3 : m = 9218868437227405312
      · rw [c3, read_infD]; rfl
      · obtain ⟨a, e, he⟩ := read_finD n m (by omega)
        rw [he]; rfl
    · obtain ⟨e1, e2, e3⟩ := (h.resolve_left c1).resolve_left c2
      rw [e1, e2, read_infD, read_infD]
      unfold Ieee.Datum.sum
      simp only
      rw [if_neg e3]; rfl
theorem add_inf (n n' : Bool) (m m' : Nat) (h : ¬ badS n m n' m') (hi : ¬ (m < 9218868437227405312 ∧ m' < 9218868437227405312)) : FloatKind.f64.format.add (Fq.wD n m) (Fq.wD n' m') = some (Fq.wD (if m = 9218868437227405312 then n else n') 9218868437227405312) := by
  unfold badS at h
  have hw : ∀ s, Ieee.double.write (.infinity s) = Fq.wD s 9218868437227405312 := fun s => by unfold Ieee.Format.write Ieee.Format.word Fq.wD; rw [Fq.signD, Fq.infD]
  show Ieee.double.add _ _ = _
  unfold Ieee.Format.add
  by_cases c1 : m = 9218868437227405312
  · rw [if_pos c1, c1, read_infD]
    by_cases c2 : m' = 9218868437227405312
    · have e : n = n' := by
        rcases Decidable.em (n = n') with e | e
        · exact e
        · exact absurd (Or.inr (Or.inr ⟨c1, c2, e⟩)) h
      rw [c2, read_infD]
      unfold Ieee.Datum.sum
      simp only
      rw [if_pos e]
      exact congrArg some (hw n)
    · obtain ⟨a, e, he⟩ := read_finD n' m' (by omega)
      rw [he]
      exact congrArg some (hw n)
  · have c2 : m' = 9218868437227405312 := by omega
    rw [if_neg c1, c2, read_infD]
    obtain ⟨a, e, he⟩ := read_finD n m (by omega)
    rw [he]
    exact congrArg some (hw n')
theorem nan_cutD (t : Nat) : 9218868437227405312 < (t % 2 * 2 ^ 63 + 0x7ff0000000000000 + 1 + t / 2 % (2 ^ 52 - 1)) % 9223372036854775808 ∧ t % 2 * 2 ^ 63 + 0x7ff0000000000000 + 1 + t / 2 % (2 ^ 52 - 1) < 18446744073709551616 := by
  rw [show (2 : Nat) ^ 63 = 9223372036854775808 from by decide, show (2 : Nat) ^ 52 - 1 = 4503599627370495 from by decide]
  have h1 : t % 2 = 0 ∨ t % 2 = 1 := by omega
  have h2 : t / 2 % 4503599627370495 < 4503599627370495 := Nat.mod_lt _ (by decide)
  generalize t / 2 % 4503599627370495 = b at *
  rcases h1 with h | h <;> rw [h] <;> omega
theorem run_nan (X Y : Nat) (h : FloatKind.f64.format.add X Y = none) (w : World) : ∃ r, 9218868437227405312 < r % 9223372036854775808 ∧ r < 18446744073709551616 ∧ (binOp .add 22 (.float .f64 X) (.float .f64 Y)).run Tryz.prog w = .ok (.float .f64 r) w.drew := by
  refine ⟨Question.cut (.nanBits .f64 X Y) _, ?_, ?_, by simp [binOp, Op.floatArith, h]; rfl⟩
  · simp only [Question.cut]; exact (nan_cutD _).1
  · simp only [Question.cut]; exact (nan_cutD _).2
set_option maxRecDepth 20000 in
set_option maxHeartbeats 1000000 in
theorem paddB_ (d : Int) (n n' : Bool) (m m' : Nat) (hm : m < 9223372036854775808) (hm' : m' < 9223372036854775808) (hi : ¬ (m < 9218868437227405312 ∧ m' < 9218868437227405312)) (hb : badS n m n' m') (w : World) :
    Calls Tryz.prog 30 #[.int .i64 d, .float .f64 (Fq.wD n m), .float .f64 (Fq.wD n' m')] w fun e w' => ∃ R, e = .returned (.float .f64 R) ∧ (9218868437227405312 < R % 9223372036854775808 ∧ R < 18446744073709551616) ∧ Kp w w' := by
  have h1 := tame_ n m hm w
  have h2 := tame_ n' m' hm' w
  have g1 := finite_ n m hm w
  have g2 := finite_ n' m' hm' w
  obtain ⟨X, hX⟩ : ∃ X, X = Fq.wD n m := ⟨_, rfl⟩
  obtain ⟨Y, hY⟩ : ∃ Y, Y = Fq.wD n' m' := ⟨_, rfl⟩
  obtain ⟨RR, p1, p2, hrun⟩ := run_nan X Y (by rw [hX, hY]; exact add_bad n n' m m' hm hm' hb) w
  have HR : Hid (9218868437227405312 < RR % 9223372036854775808 ∧ RR < 18446744073709551616) := ⟨p1, p2⟩
  clear p1 p2
  rw [← hX] at h1 g1
  rw [← hY] at h2 g2
  rw [← hX, ← hY]
  have HT : Hid ((m ≤ 9110782046170513408 → ¬ m' ≤ 9110782046170513408) ∧ (m < 9218868437227405312 → ¬ m' < 9218868437227405312)) := ⟨fun h h' => hi ⟨by omega, by omega⟩, fun h h' => hi ⟨h, h'⟩⟩
  clear hX hY hi hm hm' hb
  go_enter Tryz.func30, Tryz.ntmps30
  go_wp2
  refine wp_scope_jumps 0 (fun a' w' => w' = w ∧ ∃ u3 u4 u5 u6 u7 u8 u9 u10 u11 u12 u13 u14 u15 u16 u17 u18 u19 u20 u21 u22 u23 u24 u25 u26 u27 u28 u29 u30 u31 u32 u33 u34 u35 u36 u37 u38 u39 u40 u41 u42 u43 u44 : Value, a' = ⟨#[.int .i64 d, .float .f64 X, .float .f64 Y, u3, u4, u5, u6, u7, u8, u9, u10, u11, u12, u13, u14, u15, u16, u17, u18, u19, u20, u21, u22, u23, u24, u25, u26, u27, u28, u29, u30, u31, u32, u33, u34, u35, u36, u37, u38, u39, u40, u41, u42, u43, u44], []⟩) (fun _ _ => 0) rfl ?_ ?_
  · clear g1 g2
    by_cases c1 : m ≤ 9110782046170513408
    · rw [decide_eq_true c1] at h1
      rw [decide_eq_false (HT.out.1 c1)] at h2
      clear c1 HT
      go_wp2_with fail
      refine h1.mono ?_; rintro e w' ⟨rfl, hw'⟩; obtain rfl := hw'.symm; clear hw' h1
      go_wp2_with fail
      refine h2.mono ?_; rintro e w' ⟨rfl, hw'⟩; obtain rfl := hw'.symm; clear hw' h2
      go_wp2_with fail
      go_step3
      exact ⟨rfl, rfl, _, _, _, _, _, _, _, _, _, _, _, _, _, _, _, _, _, _, _, _, _, _, _, _, _, _, _, _, _, _, _, _, _, _, _, _, _, _, _, _, _, _, rfl⟩
    · rw [decide_eq_false c1] at h1
      clear c1 HT h2
      go_wp2_with fail
      refine h1.mono ?_; rintro e w' ⟨rfl, hw'⟩; obtain rfl := hw'.symm; clear hw' h1
      go_wp2_with fail
      go_step3
      exact ⟨rfl, rfl, _, _, _, _, _, _, _, _, _, _, _, _, _, _, _, _, _, _, _, _, _, _, _, _, _, _, _, _, _, _, _, _, _, _, _, _, _, _, _, _, _, _, rfl⟩
  · rintro a' w' ⟨rfl, u3, u4, u5, u6, u7, u8, u9, u10, u11, u12, u13, u14, u15, u16, u17, u18, u19, u20, u21, u22, u23, u24, u25, u26, u27, u28, u29, u30, u31, u32, u33, u34, u35, u36, u37, u38, u39, u40, u41, u42, u43, u44, rfl⟩
    clear h1 h2
    by_cases c1 : m < 9218868437227405312
    · rw [decide_eq_true c1] at g1
      rw [decide_eq_false (HT.out.2 c1)] at g2
      clear c1 HT
      go_wp2_with fail
      refine g1.mono ?_; rintro e w9 ⟨rfl, hw'⟩; obtain rfl := hw'.symm; clear hw' g1
      go_wp2_with fail
      refine g2.mono ?_; rintro e w9 ⟨rfl, hw'⟩; obtain rfl := hw'.symm; clear hw' g2
      go_wp2
      try simp only [Exit.jump]
      exact bodyPost_ret (v := .float .f64 RR) (by simp [results, Tryz.results30, go_sem]) rfl ⟨RR, rfl, HR.out, (Kp.refl _).drew⟩
    · rw [decide_eq_false c1] at g1
      clear c1 HT g2
      go_wp2_with fail
      refine g1.mono ?_; rintro e w9 ⟨rfl, hw'⟩; obtain rfl := hw'.symm; clear hw' g1
      go_wp2
      try simp only [Exit.jump]
      exact bodyPost_ret (v := .float .f64 RR) (by simp [results, Tryz.results30, go_sem]) rfl ⟨RR, rfl, HR.out, (Kp.refl _).drew⟩
set_option maxRecDepth 20000 in
set_option maxHeartbeats 1000000 in
theorem paddI_ (d : Int) (n n' : Bool) (m m' : Nat) (hm : m < 9223372036854775808) (hm' : m' < 9223372036854775808) (hi : ¬ (m < 9218868437227405312 ∧ m' < 9218868437227405312)) (hb : ¬ badS n m n' m') (w : World) :
    Calls Tryz.prog 30 #[.int .i64 d, .float .f64 (Fq.wD n m), .float .f64 (Fq.wD n' m')] w fun e w' => e = .returned (.float .f64 (Fq.wD (if m = 9218868437227405312 then n else n') 9218868437227405312)) ∧ Kp w w' := by
  have h1 := tame_ n m hm w
  have h2 := tame_ n' m' hm' w
  have g1 := finite_ n m hm w
  have g2 := finite_ n' m' hm' w
  obtain ⟨X, hX⟩ : ∃ X, X = Fq.wD n m := ⟨_, rfl⟩
  obtain ⟨Y, hY⟩ : ∃ Y, Y = Fq.wD n' m' := ⟨_, rfl⟩
  obtain ⟨RR, hRR⟩ : ∃ RR, RR = Fq.wD (if m = 9218868437227405312 then n else n') 9218868437227405312 := ⟨_, rfl⟩
  have hadd := add_inf n n' m m' hb hi
  rw [← hX, ← hY, ← hRR] at hadd
  have hrun : ∀ w : World, (binOp .add 22 (.float .f64 X) (.float .f64 Y)).run Tryz.prog w = .ok (.float .f64 RR) w := fun w => run_float_arith w .add 22 .f64 X Y RR hadd
  rw [← hRR]
  rw [← hX] at h1 g1
  rw [← hY] at h2 g2
  rw [← hX, ← hY]
  have HT : Hid ((m ≤ 9110782046170513408 → ¬ m' ≤ 9110782046170513408) ∧ (m < 9218868437227405312 → ¬ m' < 9218868437227405312)) := ⟨fun h h' => hi ⟨by omega, by omega⟩, fun h h' => hi ⟨h, h'⟩⟩
  clear hX hY hi hm hm' hb hadd hRR
  go_enter Tryz.func30, Tryz.ntmps30
  go_wp2
  refine wp_scope_jumps 0 (fun a' w' => w' = w ∧ ∃ u3 u4 u5 u6 u7 u8 u9 u10 u11 u12 u13 u14 u15 u16 u17 u18 u19 u20 u21 u22 u23 u24 u25 u26 u27 u28 u29 u30 u31 u32 u33 u34 u35 u36 u37 u38 u39 u40 u41 u42 u43 u44 : Value, a' = ⟨#[.int .i64 d, .float .f64 X, .float .f64 Y, u3, u4, u5, u6, u7, u8, u9, u10, u11, u12, u13, u14, u15, u16, u17, u18, u19, u20, u21, u22, u23, u24, u25, u26, u27, u28, u29, u30, u31, u32, u33, u34, u35, u36, u37, u38, u39, u40, u41, u42, u43, u44], []⟩) (fun _ _ => 0) rfl ?_ ?_
  · clear g1 g2
    by_cases c1 : m ≤ 9110782046170513408
    · rw [decide_eq_true c1] at h1
      rw [decide_eq_false (HT.out.1 c1)] at h2
      clear c1 HT
      go_wp2_with fail
      refine h1.mono ?_; rintro e w' ⟨rfl, hw'⟩; obtain rfl := hw'.symm; clear hw' h1
      go_wp2_with fail
      refine h2.mono ?_; rintro e w' ⟨rfl, hw'⟩; obtain rfl := hw'.symm; clear hw' h2
      go_wp2_with fail
      go_step3
      exact ⟨rfl, rfl, _, _, _, _, _, _, _, _, _, _, _, _, _, _, _, _, _, _, _, _, _, _, _, _, _, _, _, _, _, _, _, _, _, _, _, _, _, _, _, _, _, _, rfl⟩
    · rw [decide_eq_false c1] at h1
      clear c1 HT h2
      go_wp2_with fail
      refine h1.mono ?_; rintro e w' ⟨rfl, hw'⟩; obtain rfl := hw'.symm; clear hw' h1
      go_wp2_with fail
      go_step3
      exact ⟨rfl, rfl, _, _, _, _, _, _, _, _, _, _, _, _, _, _, _, _, _, _, _, _, _, _, _, _, _, _, _, _, _, _, _, _, _, _, _, _, _, _, _, _, _, _, rfl⟩
  · rintro a' w' ⟨rfl, u3, u4, u5, u6, u7, u8, u9, u10, u11, u12, u13, u14, u15, u16, u17, u18, u19, u20, u21, u22, u23, u24, u25, u26, u27, u28, u29, u30, u31, u32, u33, u34, u35, u36, u37, u38, u39, u40, u41, u42, u43, u44, rfl⟩
    clear h1 h2
    by_cases c1 : m < 9218868437227405312
    · rw [decide_eq_true c1] at g1
      rw [decide_eq_false (HT.out.2 c1)] at g2
      clear c1 HT
      go_wp2_with fail
      refine g1.mono ?_; rintro e w9 ⟨rfl, hw'⟩; obtain rfl := hw'.symm; clear hw' g1
      go_wp2_with fail
      refine g2.mono ?_; rintro e w9 ⟨rfl, hw'⟩; obtain rfl := hw'.symm; clear hw' g2
      go_wp2
      try simp only [Exit.jump]
      exact bodyPost_ret (v := .float .f64 RR) (by simp [results, Tryz.results30, go_sem]) rfl ⟨rfl, Kp.refl _⟩
    · rw [decide_eq_false c1] at g1
      clear c1 HT g2
      go_wp2_with fail
      refine g1.mono ?_; rintro e w9 ⟨rfl, hw'⟩; obtain rfl := hw'.symm; clear hw' g1
      go_wp2
      try simp only [Exit.jump]
      exact bodyPost_ret (v := .float .f64 RR) (by simp [results, Tryz.results30, go_sem]) rfl ⟨rfl, Kp.refl _⟩
end Go.Proofs.YtkheefoabcibkaaGreatDoor
