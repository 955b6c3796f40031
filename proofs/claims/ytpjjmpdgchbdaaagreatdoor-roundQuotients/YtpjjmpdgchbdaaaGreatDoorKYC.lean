import Derived.Test.YtpjjmpdgchbdaaaGreatDoorProg
import Derived.Test.YtpjjmpdgchbdaaaGreatDoorKXA0
import Derived.Test.YtpjjmpdgchbdaaaGreatDoorKXM
import Derived.Test.YtpjjmpdgchbdaaaGreatDoorKXY
import Derived.Test.YtpjjmpdgchbdaaaGreatDoorKXQF
import Derived.Test.YtpjjmpdgchbdaaaGreatDoorKQA
import Derived.Test.YtpjjmpdgchbdaaaGreatDoorKQP
import Derived.Test.YtpjjmpdgchbdaaaGreatDoorKXQU
import Derived.Test.YtpjjmpdgchbdaaaGreatDoorKQB
import Derived.Test.YtpjjmpdgchbdaaaGreatDoorKQBT
import Derived.Test.YtpjjmpdgchbdaaaGreatDoorKQJd
import Derived.Test.YtpjjmpdgchbdaaaGreatDoorKHB
import Derived.Test.YtpjjmpdgchbdaaaGreatDoorKLX
import Derived.Test.YtpjjmpdgchbdaaaGreatDoorKMR7Q
import Derived.Test.YtpjjmpdgchbdaaaGreatDoorKXG1
import Derived.Test.YtpjjmpdgchbdaaaGreatDoorKXH2Q
import Derived.Test.YtpjjmpdgchbdaaaGreatDoorKXMR
import Derived.Test.YtpjjmpdgchbdaaaGreatDoorKNSm
import Derived.Test.YtpjjmpdgchbdaaaGreatDoorKXMQ
import Derived.Test.YtpjjmpdgchbdaaaGreatDoorKMR18
import Derived.Test.YtpjjmpdgchbdaaaGreatDoorKXMS
import Derived.Test.YtpjjmpdgchbdaaaGreatDoorKXO3
import Derived.Test.YtpjjmpdgchbdaaaGreatDoorKXO
import Derived.Test.YtpjjmpdgchbdaaaGreatDoorKXP
import Derived.Test.YtpjjmpdgchbdaaaGreatDoorKXS2
import Derived.Test.YtpjjmpdgchbdaaaGreatDoorKXU1
import Derived.Test.YtpjjmpdgchbdaaaGreatDoorKXYA
import Derived.WalkKit
import Derived.ProofKit
import Derived.RowKit3
import Derived.WalkSpells
import Derived.StillTactics
import Derived.Deep.QuietTactic
import Derived.BigQuiet
import Derived.Below
import Derived.Deep.OwnRows
import Derived.OwnWalk
import Derived.Laws.BitsAllLaws
import Derived.Laws.Slices
import Derived.Laws.Bits64b
import Derived.Laws.FloatArith
import Derived.Laws.Small
namespace Go.Proofs.YtpjjmpdgchbdaaaGreatDoor
open Go.RowKit
theorem nanD9 (n : Bool) (m : Nat) (h1 : 9218868437227405312 < m) (h2 : m < 9223372036854775808) : Ieee.double.read (Fq.wD n m) = .nan n (m - 9218868437227405312) := by
  rw [Fq.read_nan Ieee.double _ Fq.binfD (by rw [Fq.rgD n m h2, Fq.infD]; exact h1), Fq.rgD n m h2, Fq.ngD n m h2, Fq.infD]
theorem infD9 (n : Bool) : Ieee.double.read (Fq.wD n 9218868437227405312) = .infinity n := by
  rw [Fq.read_inf Ieee.double _ Fq.binfD (by rw [Fq.rgD n 9218868437227405312 (by decide), Fq.infD]), Fq.ngD n 9218868437227405312 (by decide)]
theorem finD9 (n : Bool) (m : Nat) (h : m < 9218868437227405312) : ∃ a e, Ieee.double.read (Fq.wD n m) = .number n a e ∧ (a = 0 ↔ m = 0) := by
  rw [Fq.read_fin _ _ (by rw [Fq.rgD n m (by omega), Fq.infD]; exact h), Fq.ngD n m (by omega), Fq.rgD n m (by omega)]
  refine ⟨_, _, rfl, ?_⟩
  unfold Fq.mM
  rw [Fq.binD]
  split <;> omega
theorem wrI9 (s : Bool) : Ieee.double.write (.infinity s) = Fq.wD s 9218868437227405312 := by unfold Ieee.Format.write Ieee.Format.word Fq.wD; rw [Fq.signD, Fq.infD]
theorem nan_cut9 (t : Nat) : 9218868437227405312 < (t % 2 * 2 ^ 63 + 0x7ff0000000000000 + 1 + t / 2 % (2 ^ 52 - 1)) % 9223372036854775808 ∧ t % 2 * 2 ^ 63 + 0x7ff0000000000000 + 1 + t / 2 % (2 ^ 52 - 1) < 18446744073709551616 := by
  rw [show (2 : Nat) ^ 63 = 9223372036854775808 from by decide, show (2 : Nat) ^ 52 - 1 = 4503599627370495 from by decide]
  have h1 : t % 2 = 0 ∨ t % 2 = 1 := by omega
  have h2 : t / 2 % 4503599627370495 < 4503599627370495 := Nat.mod_lt _ (by decide)
  generalize t / 2 % 4503599627370495 = b at *
  rcases h1 with h | h <;> rw [h] <;> omega
theorem word_of (R : Nat) (h : R < 18446744073709551616) : ∃ n m, m = R % 9223372036854775808 ∧ R = Fq.wD n m := by
  by_cases c : 9223372036854775808 ≤ R
  · exact ⟨true, R % 9223372036854775808, rfl, by unfold Fq.wD; rw [if_pos rfl]; omega⟩
  · exact ⟨false, R % 9223372036854775808, rfl, by unfold Fq.wD; simp; omega⟩
theorem run_nan_quo (X Y : Nat) (h : FloatKind.f64.format.div X Y = none) (w : World) : ∃ r, 9218868437227405312 < r % 9223372036854775808 ∧ r < 18446744073709551616 ∧ (binOp .quo 24 (.float .f64 X) (.float .f64 Y)).run Tryz.prog w = .ok (.float .f64 r) w.drew := by
  refine ⟨Question.cut (.nanBits .f64 X Y) _, ?_, ?_, by simp [binOp, Op.floatArith, h]; rfl⟩
  · simp only [Question.cut]; exact (nan_cut9 _).1
  · simp only [Question.cut]; exact (nan_cut9 _).2
/-- the patterns of which a quotient by what is not 0 is no number -/
def badQ (m m' : Nat) : Prop := 9218868437227405312 < m ∨ 9218868437227405312 < m' ∨ (m = 9218868437227405312 ∧ m' = 9218868437227405312)
theorem div_bad (n n' : Bool) (m m' : Nat) (hm : m < 9223372036854775808) (hm' : m' < 9223372036854775808) (h : badQ m m') : FloatKind.f64.format.div (Fq.wD n m) (Fq.wD n' m') = none := by
  show Ieee.double.div _ _ = none
  unfold Ieee.Format.div
  by_cases c1 : 9218868437227405312 < m
  · rw [nanD9 n m c1 hm]; rfl
  · by_cases c2 : 9218868437227405312 < m'
    · rw [nanD9 n' m' c2 hm']
      by_cases c3 : m = 9218868437227405312
      · rw [c3, infD9]; rfl
      · obtain ⟨a, e, he, _⟩ := finD9 n m (by omega)
        rw [he]; rfl
    · obtain ⟨e1, e2⟩ := (h.resolve_left c1).resolve_left c2
      rw [e1, e2, infD9, infD9]; rfl
theorem div_inf (n n' : Bool) (m m' : Nat) (h : m = 9218868437227405312) (h' : m' < 9218868437227405312) : FloatKind.f64.format.div (Fq.wD n m) (Fq.wD n' m') = some (Fq.wD (n ^^ n') 9218868437227405312) := by
  show Ieee.double.div _ _ = _
  unfold Ieee.Format.div
  obtain ⟨a, e, he, hz⟩ := finD9 n' m' h'
  rw [h, infD9, he]
  exact congrArg some (wrI9 _)
theorem near0 (s : Bool) (p : Int) : Ieee.double.nearest s 0 p = Fq.wD s 0 := by
  unfold Ieee.Format.nearest
  rw [if_pos rfl, wdD9]
theorem div_zero (n n' : Bool) (m m' : Nat) (hm : m < 9218868437227405312) (h : m' = 9218868437227405312 ∨ (m = 0 ∧ m' < 9218868437227405312 ∧ m' ≠ 0)) : FloatKind.f64.format.div (Fq.wD n m) (Fq.wD n' m') = some (Fq.wD (n ^^ n') 0) := by
  show Ieee.double.div _ _ = _
  unfold Ieee.Format.div
  obtain ⟨a, e, he, hz⟩ := finD9 n m hm
  rw [he]
  rcases h with h | ⟨h1, h2, h3⟩
  · rw [h, infD9]
    unfold Ieee.Datum.quotient
    simp only [Option.map_some]
    unfold Ieee.Format.write
    simp only
    rw [near0]
  · obtain ⟨b, e', he', hz'⟩ := finD9 n' m' h2
    rw [he']
    have a0 : a = 0 := hz.2 h1
    have b0 : ¬ b = 0 := fun h => h3 (hz'.1 h)
    subst a0
    unfold Ieee.Datum.quotient
    simp only [Nat.zero_shiftLeft, Nat.zero_div, Nat.zero_mod]
    rw [if_neg b0]
    simp only [Option.map_some]
    unfold Ieee.Format.write
    simp only
    exact congrArg some (near0 _ _)
theorem ord_self (n : Bool) (m : Nat) (hm : m < 9223372036854775808) : (FloatKind.f64.format.order (Fq.wD n m) (Fq.wD n m) != some .eq) = decide (9218868437227405312 < m) := by
  by_cases c : 9218868437227405312 < m
  · rw [Fq.ordD_nanl n m _ c hm, decide_eq_true c]; rfl
  · rw [Fq.ordD n n m m (by omega) (by omega), Fq.cmp_eq rfl, decide_eq_false c]; rfl
theorem ord_neg (n : Bool) (m : Nat) (hm : m ≤ 9218868437227405312) (z : m ≠ 0) : (FloatKind.f64.format.order (Fq.wD n m) 0 == some .lt) = n := by
  have hz : (0 : Nat) = Fq.wD false 0 := rfl
  have hord : FloatKind.f64.format.order (Fq.wD n m) 0 = some (compare (Fq.plz n m) 0) := by
    rw [hz, Fq.ordD n false m 0 hm (by decide)]; rfl
  rw [hord]
  cases n
  · rw [Int.compare_eq_gt.2 (by unfold Fq.plz; simp; omega)]; rfl
  · rw [Int.compare_eq_lt.2 (by unfold Fq.plz; simp; omega)]; rfl
set_option maxRecDepth 20000 in
set_option maxHeartbeats 400000 in
theorem isNaN_ (n : Bool) (m : Nat) (hm : m < 9223372036854775808) (w : World) : Calls Tryz.prog 30 #[.float .f64 (Fq.wD n m)] w fun e w' => e = .returned (.bool (decide (9218868437227405312 < m))) ∧ w' = w := by
  have o1 := ord_self n m hm
  obtain ⟨X, hX⟩ : ∃ X, X = Fq.wD n m := ⟨_, rfl⟩
  rw [← hX] at o1 ⊢
  clear hX
  go_enter Tryz.func30, Tryz.ntmps30
  go_wp2
  exact bodyPost_ret (v := .bool (decide (9218868437227405312 < m))) (by simp [results, Tryz.results30, go_sem]) rfl ⟨rfl, rfl⟩
set_option maxRecDepth 20000 in
set_option maxHeartbeats 400000 in
theorem byNought_ (n : Bool) (m : Nat) (hm : m < 9223372036854775808) (w : World) : Calls Tryz.prog 12 #[.float .f64 (Fq.wD n m)] w fun e w' => e = .returned (.float .f64 (if m = 0 ∨ 9218868437227405312 < m then 9221120237041090561 else Fq.wD n 9218868437227405312)) ∧ w' = w := by
  have o1 := Fq.eqzD n m hm
  have h1 := isNaN_ n m hm w
  have h2 := mnan_ w
  have h3 := infD_ n w
  by_cases c1 : m = 0
  · rw [if_pos (Or.inl c1)]
    rw [show (m == 0) = true from by simp [c1]] at o1
    obtain ⟨X, hX⟩ : ∃ X, X = Fq.wD n m := ⟨_, rfl⟩
    rw [← hX] at o1 h1 ⊢
    clear hX h1 h3 c1 hm
    go_enter Tryz.func12, Tryz.ntmps12
    go_wp2_with fail
    refine h2.mono ?_; rintro e w' ⟨rfl, hw'⟩; obtain rfl := hw'.symm; clear hw' h2
    go_wp2
    exact bodyPost_ret (v := .float .f64 9221120237041090561) (by simp [results, Tryz.results12, go_sem]) rfl ⟨rfl, rfl⟩
  · rw [show (m == 0) = false from by simp [c1]] at o1
    by_cases c2 : 9218868437227405312 < m
    · rw [if_pos (Or.inr c2)]
      rw [decide_eq_true c2] at h1
      obtain ⟨X, hX⟩ : ∃ X, X = Fq.wD n m := ⟨_, rfl⟩
      rw [← hX] at o1 h1 ⊢
      clear hX h3 c1 c2 hm
      go_enter Tryz.func12, Tryz.ntmps12
      go_wp2_with fail
      refine h1.mono ?_; rintro e w' ⟨rfl, hw'⟩; obtain rfl := hw'.symm; clear hw' h1
      go_wp2_with fail
      refine h2.mono ?_; rintro e w' ⟨rfl, hw'⟩; obtain rfl := hw'.symm; clear hw' h2
      go_wp2
      exact bodyPost_ret (v := .float .f64 9221120237041090561) (by simp [results, Tryz.results12, go_sem]) rfl ⟨rfl, rfl⟩
    · rw [if_neg (by omega)]
      rw [decide_eq_false c2] at h1
      have o2 := ord_neg n m (by omega) c1
      obtain ⟨X, hX⟩ : ∃ X, X = Fq.wD n m := ⟨_, rfl⟩
      obtain ⟨Z, hZ⟩ : ∃ Z, Z = Fq.wD n 9218868437227405312 := ⟨_, rfl⟩
      rw [← hX] at o1 h1 o2 ⊢
      rw [← hZ] at h3 ⊢
      clear hX hZ h2 c1 c2 hm
      go_enter Tryz.func12, Tryz.ntmps12
      go_wp2_with fail
      refine h1.mono ?_; rintro e w' ⟨rfl, hw'⟩; obtain rfl := hw'.symm; clear hw' h1
      go_wp2_with fail
      refine h3.mono ?_; rintro e w' ⟨rfl, hw'⟩; obtain rfl := hw'.symm; clear hw' h3
      go_wp2
      exact bodyPost_ret (v := .float .f64 Z) (by simp [results, Tryz.results12, go_sem]) rfl ⟨rfl, rfl⟩
theorem rat_div (d : Int) (ng : Bool) (a b x y : Nat) (ea eb : Int) (ha : a ≠ 0) (hb : b ≠ 0) (la : len32 a ≤ 16384) (lb : len32 b ≤ 16384) (hx : (x : Int) = ea + 1074) (hy : (y : Int) = eb + 1074) : ratW d ng a b (ea - eb) = divW d ng (a * 2 ^ x) (b * 2 ^ y) := by
  unfold ratW divW
  rw [if_neg (by omega), if_neg hb, if_neg ha, if_neg (Nat.mul_ne_zero ha (Nat.ne_of_gt (Nat.two_pow_pos x))), rV_up _ _ _ _ _ _ (Nat.mul_pos (by omega) (Nat.two_pow_pos y)), rV_down _ _ _ _ _ _ (by omega), show (1074 : Int) + (x : Int) - (y : Int) = ea - eb + 1074 from by omega]
set_option maxRecDepth 20000 in
set_option maxHeartbeats 1000000 in
theorem by_ (d : Int) (s t : Bool) (a b : Nat) (ea eb : Int) (va vb : Value) (w : World) (hQ : Fq.Tab w) (hd1 : -9223372036854775808 ≤ d) (hd2 : d < 9223372036854775808) (ha : Ls w va (dig a)) (hb : Ls w vb (dig b)) (la : len32 a ≤ 16384) (lb : len32 b ≤ 16384) (ea1 : -1074 ≤ ea) (ea2 : ea ≤ 2048) (eb1 : -1074 ≤ eb) (eb2 : eb ≤ 2048) :
    Calls Tryz.prog 16 #[.agg #[.bool s, va, .int .i64 ea], .int .i64 d, .agg #[.bool t, vb, .int .i64 eb]] w fun e w' => e = .returned (.float .f64 (ratW d (s ^^ t) a b (ea - eb))) ∧ Kp w w' := by
  obtain ⟨pa, ca, rfl, ha, hca⟩ := ha
  obtain ⟨pb, cb, rfl, hb, hcb⟩ := hb
  obtain ⟨La, hLa⟩ : ∃ La, La = (dig a).length := ⟨_, rfl⟩
  obtain ⟨Lb, hLb⟩ : ∃ Lb, Lb = (dig b).length := ⟨_, rfl⟩
  rw [← hLa, ← hLb]
  obtain ⟨B, hB⟩ : ∃ B, B = w.heap.size := ⟨_, rfl⟩
  obtain ⟨w0, hw0⟩ : ∃ w0, w0 = (w.alloc (.cells #[.bool s, .slice pa La ca, .int .i64 ea] 35)).alloc (.cells #[.bool t, .slice pb Lb cb, .int .i64 eb] 35) := ⟨_, rfl⟩
  have hk0 : Kp w w0 := by rw [hw0]; exact ((Kp.refl w).alloc _).alloc _
  have x0 : w0.cell? ⟨B, 0, none⟩ = some (.bool s) := by rw [hw0, hB]; simp [go_sem]
  have x1 : w0.cell? ⟨B, 1, none⟩ = some (.slice pa La ca) := by rw [hw0, hB]; simp [go_sem]
  have x2 : w0.cell? ⟨B, 2, none⟩ = some (.int .i64 ea) := by rw [hw0, hB]; simp [go_sem]
  have y0 : w0.cell? ⟨B + 1, 0, none⟩ = some (.bool t) := by rw [hw0, hB]; simp [go_sem]
  have y1 : w0.cell? ⟨B + 1, 1, none⟩ = some (.slice pb Lb cb) := by rw [hw0, hB]; simp [go_sem]
  have y2 : w0.cell? ⟨B + 1, 2, none⟩ = some (.int .i64 eb) := by rw [hw0, hB]; simp [go_sem]
  have h := prat_ d (s ^^ t) pa pb ca cb (dig a) (dig b) (ea - eb) w0 (Fq.Tab.grown hQ hk0) hd1 hd2 (ha.grown hk0) (hb.grown hk0) (Wd_dig a) (Wd_dig b) (by change len32 a ≤ _; omega) (by change len32 b ≤ _; omega) hca hcb
  rw [val_dig, val_dig, ← hLa, ← hLb] at h
  have w1e : wrap64 (ea - eb) = ea - eb := w64x _ (by omega) (by omega)
  obtain ⟨st, hst⟩ : ∃ st, st = (s ^^ t) := ⟨_, rfl⟩
  have hst2 : (s != t) = st := by rw [hst]
  have hst3 : (!decide (s = t)) = st := by rw [hst]; cases s <;> cases t <;> rfl
  have hst4 : (!(s == t)) = st := by rw [hst]; cases s <;> cases t <;> rfl
  rw [← hst] at h ⊢
  obtain ⟨Z, hZ⟩ : ∃ Z, Z = ratW d st a b (ea - eb) := ⟨_, rfl⟩
  rw [← hZ] at h ⊢
  have HW : Hid (w0 = (w.alloc (.cells #[.bool s, .slice pa La ca, .int .i64 ea] 35)).alloc (.cells #[.bool t, .slice pb Lb cb, .int .i64 eb] 35) ∧ B = w.heap.size ∧ Kp w w0) := ⟨hw0, hB, hk0⟩
  clear hZ hst ha hca hb hcb la lb hLa hLb hw0 hB hk0 hQ hd1 hd2 ea1 ea2 eb1 eb2
  go_enter Tryz.func16, Tryz.ntmps16
  go_wp2_with fail
  rw [← HW.out.2.1]
  try rw [← HW.out.1]
  go_wp2_with fail
  refine h.mono ?_; rintro e w1 ⟨rfl, k1⟩
  have hk := HW.out.2.2.trans k1
  clear h k1
  go_wp2
  exact bodyPost_ret (v := .float .f64 Z) (by simp [results, Tryz.results16, go_sem]) rfl ⟨rfl, hk⟩
end Go.Proofs.YtpjjmpdgchbdaaaGreatDoor
