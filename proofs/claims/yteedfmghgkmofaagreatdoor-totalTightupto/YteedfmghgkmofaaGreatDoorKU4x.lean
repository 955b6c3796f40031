import Derived.Test.YteedfmghgkmofaaGreatDoorKMR23
import Derived.Test.YteedfmghgkmofaaGreatDoorKTOd
import Derived.Test.YteedfmghgkmofaaGreatDoorKXP
namespace Go.Proofs.YteedfmghgkmofaaGreatDoor
open Go.RowKit
theorem nanD9 (n : Bool) (m : Nat) (h1 : 9218868437227405312 < m) (h2 : m < 9223372036854775808) : Ieee.double.read (Fq.wD n m) = .nan n (m - 9218868437227405312) := by
  rw [Fq.read_nan Ieee.double _ Fq.binfD (by rw [Fq.rgD n m h2, Fq.infD]; exact h1), Fq.rgD n m h2, Fq.ngD n m h2, Fq.infD]
theorem infD9 (n : Bool) : Ieee.double.read (Fq.wD n 9218868437227405312) = .infinity n := by
  rw [Fq.read_inf Ieee.double _ Fq.binfD (by rw [Fq.rgD n 9218868437227405312 (by decide), Fq.infD]), Fq.ngD n 9218868437227405312 (by decide)]
theorem finD9 (n : Bool) (m : Nat) (h : m < 9218868437227405312) : ∃ a e, Ieee.double.read (Fq.wD n m) = .number n a e ∧ (a = 0 ↔ m = 0) := by
  rw [Fq.read_fin _ _ (by rw [Fq.rgD n m (by omega), Fq.infD]; exact h), Fq.ngD n m (by omega), Fq.rgD n m (by omega)]
  refine ⟨_, _, rfl, ?_⟩
  unfold Fq.mM
  rw [Fq.binD]
  split <;> omega
theorem wrI9 (s : Bool) : Ieee.double.write (.infinity s) = Fq.wD s 9218868437227405312 := by unfold Ieee.Format.write Ieee.Format.word Fq.wD; rw [Fq.signD, Fq.infD]
def badP (m m' : Nat) : Prop := 9218868437227405312 < m ∨ 9218868437227405312 < m' ∨ (m = 9218868437227405312 ∧ m' = 0) ∨ (m = 0 ∧ m' = 9218868437227405312)
theorem mul_bad (n n' : Bool) (m m' : Nat) (hm : m < 9223372036854775808) (hm' : m' < 9223372036854775808) (h : badP m m') : FloatKind.f64.format.mul (Fq.wD n m) (Fq.wD n' m') = none := by
  show Ieee.double.mul _ _ = none
  unfold Ieee.Format.mul
  by_cases c1 : 9218868437227405312 < m
  · rw [nanD9 n m c1 hm]; rfl
  · by_cases c2 : 9218868437227405312 < m'
    · rw [nanD9 n' m' c2 hm']
      by_cases c3 : m = 9218868437227405312
      · rw [c3, infD9]; rfl
      · obtain ⟨a, e, he, _⟩ := finD9 n m (by omega)
        rw [he]; rfl
    · rcases (h.resolve_left c1).resolve_left c2 with ⟨e1, e2⟩ | ⟨e1, e2⟩
      · obtain ⟨a, e, he, hz⟩ := finD9 n' m' (by omega)
        rw [e1, infD9, he]
        unfold Ieee.Datum.product
        simp only
        rw [if_pos (hz.2 e2)]; rfl
      · obtain ⟨a, e, he, hz⟩ := finD9 n m (by omega)
        rw [e2, infD9, he]
        unfold Ieee.Datum.product
        simp only
        rw [if_pos (hz.2 e1)]; rfl
theorem mul_inf (n n' : Bool) (m m' : Nat) (h : ¬ badP m m') (hi : ¬ (m < 9218868437227405312 ∧ m' < 9218868437227405312)) : FloatKind.f64.format.mul (Fq.wD n m) (Fq.wD n' m') = some (Fq.wD (n ^^ n') 9218868437227405312) := by
  unfold badP at h
  show Ieee.double.mul _ _ = _
  unfold Ieee.Format.mul
  by_cases c1 : m = 9218868437227405312
  · rw [c1, infD9]
    by_cases c2 : m' = 9218868437227405312
    · rw [c2, infD9]
      exact congrArg some (wrI9 _)
    · obtain ⟨a, e, he, hz⟩ := finD9 n' m' (by omega)
      rw [he]
      unfold Ieee.Datum.product
      simp only
      rw [if_neg (fun h0 => h (Or.inr (Or.inr (Or.inl ⟨c1, hz.1 h0⟩))))]
      exact congrArg some (wrI9 _)
  · have c2 : m' = 9218868437227405312 := by omega
    obtain ⟨a, e, he, hz⟩ := finD9 n m (by omega)
    rw [c2, infD9, he]
    unfold Ieee.Datum.product
    simp only
    rw [if_neg (fun h0 => h (Or.inr (Or.inr (Or.inr ⟨hz.1 h0, c2⟩)))), show (n ^^ n') = (n' ^^ n) from by cases n <;> cases n' <;> rfl]
    exact congrArg some (wrI9 _)
theorem rU_zero9 : rU 0 53 0 1 = 0 := by
  have h := rV_zero9 0 0
  unfold rV at h
  simpa using h
theorem mul_zero (n n' : Bool) (m m' : Nat) (hm : m < 9218868437227405312) (hm' : m' < 9218868437227405312) (h : m = 0 ∨ m' = 0) : FloatKind.f64.format.mul (Fq.wD n m) (Fq.wD n' m') = some (Fq.wD (n ^^ n') 0) := by
  obtain ⟨K, hK⟩ : ∃ K : Nat, K = 1074 := ⟨_, rfl⟩
  have hz : Iv n m * Iv n' m' = 0 := by
    have e : ∀ b : Bool, Iv b 0 = 0 := fun b => by
      have := iv_abs b 0
      rw [(vV_zero 0).2 rfl] at this
      omega
    rcases h with h | h
    · rw [h, e, Int.zero_mul]
    · rw [h, e, Int.mul_zero]
  rw [mul_v n n' m m' hm hm' K 0 hK (by rw [hz, Int.zero_mul]), if_pos rfl, show (0 : Int).natAbs = 0 from rfl, rU_zero9]
  unfold finU
  rw [blen_zero, if_pos (by decide), rgU_zero]
theorem nan_cut9 (t : Nat) : 9218868437227405312 < (t % 2 * 2 ^ 63 + 0x7ff0000000000000 + 1 + t / 2 % (2 ^ 52 - 1)) % 9223372036854775808 ∧ t % 2 * 2 ^ 63 + 0x7ff0000000000000 + 1 + t / 2 % (2 ^ 52 - 1) < 18446744073709551616 := by
  rw [show (2 : Nat) ^ 63 = 9223372036854775808 from by decide, show (2 : Nat) ^ 52 - 1 = 4503599627370495 from by decide]
  have h1 : t % 2 = 0 ∨ t % 2 = 1 := by omega
  have h2 : t / 2 % 4503599627370495 < 4503599627370495 := Nat.mod_lt _ (by decide)
  generalize t / 2 % 4503599627370495 = b at *
  rcases h1 with h | h <;> rw [h] <;> omega
theorem run_nan_mul (X Y : Nat) (h : FloatKind.f64.format.mul X Y = none) (w : World) : ∃ r, 9218868437227405312 < r % 9223372036854775808 ∧ r < 18446744073709551616 ∧ (binOp .mul 27 (.float .f64 X) (.float .f64 Y)).run Tryz.prog w = .ok (.float .f64 r) w.drew := by
  refine ⟨Question.cut (.nanBits .f64 X Y) _, ?_, ?_, by simp [binOp, Op.floatArith, h]; rfl⟩
  · simp only [Question.cut]; exact (nan_cut9 _).1
  · simp only [Question.cut]; exact (nan_cut9 _).2
set_option maxRecDepth 20000 in
set_option maxHeartbeats 1000000 in
theorem rootOfWord_ (v : Nat) (hv : v < 18446744073709551616) (w : World) :
    Calls Tryz.prog 149 #[.int .u64 (v : Int)] w fun e w' => ∃ r, e = .returned r ∧ Two w' w.heap.size (dig (rtN v)) (dig (v - rtN v * rtN v)) r ∧ Kp w w' := by
  have HV : Hid (v < 18446744073709551616) := hv
  clear hv
  go_enter Tryz.func149, Tryz.ntmps149
  go_wp2
  go_loop [4, 7] (fun rr ii => ∃ k r : Nat, rr = .int .u64 (r : Int) ∧ ii = .int .i64 (k : Int) ∧ k ≤ 32 ∧ RI v r (32 - k)) (fun _ i => 32 - (intOf i).toNat)
  case atStart => exact ⟨0, 0, rfl, rfl, by omega, RI.start v HV.out⟩
  case round =>
    obtain ⟨k, r, rfl, rfl, hk, hI⟩ := hrel
    by_cases ck : k < 32
    · obtain ⟨e, he⟩ : ∃ e, e = 31 - k := ⟨_, rfl⟩
      rw [show 32 - k = e + 1 from by omega] at hI
      obtain ⟨h1, h2, h3, h4, h5⟩ := hI.tries
      obtain ⟨P, hP⟩ : ∃ P, P = 2 ^ e := ⟨_, rfl⟩
      obtain ⟨t, ht⟩ : ∃ t, t = r + 2 ^ e := ⟨_, rfl⟩
      have f1 : (31 : Int) - (k : Int) = (e : Int) := by omega
      have f1b : IntKind.i64.wrap (31 - (k : Int)) = (e : Int) := by rw [IntKind.wrap_i64]; omega
      have hPc : ((2 : Int) ^ e) = (P : Int) := by rw [hP]; norm_cast
      have f2 : IntKind.u64.wrap ((2 : Int) ^ e) = (P : Int) := by rw [hPc, IntKind.wrap_u64]; omega
      have f2b : IntKind.u64.wrap (1 * (2 : Int) ^ e) = (P : Int) := by rw [Int.one_mul]; exact f2
      have f3 : bits BinOp.or IntKind.u64 (r : Int) (P : Int) = (t : Int) := by
        rw [bits_or_u64_nat r P (by omega) (by omega), hP, h1, ← ht]
      obtain ⟨S, hS⟩ : ∃ S, S = t * t := ⟨_, rfl⟩
      have f4 : IntKind.u64.wrap ((t : Int) * (t : Int)) = (S : Int) := by
        have e9 : (t : Int) * (t : Int) = (S : Int) := by rw [hS]; exact (Int.natCast_mul t t).symm
        rw [← ht, ← hS] at h3
        rw [e9, IntKind.wrap_u64]; omega
      have i1 : (k : Int) < 32 := by omega
      by_cases ct : S ≤ v
      · have hI2 := hI.up (by rw [← ht, ← hS]; exact ct)
        rw [← ht, show e = 32 - (k + 1) from by omega] at hI2
        have t1 : (S : Int) ≤ (v : Int) := by omega
        have HI : Hid (RI v t (32 - (k + 1)) ∧ k + 1 ≤ 32) := ⟨hI2, by omega⟩
        clear HV hk hI ck he h1 h2 h3 h4 h5 hP ht hS ct hI2 hPc
        go_wp2
        exact ⟨⟨k + 1, t, rfl, by go_num, HI.out.2, HI.out.1⟩, by simp [intOf]; omega⟩
      · have hI2 := hI.stay (by rw [← ht, ← hS]; exact ct)
        rw [show e = 32 - (k + 1) from by omega] at hI2
        have t1 : ¬ (S : Int) ≤ (v : Int) := by omega
        have HI : Hid (RI v r (32 - (k + 1)) ∧ k + 1 ≤ 32) := ⟨hI2, by omega⟩
        clear HV hk hI ck he h1 h2 h3 h4 h5 hP ht hS ct hI2 hPc
        go_wp2
        exact ⟨⟨k + 1, r, rfl, by go_num, HI.out.2, HI.out.1⟩, by simp [intOf]; omega⟩
    · have hk32 : k = 32 := by omega
      subst hk32
      obtain ⟨hd1, hd2⟩ := hI.done
      have hr := hd1.eq
      obtain ⟨S, hS⟩ : ∃ S, S = r * r := ⟨_, rfl⟩
      obtain ⟨D, hD⟩ : ∃ D, D = v - r * r := ⟨_, rfl⟩
      have hSv : S ≤ v := by rw [hS]; exact hd1.1
      have hv := HV.out
      have f4 : IntKind.u64.wrap ((r : Int) * (r : Int)) = (S : Int) := by
        have e9 : (r : Int) * (r : Int) = (S : Int) := by rw [hS]; exact (Int.natCast_mul r r).symm
        rw [e9, IntKind.wrap_u64]; omega
      have f5 : IntKind.u64.wrap ((v : Int) - (S : Int)) = (D : Int) := by rw [IntKind.wrap_u64]; omega
      have hs1 := nsmall_ r (by omega)
      have hs2 := nsmall_ D (by omega)
      have HR : Hid (r = rtN v ∧ D = v - rtN v * rtN v) := ⟨hr, by rw [← hr]; exact hD⟩
      clear HV hk hI ck hd1 hd2 hr hS hD hSv hv
      go_wp2_with fail
      refine (hs1 _).mono ?_
      rintro e w1 ⟨v1, rfl, hO1, hk1⟩
      clear hs1
      go_wp2_with fail
      refine (hs2 _).mono ?_
      rintro e w2 ⟨v2, rfl, hO2, hk2⟩
      obtain ⟨p1, c1, rfl, _⟩ := hO1.len
      obtain ⟨p2, c2, rfl, _⟩ := hO2.len
      have hTwo : Two w2 w.heap.size (dig r) (dig D) (.tuple #[.slice p1 (dig r).length c1, .slice p2 (dig D).length c2]) := by
        refine ⟨p1, c1, p2, c2, rfl, hO1.kp hk2, hO2.mono hk1.size, fun g e e2 => ?_⟩
        subst e e2
        have h1 := hO1.above.2
        have h2 := hO2.above.1
        omega
      have HZ : Hid (Two w2 w.heap.size (dig (rtN v)) (dig (v - rtN v * rtN v)) (.tuple #[.slice p1 (dig r).length c1, .slice p2 (dig D).length c2]) ∧ Kp w w2) := ⟨by rw [← HR.out.2, ← HR.out.1]; exact hTwo, hk1.trans hk2⟩
      obtain ⟨K1, hK1⟩ : ∃ K1, K1 = (dig r).length := ⟨_, rfl⟩
      obtain ⟨K2, hK2⟩ : ∃ K2, K2 = (dig D).length := ⟨_, rfl⟩
      rw [← hK1, ← hK2] at HZ ⊢
      clear hs2 hO1 hO2 hk1 hk2 hTwo hK1 hK2
      go_wp2
      exact bodyPost_ret (v := .tuple #[.slice p1 K1 c1, .slice p2 K2 c2]) (by simp [results, Tryz.results149, go_sem]) rfl ⟨_, rfl, HZ.out.1, HZ.out.2⟩
set_option maxRecDepth 20000 in
set_option maxHeartbeats 1000000 in
theorem root2_ (p : Option Addr) (c : Nat) (xs : List Int) (w : World) (hx : Arr w p xs) (hwx : Wd xs) (l2 : xs.length ≤ 2) :
    Calls Tryz.prog 126 #[.slice p xs.length c] w fun e w' => ∃ v, e = .returned v ∧ Two w' w.heap.size (dig (rtN (val xs))) (dig (val xs - rtN (val xs) * rtN (val xs))) v ∧ Kp w w' := by
  have hlo := lowest_ p c xs w hx hwx l2
  have hv : val xs < 18446744073709551616 := by
    have h1 := val_lt xs hwx
    have h2 : 4294967296 ^ xs.length ≤ 4294967296 ^ 2 := Nat.pow_le_pow_right (by omega) l2
    have h3 : (4294967296 : Nat) ^ 2 = 18446744073709551616 := by decide
    omega
  have hrw := rootOfWord_ (val xs) hv w
  obtain ⟨N, hN⟩ : ∃ N, N = xs.length := ⟨_, rfl⟩
  obtain ⟨V, hV⟩ : ∃ V, V = val xs := ⟨_, rfl⟩
  rw [← hN, ← hV] at hlo
  rw [← hV] at hrw
  rw [← hN, ← hV]
  have t1 : (N : Int) ≤ 2 := by omega
  clear hx hwx l2 hv hN hV
  go_enter Tryz.func126, Tryz.ntmps126
  go_wp2_with fail
  refine hlo.mono ?_; rintro e w' ⟨rfl, hw'⟩; obtain rfl := hw'.symm; clear hlo
  go_wp2_with fail
  refine hrw.mono ?_
  rintro e w2 ⟨v, rfl, ⟨p1, c1, p2, c2, rfl, o1, o2, hne⟩, hk2⟩
  obtain ⟨L1, hL1⟩ : ∃ L1, L1 = (dig (rtN V)).length := ⟨_, rfl⟩
  obtain ⟨L2, hL2⟩ : ∃ L2, L2 = (dig (V - rtN V * rtN V)).length := ⟨_, rfl⟩
  have HZ : Hid (Two w2 w.heap.size (dig (rtN V)) (dig (V - rtN V * rtN V)) (.tuple #[.slice p1 L1 c1, .slice p2 L2 c2]) ∧ Kp w w2) := ⟨⟨p1, c1, p2, c2, by rw [hL1, hL2], o1, o2, hne⟩, hk2⟩
  rw [← hL1, ← hL2]
  clear hrw o1 o2 hne hk2 hL1 hL2 t1
  go_wp2
  exact bodyPost_ret (v := .tuple #[.slice p1 L1 c1, .slice p2 L2 c2]) (by simp [results, Tryz.results126, go_sem]) rfl ⟨_, rfl, HZ.out.1, HZ.out.2⟩
set_option maxRecDepth 20000 in
set_option maxHeartbeats 1000000 in
theorem nroot_of (p : Option Addr) (c : Nat) (xs : List Int) (w : World) (hx : Arr w p xs) (hwx : Wd xs) (lx : xs.length ≤ 1048576) (hc : xs.length ≤ c)
    (hroot : ¬ 16384 < tl xs → Calls Tryz.prog 126 #[.slice p (tl xs) c] w fun e w' => ∃ v, e = .returned v ∧ Two w' w.heap.size (dig (rtN (val xs))) (dig (val xs - rtN (val xs) * rtN (val xs))) v ∧ Kp w w') :
    Calls Tryz.prog 91 #[.slice p xs.length c] w fun e w' => ∃ v, e = .returned (.tuple #[v, .bool (rootN (val xs)).2.1, .int .i64 (rootN (val xs)).2.2]) ∧ Own w' w.heap.size v (rootN (val xs)).1 ∧ Kp w w' := by
  have h1 := trim_ p c xs w hx (by omega) hc
  have l1 := tooLong_ p (tl xs) c w
  have hlx : tl xs = len32 (val xs) := tl_len xs hwx
  obtain ⟨N, hN⟩ : ∃ N, N = xs.length := ⟨_, rfl⟩
  obtain ⟨S, hS⟩ : ∃ S, S = tl xs := ⟨_, rfl⟩
  obtain ⟨V, hV⟩ : ∃ V, V = val xs := ⟨_, rfl⟩
  rw [← hN, ← hS] at h1
  rw [← hS] at l1 hlx hroot
  rw [← hV] at hlx hroot
  rw [← hN, ← hV]
  clear hx hwx lx hc hN hS hV
  unfold rootN
  by_cases cl : 16384 < len32 V
  · rw [← hlx] at cl ⊢
    simp only [if_pos cl]
    rw [decide_eq_true cl] at l1
    clear hroot hlx cl
    go_enter Tryz.func91, Tryz.ntmps91
    go_wp2_with fail
    refine h1.mono ?_; rintro e w' ⟨rfl, hw'⟩; obtain rfl := hw'.symm; clear h1
    go_wp2_with fail
    refine l1.mono ?_; rintro e w' ⟨rfl, hw'⟩; obtain rfl := hw'.symm; clear l1
    go_wp2
    exact bodyPost_ret (v := .tuple #[.slice none 0 0, .bool false, .int .i64 2]) (by simp [results, Tryz.results91, go_sem]) rfl ⟨_, rfl, Own.nil _ _, Kp.refl _⟩
  · rw [← hlx] at cl ⊢
    simp only [if_neg cl]
    have hr := hroot cl
    rw [decide_eq_false cl] at l1
    obtain ⟨D, hD⟩ : ∃ D, D = V - rtN V * rtN V := ⟨_, rfl⟩
    obtain ⟨R, hR⟩ : ∃ R, R = rtN V := ⟨_, rfl⟩
    have hle := (rtN_is V).1
    rw [← hD, ← hR] at hr
    rw [← hR] at hle hD ⊢
    have hb : decide (V = R * R) = decide (D = 0) := by
      by_cases e : D = 0
      · rw [decide_eq_true e, decide_eq_true (by omega)]
      · rw [decide_eq_false e, decide_eq_false (by omega)]
    rw [hb]
    clear hroot hlx cl hD hR hle hb
    go_enter Tryz.func91, Tryz.ntmps91
    go_wp2_with fail
    refine h1.mono ?_; rintro e w' ⟨rfl, hw'⟩; obtain rfl := hw'.symm; clear h1
    go_wp2_with fail
    refine l1.mono ?_; rintro e w' ⟨rfl, hw'⟩; obtain rfl := hw'.symm; clear l1
    go_wp2_with fail
    refine hr.mono ?_
    rintro e w2 ⟨v, rfl, ⟨p1, c1, p2, c2, rfl, o1, o2, hne⟩, hk2⟩
    obtain ⟨L1, hL1⟩ : ∃ L1, L1 = (dig R).length := ⟨_, rfl⟩
    obtain ⟨L2, hL2⟩ : ∃ L2, L2 = (dig D).length := ⟨_, rfl⟩
    have h0 := dig_len_zero D
    rw [← hL2] at h0
    obtain ⟨bb, hbb⟩ : ∃ bb, bb = decide (D = 0) := ⟨_, rfl⟩
    have tb : decide ((L2 : Int) = 0) = bb := by
      rw [hbb]
      by_cases e : D = 0
      · rw [decide_eq_true e, decide_eq_true (by have := h0.2 e; omega)]
      · rw [decide_eq_false e, decide_eq_false (by have := mt h0.1 e; omega)]
    have tb2 : ((L2 : Int) == 0) = bb := tb
    have HZ : Hid (Own w2 w.heap.size (.slice p1 L1 c1) (dig R) ∧ Kp w w2 ∧ bb = decide (D = 0)) := ⟨by rw [hL1]; exact o1, hk2, hbb⟩
    rw [← hL1, ← hL2]
    clear hr o1 o2 hne hk2 hL1 hL2 h0 hbb tb
    go_wp2
    exact bodyPost_ret (v := .tuple #[.slice p1 L1 c1, .bool bb, .int .i64 0]) (by simp [results, Tryz.results91, go_sem]) rfl ⟨_, by rw [HZ.out.2.2], HZ.out.1, HZ.out.2.1⟩

def Sm (K a : Nat) : Prop := a < 4294967296 ^ K
theorem Sm.mono {K J a : Nat} (h : Sm K a) (hk : K ≤ J) : Sm J a := Nat.lt_of_lt_of_le h (Nat.pow_le_pow_right (by decide) hk)
theorem Sm.add {K a b : Nat} (h : Sm K a) (k : Sm K b) : Sm (K + 1) (a + b) := by
  unfold Sm at *
  rw [Nat.pow_succ]
  generalize 4294967296 ^ K = P at *
  omega
theorem Sm.mul {K J a b : Nat} (h : Sm K a) (k : Sm J b) : Sm (K + J) (a * b) := by
  unfold Sm at *
  rw [Nat.pow_add]
  by_cases e : b = 0
  · subst e
    rw [Nat.mul_zero]
    exact Nat.mul_pos (Nat.pow_pos (by decide)) (Nat.pow_pos (by decide))
  · exact Nat.mul_lt_mul_of_lt_of_le h (Nat.le_of_lt k) (by omega)
theorem Sm.one {K : Nat} (h : 0 < K) : Sm K 1 := Nat.one_lt_pow (by omega) (by decide)
theorem Sm.len {K a : Nat} (h : Sm K a) : len32 a ≤ K := by
  by_cases c : len32 a ≤ K
  · exact c
  · exfalso
    have := len32_lt a K (by omega)
    unfold Sm at h
    omega
theorem Sm.val {xs : List Int} (h : Wd xs) : Sm xs.length (Go.Proofs.YteedfmghgkmofaaGreatDoor.val xs) := val_lt xs h
def LsN (w : World) (v : Value) (L : List Int) : Prop := ∃ p c, v = .slice p L.length c ∧ Arr w p L ∧ L.length ≤ c
theorem LsN.kp {w w' : World} {v : Value} {L : List Int} (h : LsN w v L) (k : Kp w w') : LsN w' v L := by
  obtain ⟨p, c, e, hA, hc⟩ := h
  exact ⟨p, c, e, hA.grown k, hc⟩
theorem Own.lsN {w : World} {base : Nat} {v : Value} {L : List Int} (h : Own w base v L) : LsN w v L := by
  obtain ⟨p, c, e, hA, hc⟩ := h.arr
  exact ⟨p, c, e, hA, hc⟩
end Go.Proofs.YteedfmghgkmofaaGreatDoor
