import Derived.Test.YtjkbapnndoldgaaKH8Q
import Derived.Test.YtjkbapnndoldgaaKMR36
import Derived.Test.YtjkbapnndoldgaaKNRj
import Derived.Test.YtjkbapnndoldgaaKSHb
namespace Go.Proofs.Ytjkbapnndoldgaa
open Go.RowKit

set_option linter.unusedVariables false
theorem wb_bits (n : Bool) (m X Q eN fN : Nat) (hm : m < 2147483648) (hX : X = Fq.wS n m) (hQ : Q = X / 8388608) (he : eN = m / 8388608) (hf : fN = m % 8388608) :
    bits BinOp.and IntKind.u32 (Q : Int) 255 = (eN : Int) ∧ bits BinOp.and IntKind.u32 (X : Int) 8388607 = (fN : Int) ∧ ((X : Int) / 2147483648 == 1) = n ∧ bits BinOp.and IntKind.u32 (X : Int) 2147483647 = (m : Int) ∧ X < 4294967296 := by
  have hX9 : X < 4294967296 := by rw [hX]; unfold Fq.wS; split <;> omega
  have e1 : Q % 256 = eN := by rw [hQ, he, hX]; unfold Fq.wS; split <;> omega
  have e2 : X % 8388608 = fN := by rw [hf, hX]; unfold Fq.wS; split <;> omega
  have e3 : X % 2147483648 = m := by rw [hX]; unfold Fq.wS; split <;> omega
  refine ⟨?_, ?_, ?_, ?_, hX9⟩
  · have h := u32_and_nat Q 255 (by omega) (by decide)
    rw [show (255 : Nat) = 2 ^ 8 - 1 from by decide, Nat.and_two_pow_sub_one_eq_mod, show (2 : Nat) ^ 8 = 256 from by decide, e1] at h
    exact h
  · have h := u32_and_nat X 8388607 (by omega) (by decide)
    rw [show (8388607 : Nat) = 2 ^ 23 - 1 from by decide, Nat.and_two_pow_sub_one_eq_mod, show (2 : Nat) ^ 23 = 8388608 from by decide, e2] at h
    exact h
  · rw [hX]; unfold Fq.wS
    cases n
    · simp; omega
    · simp; omega
  · have h := u32_and_nat X 2147483647 (by omega) (by decide)
    rw [show (2147483647 : Nat) = 2 ^ 31 - 1 from by decide, Nat.and_two_pow_sub_one_eq_mod, show (2 : Nat) ^ 31 = 2147483648 from by decide, e3] at h
    exact h
theorem mdW_wz (n : Bool) (m : Nat) (hm : m ≤ 2139095040) : mdW n (wdR m) = pw (wz (Fq.plz n m)) := by
  by_cases c : m = 0
  · have e : wz (Fq.plz n m) = 0 := by
      rw [c, show Fq.plz n 0 = 0 from by cases n <;> rfl]
      unfold wz
      rw [if_neg (by omega)]
      show ((wdR 0 : Nat) : Int) = 0
      rw [wd_zero]; rfl
    rw [e, c, wd_zero]
    rfl
  · have h1 : wdR m ≠ 0 := by
      have a3 := wd_inj m 0 hm (by omega)
      rw [wd_zero] at a3
      exact fun h => c (a3.1 h)
    rw [← wd_pw n m hm (fun _ => c)]
    unfold mdW Fq.wD
    rw [if_neg h1]
set_option maxRecDepth 20000 in
set_option maxHeartbeats 1000000 in
theorem rwide3_ (n : Bool) (m : Nat) (hm : m ≤ 2139095040) (w : World) : Calls Try.prog 86 #[.int .u32 ((Fq.wS n m : Nat) : Int)] w fun e w' => e = .returned (.int .u64 ((pw (wz (Fq.plz n m)) : Nat) : Int)) ∧ w' = w := by
  rw [← mdW_wz n m hm]
  obtain ⟨X, hX⟩ : ∃ X, X = Fq.wS n m := ⟨_, rfl⟩
  obtain ⟨Q, hQ⟩ : ∃ Q, Q = X / 8388608 := ⟨_, rfl⟩
  obtain ⟨eN, he⟩ : ∃ eN, eN = m / 8388608 := ⟨_, rfl⟩
  obtain ⟨fN, hf⟩ : ∃ fN, fN = m % 8388608 := ⟨_, rfl⟩
  obtain ⟨b1, b2, b3, _, b5⟩ := wb_bits n m X Q eN fN (by omega) hX hQ he hf
  have f1 : (X : Int) / 8388608 = (Q : Int) := by rw [hQ]; exact (Int.natCast_ediv _ _).symm
  have hk := k9_eq
  have vd : Fq.vV Ieee.single m = (if m < 8388608 then m else 8388608 + m % 8388608) * 2 ^ (if m < 8388608 then 0 else m / 8388608 - 1) := by
    unfold Fq.vV Fq.mM Fq.eE
    rw [Fq.binS]
  rw [← hX]
  by_cases cI : m = 2139095040
  · have hi := rinf_ n w
    have e5 : eN = 255 := by omega
    have f5 : fN = 0 := by omega
    rw [show wdR m = 9218868437227405312 from by unfold wdR; rw [if_pos cI]]
    obtain ⟨Y, hY⟩ : ∃ Y, Y = mdW n 9218868437227405312 := ⟨_, rfl⟩
    rw [← hY] at hi ⊢
    rw [e5] at b1
    rw [f5] at b2
    clear hX hQ he hf hY cI vd hk e5 f5 hm
    go_enter Try.func86, Try.ntmps86
    go_wp2_with (first | (go_at_call 97; refine hi.mono ?_; rintro e w' ⟨rfl, hw'⟩; obtain rfl := hw'.symm; clear hi hw'))
    exact bodyPost_ret (v := .int .u64 (Y : Int)) (by simp [results, Try.results86, go_sem]) rfl ⟨rfl, rfl⟩
  · have hbl := wd_blen m (by omega)
    have ew : wdR m = rgU 53 (Fq.vV Ieee.single m * 2 ^ k9) := by unfold wdR; rw [if_neg cI]
    by_cases c0 : m < 8388608
    · rw [if_pos c0, if_pos c0, Nat.pow_zero, Nat.mul_one] at vd
      have e5 : eN = 0 := by omega
      have f5 : fN = m := by omega
      have hmd := made_ n m (-149) w (by omega) (by omega) (by omega) (by rw [show (-149 + 1074 : Int).toNat = k9 from by rw [hk]; rfl, ← vd]; exact hbl)
      rw [show (-149 + 1074 : Int).toNat = k9 from by rw [hk]; rfl, ← vd, ← ew] at hmd
      obtain ⟨Y, hY⟩ : ∃ Y, Y = mdW n (wdR m) := ⟨_, rfl⟩
      rw [← hY] at hmd ⊢
      rw [e5] at b1
      rw [f5] at b2
      have hm9 : m ≤ 8388608 := by omega
      rw [vd] at hmd
      clear hX hQ he hf hY cI vd hk e5 f5 hm hbl ew c0
      go_enter Try.func86, Try.ntmps86
      go_wp2_with (first | (go_at_call 101; refine hmd.mono ?_; rintro e w' ⟨rfl, hw'⟩; obtain rfl := hw'.symm; clear hmd hw'))
      exact bodyPost_ret (v := .int .u64 (Y : Int)) (by simp [results, Try.results86, go_sem]) rfl ⟨rfl, rfl⟩
    · rw [if_neg c0, if_neg c0, ← hf, ← he] at vd
      obtain ⟨q, hq⟩ : ∃ q, q = 8388608 + fN := ⟨_, rfl⟩
      obtain ⟨x, hx⟩ : ∃ x, x = eN - 1 := ⟨_, rfl⟩
      rw [← hq, ← hx] at vd
      have ez : (((x : Nat) : Int) - 149 + 1074).toNat = x + k9 := by omega
      have hmd := made_ n q ((x : Int) - 149) w (by omega) (by omega) (by omega) (by rw [ez, Nat.pow_add, ← Nat.mul_assoc, ← vd]; exact hbl)
      rw [ez, Nat.pow_add, ← Nat.mul_assoc, ← vd, ← ew] at hmd
      obtain ⟨Y, hY⟩ : ∃ Y, Y = mdW n (wdR m) := ⟨_, rfl⟩
      rw [← hY] at hmd ⊢
      have p1 : (fN : Int) + 8388608 = (q : Int) := by omega
      have p2 : (eN : Int) - 1 = (x : Int) := by omega
      have he1 : eN < 255 := by omega
      have he2 : 0 < eN := by omega
      have hf1 : fN < 8388608 := by omega
      have hx1 : x < 255 := by omega
      have hq1 : q < 16777216 := by omega
      have t0 : ((eN : Int) == 255) = false := by simp; omega
      have t1 : ¬ ((eN : Int) = 255) := by omega
      have t2 : 0 < (eN : Int) := by omega
      clear hX hQ he hf hY cI vd hk hm hbl ew c0 ez hq hx
      go_enter Try.func86, Try.ntmps86
      go_wp2_with (first | (go_at_call 101; refine hmd.mono ?_; rintro e w' ⟨rfl, hw'⟩; obtain rfl := hw'.symm; clear hmd hw'))
      exact bodyPost_ret (v := .int .u64 (Y : Int)) (by simp [results, Try.results86, go_sem]) rfl ⟨rfl, rfl⟩
def wpt (x : Nat) : Nat := if 2139095040 < x % 2147483648 then 9221120237041090561 else pw (wz (Fq.plz (decide (2147483648 ≤ x)) (x % 2147483648)))
theorem wpt_w (n : Bool) (m : Nat) (h : m < 2147483648) : wpt (Fq.wS n m) = if 2139095040 < m then 9221120237041090561 else pw (wz (Fq.plz n m)) := by
  have e1 : Fq.wS n m % 2147483648 = m := by unfold Fq.wS; split <;> omega
  have e2 : decide (2147483648 ≤ Fq.wS n m) = n := by unfold Fq.wS; cases n <;> simp <;> omega
  unfold wpt
  rw [e1, e2]
set_option maxRecDepth 20000 in
set_option maxHeartbeats 1000000 in
theorem rwide14_ (x : Nat) (hx : x < 4294967296) (w : World) : Calls Try.prog 59 #[.int .u32 (x : Int)] w fun e w' => e = .returned (.int .u64 ((wpt x : Nat) : Int)) ∧ w' = w := by
  obtain ⟨n, m, hm, rfl⟩ := Fq.exS x hx
  rw [wpt_w n m hm]
  obtain ⟨_, _, _, b4, b5⟩ := wb_bits n m _ _ _ _ hm rfl rfl rfl rfl
  by_cases c : 2139095040 < m
  · rw [if_pos c]
    obtain ⟨X, hX⟩ : ∃ X, X = Fq.wS n m := ⟨_, rfl⟩
    rw [← hX] at b4 b5 ⊢
    clear hX hx
    have c' : (2139095040 : Int) < (m : Int) := by omega
    clear c hm
    go_enter Try.func59, Try.ntmps59
    go_wp2
    exact bodyPost_ret (v := .int .u64 9221120237041090561) (by simp [results, Try.results59, go_sem]) rfl ⟨rfl, rfl⟩
  · rw [if_neg c]
    have h := rwide3_ n m (by omega) w
    obtain ⟨X, hX⟩ : ∃ X, X = Fq.wS n m := ⟨_, rfl⟩
    obtain ⟨Y, hY⟩ : ∃ Y, Y = pw (wz (Fq.plz n m)) := ⟨_, rfl⟩
    rw [← hX] at b4 b5 h ⊢
    rw [← hY] at h ⊢
    clear hX hx hY
    have c' : ¬ (2139095040 : Int) < (m : Int) := by omega
    clear c hm
    go_enter Try.func59, Try.ntmps59
    go_wp2_with (first | (go_at_call 86; refine h.mono ?_; rintro e w' ⟨rfl, hw'⟩; obtain rfl := hw'.symm; clear h hw'))
    exact bodyPost_ret (v := .int .u64 (Y : Int)) (by simp [results, Try.results59, go_sem]) rfl ⟨rfl, rfl⟩
set_option maxRecDepth 20000 in
set_option maxHeartbeats 1000000 in
theorem wideAllA_ (X Y P Q : Int) (hX : ∀ w : World, Calls Try.prog 59 #[.int .u32 X] w fun e w' => e = .returned (.int .u64 P) ∧ w' = w) (hY : ∀ w : World, Calls Try.prog 59 #[.int .u32 Y] w fun e w' => e = .returned (.int .u64 Q) ∧ w' = w) (w : World) : Calls Try.prog 35 #[.agg #[.int .u32 X, .int .u32 Y]] w fun e w' => e = .returned (.agg #[.int .u64 P, .int .u64 Q]) ∧ Kp w w' := by
  go_enter Try.func35, Try.ntmps35
  go_wp2
  go_region_held3 (fun w' => w'.cell? ⟨w.heap.size, 0, none⟩ = some (.int .u32 X) ∧ w'.cell? ⟨w.heap.size, 1, none⟩ = some (.int .u32 Y)) (simp [go_sem, World.cell?_alloc_past]) (first | (go_at_call_of 59 (Value.int .u32 X); refine (hX _).mono ?_; rintro e w' ⟨rfl, hw'⟩; obtain rfl := hw'.symm; clear hw') | (go_at_call_of 59 (Value.int .u32 Y); refine (hY _).mono ?_; rintro e w' ⟨rfl, hw'⟩; obtain rfl := hw'.symm; clear hw'))
  go_wp2
  exact bodyPost_ret (v := .agg #[.int .u64 P, .int .u64 Q]) (by simp [results, Try.results35, go_sem]) rfl ⟨rfl, (by repeat (with_reducible (first | assumption | exact Kp.refl _ | apply Kp.drew | apply Kp.alloc | apply Kp.drewN | (refine Kp.setCell ?_ (by first | omega | (simp <;> omega)) _) | (refine Kp.trans ?_ (by assumption)))))⟩
set_option maxRecDepth 20000 in
set_option maxHeartbeats 1000000 in
theorem thinA_ (X Y P Q : Int) (hX : ∀ w : World, Calls Try.prog 56 #[.int .u64 X] w fun e w' => e = .returned (.int .u32 P) ∧ w' = w) (hY : ∀ w : World, Calls Try.prog 56 #[.int .u64 Y] w fun e w' => e = .returned (.int .u32 Q) ∧ w' = w) (w : World) : Calls Try.prog 33 #[.agg #[.int .u64 X, .int .u64 Y]] w fun e w' => e = .returned (.agg #[.int .u32 P, .int .u32 Q]) ∧ Kp w w' := by
  go_enter Try.func33, Try.ntmps33
  go_wp2
  go_region_held3 (fun w' => w'.cell? ⟨w.heap.size, 0, none⟩ = some (.int .u64 X) ∧ w'.cell? ⟨w.heap.size, 1, none⟩ = some (.int .u64 Y)) (simp [go_sem, World.cell?_alloc_past]) (first | (go_at_call_of 56 (Value.int .u64 X); refine (hX _).mono ?_; rintro e w' ⟨rfl, hw'⟩; obtain rfl := hw'.symm; clear hw') | (go_at_call_of 56 (Value.int .u64 Y); refine (hY _).mono ?_; rintro e w' ⟨rfl, hw'⟩; obtain rfl := hw'.symm; clear hw'))
  go_wp2
  exact bodyPost_ret (v := .agg #[.int .u32 P, .int .u32 Q]) (by simp [results, Try.results33, go_sem]) rfl ⟨rfl, (by repeat (with_reducible (first | assumption | exact Kp.refl _ | apply Kp.drew | apply Kp.alloc | apply Kp.drewN | (refine Kp.setCell ?_ (by first | omega | (simp <;> omega)) _) | (refine Kp.trans ?_ (by assumption)))))⟩

theorem wideAll_ (a b : Nat) (ha : a < 4294967296) (hb : b < 4294967296) (w : World) : Calls Try.prog 35 #[.agg #[.int .u32 ((a : Nat) : Int), .int .u32 ((b : Nat) : Int)]] w fun e w' => e = .returned (.agg #[.int .u64 ((wpt a : Nat) : Int), .int .u64 ((wpt b : Nat) : Int)]) ∧ Kp w w' := wideAllA_ _ _ _ _ (rwide14_ a ha) (rwide14_ b hb) w
theorem rg24_S (m : Nat) (h : m < 2139095040) : rgU 24 (Fq.vV Ieee.single m) = m ∧ blen (Fq.vV Ieee.single m) ≤ 277 := by
  obtain ⟨S, E, hm, hS, hE, hb⟩ : ∃ S E, m = E * 2 ^ (24 - 1) + S ∧ S < 2 ^ 24 ∧ (E = 0 ∨ 2 ^ (24 - 1) ≤ S) ∧ E ≤ 253 := by
    rw [show (2 : Nat) ^ (24 - 1) = 8388608 from by decide, show (2 : Nat) ^ 24 = 16777216 from by decide]
    by_cases c : m < 8388608
    · exact ⟨m, 0, by omega, by omega, Or.inl rfl, by omega⟩
    · exact ⟨8388608 + m % 8388608, m / 8388608 - 1, by omega, by omega, Or.inr (by omega), by omega⟩
  have hv : Fq.vV Ieee.single m = S * 2 ^ E := by rw [hm]; exact vS_place E S (by omega) hE
  rw [hv]
  refine ⟨?_, ?_⟩
  · rw [rgU_place 24 S E (by decide) (by omega) hE, hm]
  · rw [blen_le_iff]
    calc S * 2 ^ E < 2 ^ 24 * 2 ^ E := Nat.mul_lt_mul_of_pos_right hS (Nat.two_pow_pos E)
      _ = 2 ^ (24 + E) := by rw [Nat.pow_add]
      _ ≤ 2 ^ 277 := Nat.pow_le_pow_right (by decide) (by omega)
theorem rthin_ (z : Int) (h : Sg.BdZ z) (w : World) : Calls Try.prog 56 #[.int .u64 ((pw (wz z) : Nat) : Int)] w fun e w' => e = .returned (.int .u32 ((Sg.pw z : Nat) : Int)) ∧ w' = w := by
  obtain ⟨n, m, hm, rfl⟩ : ∃ n m, m ≤ 2139095040 ∧ z = Fq.plz n m := ⟨decide (z < 0), z.natAbs, Sg.abs_pw z h, (Sg.plz_pw z).symm⟩
  rw [← mdW_wz n m hm]
  have ep : Sg.pw (Fq.plz n m) = pW 2147483648 n m := by
    unfold Sg.pw pW Fq.wS Fq.plz
    cases n
    · by_cases c : m = 0
      · simp [c]
      · have : ¬ ((m : Int) < 0) := by omega
        simp [c, this]
    · by_cases c : m = 0
      · simp [c]
      · simp [c]
  rw [ep]
  by_cases c : m = 2139095040
  · rw [c, show wdR 2139095040 = 9218868437227405312 from by unfold wdR; rw [if_pos rfl]]
    exact thin_inf n w
  · have g := rg24_S m (by omega)
    have t := thin_num n (Fq.vV Ieee.single m) k9 k9_eq g.2 w
    rw [g.1] at t
    rw [show wdR m = rgU 53 (Fq.vV Ieee.single m * 2 ^ k9) from by unfold wdR; rw [if_neg c]]
    exact t
theorem thin14_ (L H : Int) (hL : Sg.BdZ L) (hH : Sg.BdZ H) (w : World) : Calls Try.prog 33 #[.agg #[.int .u64 (pI (wz L)), .int .u64 (pI (wz H))]] w fun e w' => e = .returned (.agg #[.int .u32 ((Sg.pw L : Nat) : Int), .int .u32 ((Sg.pw H : Nat) : Int)]) ∧ Kp w w' := thinA_ _ _ _ _ (rthin_ L hL) (rthin_ H hH) w
theorem vdW {L H : Int} (h : Sg.VdZ L H) : VdZ (wz L) (wz H) := by
  have b1 := wz_bd L h.lo
  have b2 := wz_bd H h.hi
  have e1 := wz_inj L 2139095040 h.lo (by unfold Sg.BdZ; omega)
  have e2 := wz_inj H (-2139095040) h.hi (by unfold Sg.BdZ; omega)
  have e3 := wz_le L H h.lo h.hi
  rw [wz_I] at e1
  rw [wz_MI] at e2
  unfold BdZ at b1 b2
  unfold Sg.VdZ at h
  unfold VdZ
  omega
theorem rdW (a b : Nat) (L H : Int) (r : Sg.Rd a b L H) : Rd (wpt a) (wpt b) (wz L) (wz H) := by
  obtain ⟨ha, hb, hv, hl, hh⟩ := r
  obtain ⟨n, m, hm, rfl⟩ := Fq.exS a ha
  obtain ⟨n', m', hm', rfl⟩ := Fq.exS b hb
  have vw := vdW hv
  have wl : ∀ (g : Bool) (k : Nat), k < 2147483648 → wpt (Fq.wS g k) < 18446744073709551616 := by
    intro g k hk
    rw [wpt_w g k hk]
    split
    · decide
    · refine pw_lt _ (wz_bd _ ?_)
      unfold Sg.BdZ Fq.plz
      split <;> omega
  have es := Sg.snd_w n n' m m' hm hm'
  have nanl : ∀ x : Nat, Fq.snd 9221120237041090561 x = false := by
    intro x
    have := Fq.ordD_nanl false 9221120237041090561 x (by decide) (by decide)
    rw [show Fq.wD false 9221120237041090561 = 9221120237041090561 from rfl] at this
    unfold Fq.snd; rw [this]; rfl
  have nanr : ∀ x : Nat, Fq.snd x 9221120237041090561 = false := by
    intro x
    have := Fq.ordD_nanr false 9221120237041090561 x (by decide) (by decide)
    rw [show Fq.wD false 9221120237041090561 = 9221120237041090561 from rfl] at this
    unfold Fq.snd; rw [this]; rfl
  have void : Sg.snd (Fq.wS n m) (Fq.wS n' m') = false → Fq.snd (wpt (Fq.wS n m)) (wpt (Fq.wS n' m')) = false → Rd (wpt (Fq.wS n m)) (wpt (Fq.wS n' m')) (wz L) (wz H) := by
    intro s1 s2
    have l1 : Sg.rlo (Fq.wS n m) (Fq.wS n' m') = 2139095040 := by unfold Sg.rlo; rw [s1]; rfl
    have h1 : Sg.rhi (Fq.wS n m) (Fq.wS n' m') = 4286578688 := by unfold Sg.rhi; rw [s1]; rfl
    have l2 : Fq.rlo (wpt (Fq.wS n m)) (wpt (Fq.wS n' m')) = 9218868437227405312 := by unfold Fq.rlo; rw [s2]; rfl
    have h2 : Fq.rhi (wpt (Fq.wS n m)) (wpt (Fq.wS n' m')) = 18442240474082181120 := by unfold Fq.rhi; rw [s2]; rfl
    have eL : L = 2139095040 := by
      rw [l1, ← Sg.pw_I] at hl
      exact ((Sg.pw_inj 2139095040 L (by unfold Sg.BdZ; omega) hv.lo).1 hl).symm
    have eH : H = -2139095040 := by
      rw [h1, ← Sg.pw_MI] at hh
      exact ((Sg.pw_inj (-2139095040) H (by unfold Sg.BdZ; omega) hv.hi).1 hh).symm
    refine ⟨wl n m hm, wl n' m' hm', vw, ?_, ?_⟩
    · rw [l2, eL, wz_I, pw_I]
    · rw [h2, eH, wz_MI, pw_MI]
  by_cases c1 : 2139095040 < m
  · refine void (by rw [es, decide_eq_false (by omega)]) ?_
    rw [wpt_w n m hm, if_pos c1]; exact nanl _
  by_cases c2 : 2139095040 < m'
  · refine void (by rw [es, decide_eq_false (by omega)]) ?_
    rw [wpt_w n' m' hm', if_pos c2]; exact nanr _
  have q1 : Sg.BdZ (Fq.plz n m) := by unfold Sg.BdZ Fq.plz; split <;> omega
  have q2 : Sg.BdZ (Fq.plz n' m') := by unfold Sg.BdZ Fq.plz; split <;> omega
  have s2 : Fq.snd (wpt (Fq.wS n m)) (wpt (Fq.wS n' m')) = Sg.snd (Fq.wS n m) (Fq.wS n' m') := by
    rw [wpt_w n m hm, wpt_w n' m' hm', if_neg c1, if_neg c2, snd_pw _ _ (wz_bd _ q1) (wz_bd _ q2), es]
    congr 1; apply propext
    have e1 := wz_inj (Fq.plz n m) 2139095040 q1 (by unfold Sg.BdZ; omega)
    have e2 := wz_inj (Fq.plz n' m') (-2139095040) q2 (by unfold Sg.BdZ; omega)
    have e3 := wz_le _ _ q1 q2
    rw [wz_I] at e1
    rw [wz_MI] at e2
    rw [e3]
    have e4 : (Fq.plz n m = 2139095040) ↔ (n = false ∧ m = 2139095040) := by unfold Fq.plz; cases n <;> simp <;> omega
    have e5 : (Fq.plz n' m' = -2139095040) ↔ (n' = true ∧ m' = 2139095040) := by unfold Fq.plz; cases n' <;> simp <;> omega
    rw [← e4, ← e5, Ne, Ne, e1, e2]
    constructor
    · intro h; exact ⟨by omega, by omega, h.1, h.2.1, h.2.2⟩
    · intro h; exact ⟨h.2.2.1, h.2.2.2.1, h.2.2.2.2⟩
  by_cases c : Sg.snd (Fq.wS n m) (Fq.wS n' m') = true
  · have l1 : Sg.rlo (Fq.wS n m) (Fq.wS n' m') = Sg.pw (Fq.plz n m) := by
      unfold Sg.rlo; rw [if_pos c]
      unfold Sg.pla Sg.pw Fq.plz Fq.wS
      cases n
      · have : ¬ ((m : Int) < 0) := by omega
        simp [this]; omega
      · by_cases z : m = 0
        · simp [z]
        · simp [z]
    have h1 : Sg.rhi (Fq.wS n m) (Fq.wS n' m') = Sg.pw (Fq.plz n' m') := by
      unfold Sg.rhi; rw [if_pos c]
      unfold Sg.pla Sg.pw Fq.plz Fq.wS
      cases n'
      · have : ¬ ((m' : Int) < 0) := by omega
        simp [this]; omega
      · by_cases z : m' = 0
        · simp [z]
        · simp [z]
    have eL : Fq.plz n m = L := by
      rw [l1] at hl
      exact (Sg.pw_inj _ L q1 hv.lo).1 hl
    have eH : Fq.plz n' m' = H := by
      rw [h1] at hh
      exact (Sg.pw_inj _ H q2 hv.hi).1 hh
    refine ⟨wl n m hm, wl n' m' hm', vw, ?_, ?_⟩
    · unfold Fq.rlo
      rw [s2, if_pos c, wpt_w n m hm, if_neg c1, eL]
      exact pla_pw _ vw.lo
    · unfold Fq.rhi
      rw [s2, if_pos c, wpt_w n' m' hm', if_neg c2, eH]
      exact pla_pw _ vw.hi
  · have c' : Sg.snd (Fq.wS n m) (Fq.wS n' m') = false := by simpa using c
    exact void c' (s2.trans c')
end Go.Proofs.Ytjkbapnndoldgaa
