import Derived.Test.YtnjlcfpkhgmjeaaGreatDoorKTOl
import Derived.Test.YtnjlcfpkhgmjeaaGreatDoorKTQx
namespace Go.Proofs.YtnjlcfpkhgmjeaaGreatDoor
open Go.RowKit
theorem sgep0 (m : Nat) (h : m / 4503599627370496 = 0) : Fb.sgD m = m % 4503599627370496 ∧ Fb.epD m = -1074 := by
  have h1 : m < 4503599627370496 := by omega
  unfold Fb.sgD Fb.sgG Fb.epD Fb.epG
  rw [if_pos h1, if_pos h1, Nat.mod_eq_of_lt h1]
  exact ⟨rfl, rfl⟩
theorem sgep1 (m : Nat) (hm : m < 9218868437227405312) (h : m / 4503599627370496 ≠ 0) : Fb.sgD m = m % 4503599627370496 + 4503599627370496 ∧ Fb.epD m = ((m / 4503599627370496 : Nat) : Int) - 1 - 1074 := by
  have h1 : ¬ m < 4503599627370496 := by omega
  unfold Fb.sgD Fb.sgG Fb.epD Fb.epG
  rw [if_neg h1, if_pos hm, if_neg h1, if_pos hm]
  generalize m / 4503599627370496 = q
  exact ⟨by omega, by omega⟩
theorem small64 (f : Nat) (x : Int) (h : f < 18446744073709551616) (hx : x.natAbs ≤ 4096) : f < 18446744073709551616 ∧ blen f ≤ 64 ∧ x.natAbs ≤ 1048576 :=
  ⟨h, blen_lt f 64 (by rw [show (2 : Nat) ^ 64 = 18446744073709551616 from by decide]; exact h), by omega⟩
theorem fb_nums (eN fN f : Nat) (e1 x : Int) (b1 : eN < 2047) (b2 : fN < 4503599627370496) (h0 : eN ≠ 0) (hf : f = fN + 4503599627370496) (he1 : e1 = (eN : Int) - 1) (hx : x = e1 - 1074) :
    0 < (eN : Int) ∧ IntKind.u64.wrap ((fN : Int) + 4503599627370496) = (f : Int) ∧ wrap64 ((eN : Int) - 1) = e1 ∧ wrap64 (e1 - 1074) = x ∧ f < 18446744073709551616 ∧ x.natAbs ≤ 4096 := by
  refine ⟨by omega, ?_, ?_, ?_, by omega, by omega⟩
  · rw [IntKind.wrap_u64]; omega
  · rw [← he1]; exact w64x _ (by omega) (by omega)
  · rw [← hx]; exact w64x _ (by omega) (by omega)
theorem fb_e (eN : Nat) (b1 : eN < 2047) : IntKind.i64.wrap (eN : Int) = (eN : Int) ∧ wrap64 (eN : Int) = (eN : Int) := ⟨wi64 _ (by omega) (by omega), w64x _ (by omega) (by omega)⟩
theorem fb_bits (n : Bool) (m X Q eN fN : Nat) (hm : m < 9218868437227405312) (hX : X = Fb.wD n m) (hQ : Q = X / 4503599627370496) (he : eN = m / 4503599627370496) (hf : fN = m % 4503599627370496) :
    bits BinOp.and IntKind.u64 (Q : Int) 2047 = (eN : Int) ∧ bits BinOp.and IntKind.u64 (X : Int) 4503599627370495 = (fN : Int) ∧ (X : Int) / 9223372036854775808 = (if n = true then 1 else 0) ∧ eN < 2047 ∧ fN < 4503599627370496 ∧ X < 18446744073709551616 := by
  have hX9 : X < 18446744073709551616 := by rw [hX]; unfold Fb.wD; split <;> omega
  have e1 : Q % 2048 = eN := by rw [hQ, he, hX]; unfold Fb.wD; split <;> omega
  have e2 : X % 4503599627370496 = fN := by rw [hf, hX]; unfold Fb.wD; split <;> omega
  refine ⟨?_, ?_, ?_, by omega, by omega, hX9⟩
  · have h := u64_and_nat Q 2047 (by omega) (by decide)
    rw [show (2047 : Nat) = 2 ^ 11 - 1 from by decide, Nat.and_two_pow_sub_one_eq_mod, show (2 : Nat) ^ 11 = 2048 from by decide, e1] at h
    exact h
  · have h := u64_and_nat X 4503599627370495 hX9 (by decide)
    rw [show (4503599627370495 : Nat) = 2 ^ 52 - 1 from by decide, Nat.and_two_pow_sub_one_eq_mod, show (2 : Nat) ^ 52 = 4503599627370496 from by decide, e2] at h
    exact h
  · rw [hX]; unfold Fb.wD; cases n <;> simp <;> omega
set_option maxRecDepth 20000 in
set_option maxHeartbeats 400000 in
theorem fromBitsX_ (n : Bool) (m : Nat) (hm : m < 9218868437227405312) (w : World) :
    Calls Tryz.prog 20 #[.int .u64 ((Fb.wD n m : Nat) : Int)] w fun e w' => ∃ (vn vd : Value) (a b : Nat) (ng : Bool), e = .returned (.agg #[.bool ng, vn, vd]) ∧ Own w' w.heap.size vn (dig a) ∧ Own w' w.heap.size vd (dig b) ∧ (FracX (Fb.sgD m) 1 (Fb.epD m) a b ∧ (Fb.sgD m ≠ 0 → ng = n)) ∧ Kp w w' := by
  obtain ⟨w0, hw0⟩ : ∃ w0, w0 = w.alloc (.cells #[.bool false, .slice none 0 0, .slice none 0 0] 45) := ⟨_, rfl⟩
  have Hw0 : Hid (w0 = w.alloc (.cells #[.bool false, .slice none 0 0, .slice none 0 0] 45)) := hw0
  obtain ⟨X, hX⟩ : ∃ X, X = Fb.wD n m := ⟨_, rfl⟩
  obtain ⟨Q, hQ⟩ : ∃ Q, Q = X / 4503599627370496 := ⟨_, rfl⟩
  obtain ⟨eN, heN⟩ : ∃ eN, eN = m / 4503599627370496 := ⟨_, rfl⟩
  obtain ⟨fN, hfN⟩ : ∃ fN, fN = m % 4503599627370496 := ⟨_, rfl⟩
  obtain ⟨f2, f3, f4, b1, b2, b3⟩ := fb_bits n m X Q eN fN hm hX hQ heN hfN
  have f1 : (X : Int) / 4503599627370496 = (Q : Int) := by rw [hQ]; exact (Int.natCast_ediv _ _).symm
  obtain ⟨s63, hs63⟩ : ∃ s63 : Int, s63 = if n = true then 1 else 0 := ⟨_, rfl⟩
  rw [← hs63] at f4
  have hsn : (s63 == 1) = n := by rw [hs63]; cases n <;> rfl
  have hsn2 : decide (s63 = 1) = n := by rw [hs63]; cases n <;> rfl
  rw [← hX]
  obtain ⟨ge, ge2⟩ := fb_e eN b1
  clear hX hQ hs63 b3
  by_cases ce : eN = 0
  · obtain ⟨f, hf⟩ : ∃ f, f = fN := ⟨_, rfl⟩
    obtain ⟨x, hx⟩ : ∃ x : Int, x = -1074 := ⟨_, rfl⟩
    have hse := sgep0 m (by rw [← heN]; exact ce)
    rw [← hfN, ← hf, ← hx] at hse
    have HS : Hid (Fb.sgD m = f ∧ Fb.epD m = x) := hse
    have hbf : f < 18446744073709551616 := by rw [hf]; exact Nat.lt_trans b2 (by decide)
    have hbx : x.natAbs ≤ 4096 := by rw [hx]; decide
    have HF : Hid (f < 18446744073709551616 ∧ blen f ≤ 64 ∧ x.natAbs ≤ 1048576) := small64 f x hbf hbx
    clear hse hbf hbx
    have HXX : Hid (x = -1074) := hx
    subst ce
    rw [← hf] at f3
    clear b1 b2 heN hfN hf hx hm
    go_enter Tryz.func20, Tryz.ntmps20
    have hc := rsmall_ f HF.out.1 w0
    go_wp2_with fail
    rw [← hw0]
    refine hc.mono ?_; rintro e w1 ⟨v1, rfl, hO, hk⟩
    have H1 : Hid (Ls w1 v1 (dig f)) := hO.ls
    have K0 : Hid (Kp w0 w1) := hk
    clear hc hO hk hw0
    obtain ⟨gl, hgl⟩ : ∃ gl, gl = w1.heap.size := ⟨_, rfl⟩
    obtain ⟨wl, hwl⟩ : ∃ wl, wl = w1.alloc (.cells #[.int .u32 1] 78) := ⟨_, rfl⟩
    have O1 := own1 w1
    rw [← hwl, ← hgl] at O1
    have kl : Kp w1 wl := by rw [hwl]; exact (Kp.refl _).alloc _
    replace H1 : Hid (Ls wl v1 (dig f)) := H1.out.kp kl
    replace K0 : Hid (Kp w0 wl) := K0.out.trans kl
    have hc := fracX_ n v1 (.slice (some ⟨gl, 0, none⟩) 1 1) (dig f) [1] x wl H1.out O1.ls (Wd_dig f) (wd1 1 (by decide)) (Nat.le_trans (dlen f 2 HF.out.2.1) (by decide)) (by simp) (by decide) HF.out.2.2
    rw [val_dig, show val [1] = 1 from by decide] at hc
    rw [HXX.out] at hc
    clear O1 kl H1
    go_wp2_with fail
    try rw [hsn]
    rw [← hgl, ← hwl]
    refine hc.mono ?_; rintro e w2 ⟨vn, vd, a, b, ng, rfl, hN, hD, hF, hk⟩
    clear hgl hwl hc
    have hsz := K0.out.size
    replace K0 : Hid (Kp w0 w2) := K0.out.trans hk
    have ON : Hid (Own w2 w0.heap.size vn (dig a)) := hN.mono hsz
    have OD : Hid (Own w2 w0.heap.size vd (dig b)) := hD.mono hsz
    clear hN hD hk hsz
    obtain ⟨pN, cN, hvN, _⟩ := ON.out.len
    obtain ⟨NN, hNN⟩ : ∃ NN, NN = (dig (a)).length := ⟨_, rfl⟩
    rw [← hNN] at hvN
    subst hvN
    clear hNN
    obtain ⟨pD, cD, hvD, _⟩ := OD.out.len
    obtain ⟨ND, hND⟩ : ∃ ND, ND = (dig (b)).length := ⟨_, rfl⟩
    rw [← hND] at hvD
    subst hvD
    clear hND
    have hlt : w.heap.size < w0.heap.size := by rw [Hw0.out]; simp
    have k0 := kkeep K0.out (b := w.heap.size) (o := 0) (v := .bool false) (by rw [Hw0.out]; simp [go_sem])
    have z0 : w2.frozen? ⟨w.heap.size, 0, none⟩ = false := by rw [Below.frozen K0.out hlt, Hw0.out]; simp [go_sem]
    have k1 := kkeep K0.out (b := w.heap.size) (o := 1) (v := .slice none 0 0) (by rw [Hw0.out]; simp [go_sem])
    have z1 : w2.frozen? ⟨w.heap.size, 1, none⟩ = false := by rw [Below.frozen K0.out hlt, Hw0.out]; simp [go_sem]
    have k2 := kkeep K0.out (b := w.heap.size) (o := 2) (v := .slice none 0 0) (by rw [Hw0.out]; simp [go_sem])
    have z2 : w2.frozen? ⟨w.heap.size, 2, none⟩ = false := by rw [Below.frozen K0.out hlt, Hw0.out]; simp [go_sem]
    have hk9 : Kp w w0 := by rw [Hw0.out]; exact (Kp.refl w).alloc _
    have hk0 : Kp w w2 := hk9.trans K0.out
    have HZ : Hid (Own (((w2.setCell ⟨w.heap.size, 0, none⟩ (.bool ng)).setCell ⟨w.heap.size, 1, none⟩ (.slice pN NN cN)).setCell ⟨w.heap.size, 2, none⟩ (.slice pD ND cD)) w.heap.size (.slice pN NN cN) (dig a) ∧ Own (((w2.setCell ⟨w.heap.size, 0, none⟩ (.bool ng)).setCell ⟨w.heap.size, 1, none⟩ (.slice pN NN cN)).setCell ⟨w.heap.size, 2, none⟩ (.slice pD ND cD)) w.heap.size (.slice pD ND cD) (dig b) ∧ Kp w (((w2.setCell ⟨w.heap.size, 0, none⟩ (.bool ng)).setCell ⟨w.heap.size, 1, none⟩ (.slice pN NN cN)).setCell ⟨w.heap.size, 2, none⟩ (.slice pD ND cD))) := ⟨((((ON.out.setOther hlt (.bool ng)).setOther hlt (.slice pN NN cN)).setOther hlt (.slice pD ND cD))).mono (Nat.le_of_lt hlt), ((((OD.out.setOther hlt (.bool ng)).setOther hlt (.slice pN NN cN)).setOther hlt (.slice pD ND cD))).mono (Nat.le_of_lt hlt), (((hk0.setCell (Nat.le_refl _) (.bool ng)).setCell (Nat.le_refl _) (.slice pN NN cN)).setCell (Nat.le_refl _) (.slice pD ND cD))⟩
    have HFF : Hid (FracX (Fb.sgD m) 1 (Fb.epD m) a b ∧ (Fb.sgD m ≠ 0 → ng = n)) := by rw [HS.out.1, HS.out.2, HXX.out]; exact hF
    clear hk0 hlt hk9 hF
    go_wp2
    exact bodyPost_ret (v := .agg #[.bool ng, .slice pN NN cN, .slice pD ND cD]) (by simp [results, Tryz.results20, go_sem] <;> simp [go_sem, *]) rfl ⟨_, _, a, b, ng, rfl, HZ.out.1, HZ.out.2.1, HFF.out, HZ.out.2.2⟩
  · obtain ⟨f, hf⟩ : ∃ f, f = fN + 4503599627370496 := ⟨_, rfl⟩
    obtain ⟨e1, he1⟩ : ∃ e1 : Int, e1 = (eN : Int) - 1 := ⟨_, rfl⟩
    obtain ⟨x, hx⟩ : ∃ x : Int, x = e1 - 1074 := ⟨_, rfl⟩
    have hse := sgep1 m hm (by rw [← heN]; exact ce)
    rw [← hfN, ← hf, ← heN, ← he1, ← hx] at hse
    have HS : Hid (Fb.sgD m = f ∧ Fb.epD m = x) := hse
    obtain ⟨t1, g3, g4', g5', hbf, hbx⟩ := fb_nums eN fN f e1 x b1 b2 ce hf he1 hx
    have b9 : eN ≤ 2047 := Nat.le_of_lt b1
    have HXX : Hid ((eN : Int) - 1 - 1074 = x) := by show _ = _; clear f1 f2 f3 f4; omega
    clear g4' g5' ge ge2
    have HF : Hid (f < 18446744073709551616 ∧ blen f ≤ 64 ∧ x.natAbs ≤ 1048576) := small64 f x hbf hbx
    clear hse hbf hbx
    clear b1 b2 heN hfN hf hx hm ce he1
    go_enter Tryz.func20, Tryz.ntmps20
    have hc := rsmall_ f HF.out.1 w0
    go_wp2_with fail
    rw [← hw0]
    refine hc.mono ?_; rintro e w1 ⟨v1, rfl, hO, hk⟩
    have H1 : Hid (Ls w1 v1 (dig f)) := hO.ls
    have K0 : Hid (Kp w0 w1) := hk
    clear hc hO hk hw0
    obtain ⟨gl, hgl⟩ : ∃ gl, gl = w1.heap.size := ⟨_, rfl⟩
    obtain ⟨wl, hwl⟩ : ∃ wl, wl = w1.alloc (.cells #[.int .u32 1] 78) := ⟨_, rfl⟩
    have O1 := own1 w1
    rw [← hwl, ← hgl] at O1
    have kl : Kp w1 wl := by rw [hwl]; exact (Kp.refl _).alloc _
    replace H1 : Hid (Ls wl v1 (dig f)) := H1.out.kp kl
    replace K0 : Hid (Kp w0 wl) := K0.out.trans kl
    have hc := fracX_ n v1 (.slice (some ⟨gl, 0, none⟩) 1 1) (dig f) [1] x wl H1.out O1.ls (Wd_dig f) (wd1 1 (by decide)) (Nat.le_trans (dlen f 2 HF.out.2.1) (by decide)) (by simp) (by decide) HF.out.2.2
    rw [val_dig, show val [1] = 1 from by decide] at hc
    skip
    clear O1 kl H1
    go_wp2_with fail
    try rw [hsn]
    rw [HXX.out]
    rw [← hgl, ← hwl]
    refine hc.mono ?_; rintro e w2 ⟨vn, vd, a, b, ng, rfl, hN, hD, hF, hk⟩
    clear hgl hwl hc
    have hsz := K0.out.size
    replace K0 : Hid (Kp w0 w2) := K0.out.trans hk
    have ON : Hid (Own w2 w0.heap.size vn (dig a)) := hN.mono hsz
    have OD : Hid (Own w2 w0.heap.size vd (dig b)) := hD.mono hsz
    clear hN hD hk hsz
    obtain ⟨pN, cN, hvN, _⟩ := ON.out.len
    obtain ⟨NN, hNN⟩ : ∃ NN, NN = (dig (a)).length := ⟨_, rfl⟩
    rw [← hNN] at hvN
    subst hvN
    clear hNN
    obtain ⟨pD, cD, hvD, _⟩ := OD.out.len
    obtain ⟨ND, hND⟩ : ∃ ND, ND = (dig (b)).length := ⟨_, rfl⟩
    rw [← hND] at hvD
    subst hvD
    clear hND
    have hlt : w.heap.size < w0.heap.size := by rw [Hw0.out]; simp
    have k0 := kkeep K0.out (b := w.heap.size) (o := 0) (v := .bool false) (by rw [Hw0.out]; simp [go_sem])
    have z0 : w2.frozen? ⟨w.heap.size, 0, none⟩ = false := by rw [Below.frozen K0.out hlt, Hw0.out]; simp [go_sem]
    have k1 := kkeep K0.out (b := w.heap.size) (o := 1) (v := .slice none 0 0) (by rw [Hw0.out]; simp [go_sem])
    have z1 : w2.frozen? ⟨w.heap.size, 1, none⟩ = false := by rw [Below.frozen K0.out hlt, Hw0.out]; simp [go_sem]
    have k2 := kkeep K0.out (b := w.heap.size) (o := 2) (v := .slice none 0 0) (by rw [Hw0.out]; simp [go_sem])
    have z2 : w2.frozen? ⟨w.heap.size, 2, none⟩ = false := by rw [Below.frozen K0.out hlt, Hw0.out]; simp [go_sem]
    have hk9 : Kp w w0 := by rw [Hw0.out]; exact (Kp.refl w).alloc _
    have hk0 : Kp w w2 := hk9.trans K0.out
    have HZ : Hid (Own (((w2.setCell ⟨w.heap.size, 0, none⟩ (.bool ng)).setCell ⟨w.heap.size, 1, none⟩ (.slice pN NN cN)).setCell ⟨w.heap.size, 2, none⟩ (.slice pD ND cD)) w.heap.size (.slice pN NN cN) (dig a) ∧ Own (((w2.setCell ⟨w.heap.size, 0, none⟩ (.bool ng)).setCell ⟨w.heap.size, 1, none⟩ (.slice pN NN cN)).setCell ⟨w.heap.size, 2, none⟩ (.slice pD ND cD)) w.heap.size (.slice pD ND cD) (dig b) ∧ Kp w (((w2.setCell ⟨w.heap.size, 0, none⟩ (.bool ng)).setCell ⟨w.heap.size, 1, none⟩ (.slice pN NN cN)).setCell ⟨w.heap.size, 2, none⟩ (.slice pD ND cD))) := ⟨((((ON.out.setOther hlt (.bool ng)).setOther hlt (.slice pN NN cN)).setOther hlt (.slice pD ND cD))).mono (Nat.le_of_lt hlt), ((((OD.out.setOther hlt (.bool ng)).setOther hlt (.slice pN NN cN)).setOther hlt (.slice pD ND cD))).mono (Nat.le_of_lt hlt), (((hk0.setCell (Nat.le_refl _) (.bool ng)).setCell (Nat.le_refl _) (.slice pN NN cN)).setCell (Nat.le_refl _) (.slice pD ND cD))⟩
    have HFF : Hid (FracX (Fb.sgD m) 1 (Fb.epD m) a b ∧ (Fb.sgD m ≠ 0 → ng = n)) := by rw [HS.out.1, HS.out.2]; exact hF
    clear hk0 hlt hk9 hF
    go_wp2
    exact bodyPost_ret (v := .agg #[.bool ng, .slice pN NN cN, .slice pD ND cD]) (by simp [results, Tryz.results20, go_sem] <;> simp [go_sem, *]) rfl ⟨_, _, a, b, ng, rfl, HZ.out.1, HZ.out.2.1, HFF.out, HZ.out.2.2⟩

theorem odd_one (o t k : Nat) (ho : o % 2 = 1) (h : 2 ^ t = o * 2 ^ k) : o = 1 ∧ k = t := by
  rcases Nat.lt_or_ge t k with c | c
  · have e : 2 ^ k = 2 ^ t * 2 ^ (k - t) := by rw [← Nat.pow_add]; congr 1; omega
    rw [e, ← Nat.mul_assoc, Nat.mul_comm o, Nat.mul_assoc] at h
    have hp := Nat.two_pow_pos t
    have h2 : o * 2 ^ (k - t) = 1 := by
      have : 2 ^ t * (o * 2 ^ (k - t)) = 2 ^ t * 1 := by rw [← h, Nat.mul_one]
      exact Nat.eq_of_mul_eq_mul_left hp this
    have h3 := Nat.eq_one_of_mul_eq_one_left h2
    have : 2 ^ 1 ≤ 2 ^ (k - t) := Nat.pow_le_pow_right (by decide) (by omega)
    omega
  · have e : 2 ^ t = 2 ^ (t - k) * 2 ^ k := by rw [← Nat.pow_add]; congr 1; omega
    rw [e] at h
    have h2 := Nat.eq_of_mul_eq_mul_right (Nat.two_pow_pos k) h
    cases hd : t - k with
    | zero => rw [hd] at h2; simp at h2; omega
    | succ u => rw [hd, Nat.pow_succ] at h2; omega
def Dv (a j E U : Nat) : Prop := j ≤ E ∧ (a % 2 = 1 ∨ j = 0) ∧ a * 2 ^ (E - j) = U
def Dy (base : Nat) (w : World) (s1 : Bool) (p1 : Option Addr) (l1 c1 : Nat) (q1 : Option Addr) (k1 d1 : Nat) (V : Int) (E : Nat) : Prop := ∃ a j, Own w base (.slice p1 l1 c1) (dig a) ∧ Own w base (.slice q1 k1 d1) (dig (2 ^ j)) ∧ Dv a j E V.natAbs ∧ (V ≠ 0 → s1 = decide (V < 0))
theorem Dy.kp {base : Nat} {w w' : World} {s1 : Bool} {p1 : Option Addr} {l1 c1 : Nat} {q1 : Option Addr} {k1 d1 : Nat} {V : Int} {E : Nat} (h : Dy base w s1 p1 l1 c1 q1 k1 d1 V E) (g : Kp w w') : Dy base w' s1 p1 l1 c1 q1 k1 d1 V E := by
  obtain ⟨a, j, h1, h2, h3⟩ := h
  exact ⟨a, j, h1.kp g, h2.kp g, h3⟩
theorem Dy.mono {base b2 : Nat} {w : World} {s1 : Bool} {p1 : Option Addr} {l1 c1 : Nat} {q1 : Option Addr} {k1 d1 : Nat} {V : Int} {E : Nat} (h : Dy base w s1 p1 l1 c1 q1 k1 d1 V E) (g : b2 ≤ base) : Dy b2 w s1 p1 l1 c1 q1 k1 d1 V E := by
  obtain ⟨a, j, h1, h2, h3⟩ := h
  exact ⟨a, j, h1.mono g, h2.mono g, h3⟩
theorem Dv.lt {a j E U : Nat} (h : Dv a j E U) (B : Nat) (hU : U < 2 ^ B) : a < 2 ^ B := by
  obtain ⟨h1, h2, h3⟩ := h
  have := Nat.two_pow_pos (E - j)
  have : a * 1 ≤ a * 2 ^ (E - j) := Nat.mul_le_mul_left a this
  omega
theorem dyfrom_ (n : Bool) (m K : Nat) (hK : K = 1074) (hm : m < 9218868437227405312) (w : World) : Calls Tryz.prog 20 #[.int .u64 ((Fq.wD n m : Nat) : Int)] w fun e w' => ∃ (s3 : Bool) (p3 : Option Addr) (l3 c3 : Nat) (q3 : Option Addr) (k3 d3 : Nat), e = .returned (.agg #[.bool s3, .slice p3 l3 c3, .slice q3 k3 d3]) ∧ Dy w.heap.size w' s3 p3 l3 c3 q3 k3 d3 (Iv n m) (K) ∧ Kp w w' := by
  have h := fromBitsX_ n m hm w
  refine Calls.mono (show Calls Tryz.prog 20 #[.int .u64 ((Fq.wD n m : Nat) : Int)] w _ from h) ?_
  rintro e w' ⟨vn, vd, a, b, ng, rfl, u1, u2, ⟨u3, u4⟩, g⟩
  obtain ⟨v1, v2, v3, v4, v5⟩ := Fq.vlsgD m hm
  have v1 : Fq.sgD m * 2 ^ (Fq.epD m + 1074).toNat = Fq.vV Ieee.double m := v1
  have u3 : FracX (Fq.sgD m) 1 (Fq.epD m) a b := u3
  have u4 : Fq.sgD m ≠ 0 → ng = n := u4
  obtain ⟨p3, c3, rfl, -, -⟩ := u1.arr
  obtain ⟨q3, d3, rfl, -, -⟩ := u2.arr
  have ab : (Iv n m).natAbs = Fq.vV Ieee.double m := by unfold Iv; cases n <;> simp
  by_cases z : Fq.sgD m = 0
  · obtain ⟨z1, z2⟩ := u3.2.1 z
    have z3 : Fq.vV Ieee.double m = 0 := by rw [← v1, z, Nat.zero_mul]
    have z4 : Iv n m = 0 := by omega
    subst z2
    refine ⟨ng, p3, _, c3, q3, _, d3, rfl, ⟨a, 0, u1, u2, ⟨Nat.zero_le _, Or.inr rfl, ?_⟩, fun h => absurd z4 h⟩, g⟩
    rw [z1, Nat.zero_mul, ab, z3]
  · obtain ⟨oa, ob, ka, kb, x, y, g1, g2, g3, g4, g5, g6, g7, g8⟩ := u3.2.2 z
    obtain ⟨r1, r2⟩ := odd_one ob 0 kb g2 g4
    subst r1 r2
    rw [Nat.one_mul] at g6
    subst g6
    have hs : Iv n m ≠ 0 → ng = decide (Iv n m < 0) := fun h => by
      rw [u4 z]
      unfold Iv at h ⊢
      cases n
      · simp
      · simp at h ⊢; omega
    rw [g3] at v1
    refine ⟨ng, p3, _, c3, q3, _, d3, rfl, ⟨a, y, u1, u2, ?_, hs⟩, g⟩
    rw [ab, ← v1, g5]
    rcases g7 with q | q
    · subst q
      refine ⟨by omega, Or.inl (by rw [Nat.pow_zero, Nat.mul_one]; exact g1), ?_⟩
      rw [Nat.pow_zero, Nat.mul_one, Nat.mul_assoc, ← Nat.pow_add]; congr 2; omega
    · subst q
      refine ⟨Nat.zero_le _, Or.inr rfl, ?_⟩
      rw [Nat.mul_assoc, Nat.mul_assoc, ← Nat.pow_add, ← Nat.pow_add]; congr 2; omega
end Go.Proofs.YtnjlcfpkhgmjeaaGreatDoor
