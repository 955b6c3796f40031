import Derived.Test.YtnjlcfpkhgmjeaaGreatDoorKXO
namespace Go.Proofs.YtnjlcfpkhgmjeaaGreatDoor
open Go.RowKit
theorem vV_lt (m : Nat) (hm : m ≤ 9110782046170513408) (K : Nat) (hK : K = 2075) : Fq.vV Ieee.double m < 2 ^ K := by
  unfold Fq.vV Fq.mM Fq.eE
  rw [Fq.binD]
  by_cases c : m < 4503599627370496
  · rw [if_pos c, if_pos c, Nat.pow_zero, Nat.mul_one]
    have h1 : 2 ^ 53 ≤ 2 ^ K := Nat.pow_le_pow_right (by omega) (by omega)
    rw [show (2 : Nat) ^ 53 = 9007199254740992 from by decide] at h1
    omega
  · rw [if_neg c, if_neg c]
    obtain ⟨e, he⟩ : ∃ e, e = m / 4503599627370496 - 1 := ⟨_, rfl⟩
    have he2 : e ≤ 2022 := by omega
    rw [← he]
    have h1 : 2 ^ 53 * 2 ^ e ≤ 2 ^ K := by rw [← Nat.pow_add]; exact Nat.pow_le_pow_right (by omega) (by omega)
    have h2 : (4503599627370496 + m % 4503599627370496) * 2 ^ e < 2 ^ 53 * 2 ^ e := Nat.mul_lt_mul_of_pos_right (by rw [show (2 : Nat) ^ 53 = 9007199254740992 from by decide]; omega) (Nat.two_pow_pos _)
    exact Nat.lt_of_lt_of_le h2 h1
theorem iv_abs (n : Bool) (m : Nat) : (Iv n m).natAbs = Fq.vV Ieee.double m := by
  unfold Iv; cases n <;> simp
theorem of_sum (d : Int) (ng : Bool) (c : Nat) (low V : Int) (h1 : -1074 ≤ low) (h2 : low ≤ 2048) (hb : blen c ≤ 524288) (hV : V = if ng then -((c * 2 ^ (low + 1074).toNat : Nat) : Int) else ((c * 2 ^ (low + 1074).toNat : Nat) : Int)) : ofW d ng c low = sumW d V := by
  have hconf : conf low = low := by unfold conf; omega
  have hpm : ∀ g R, pW 9223372036854775808 g R = mdW g R := fun g R => rfl
  unfold ofW
  rw [if_neg (by omega), hconf, hpm]
  have hrv : ∀ dd, rV dd 53 c 1 (low + 1074) = rU dd 53 (c * 2 ^ (low + 1074).toNat) 1 := fun dd => by
    unfold rV; rw [show (-(low + 1074)).toNat = 0 from by omega, Nat.pow_zero, Nat.mul_one]
  rw [hrv]
  obtain ⟨C, hC⟩ : ∃ C, C = c * 2 ^ (low + 1074).toNat := ⟨_, rfl⟩
  rw [← hC] at hV ⊢
  unfold sumW
  by_cases c0 : C = 0
  · have hV0 : V = 0 := by rw [hV, c0]; cases ng <;> simp
    rw [if_pos hV0, c0]
    have h0 : rU (dirN ng d) 53 0 1 = 0 := by
      unfold rU rS rR
      rw [Nat.zero_div, Nat.zero_mod, upw_none _ _ _ (by rw [Nat.one_mul]; exact Nat.two_pow_pos _)]
      simp
    rw [h0]
    unfold finU
    rw [blen_zero, if_pos (by omega), rgU_zero]
    rfl
  · have hVn : V ≠ 0 := by rw [hV]; cases ng <;> simp <;> omega
    have hneg : decide (V < 0) = ng := by rw [hV]; cases ng <;> simp <;> omega
    have hab : V.natAbs = C := by rw [hV]; cases ng <;> simp
    rw [if_neg hVn, hneg, hab]
theorem sum_signs (s t : Bool) (a b : Nat) (ea eb low : Int) (ea1 : -1074 ≤ ea) (eb1 : -1074 ≤ eb) (hlow : low = min ea eb) (n n' : Bool) (m m' : Nat) (hs : s = (n && !(m == 0))) (ht : t = (n' && !(m' == 0))) (ha : a * 2 ^ (ea + 1074).toNat = Fq.vV Ieee.double m) (hb : b * 2 ^ (eb + 1074).toNat = Fq.vV Ieee.double m') (A B : Nat) (hA : A = a * 2 ^ (ea - low).toNat) (hB : B = b * 2 ^ (eb - low).toNat) :
    (s = t → Iv n m + Iv n' m' = if s then -(((A + B) * 2 ^ (low + 1074).toNat : Nat) : Int) else (((A + B) * 2 ^ (low + 1074).toNat : Nat) : Int)) ∧ (s ≠ t → B ≤ A → Iv n m + Iv n' m' = if s then -(((A - B) * 2 ^ (low + 1074).toNat : Nat) : Int) else (((A - B) * 2 ^ (low + 1074).toNat : Nat) : Int)) ∧ (s ≠ t → A < B → Iv n m + Iv n' m' = if t then -(((B - A) * 2 ^ (low + 1074).toNat : Nat) : Int) else (((B - A) * 2 ^ (low + 1074).toNat : Nat) : Int)) := by
  obtain ⟨P, hP⟩ : ∃ P, P = 2 ^ (low + 1074).toNat := ⟨_, rfl⟩
  have e1 : A * P = Fq.vV Ieee.double m := by
    rw [hA, hP, ← ha, Nat.mul_assoc, ← Nat.pow_add]; congr 2; omega
  have e2 : B * P = Fq.vV Ieee.double m' := by
    rw [hB, hP, ← hb, Nat.mul_assoc, ← Nat.pow_add]; congr 2; omega
  have i1 : Iv n m = if s then -((A * P : Nat) : Int) else ((A * P : Nat) : Int) := by
    rw [e1, hs]; unfold Iv
    by_cases c : m = 0
    · rw [c, (vV_pos 0).2 rfl]; cases n <;> simp
    · have : (m == 0) = false := by simp [c]
      rw [this]; cases n <;> simp
  have i2 : Iv n' m' = if t then -((B * P : Nat) : Int) else ((B * P : Nat) : Int) := by
    rw [e2, ht]; unfold Iv
    by_cases c : m' = 0
    · rw [c, (vV_pos 0).2 rfl]; cases n' <;> simp
    · have : (m' == 0) = false := by simp [c]
      rw [this]; cases n' <;> simp
  rw [← hP, i1, i2, Nat.add_mul, Nat.sub_mul, Nat.sub_mul]
  obtain ⟨X, hX⟩ : ∃ X, X = A * P := ⟨_, rfl⟩
  obtain ⟨Y, hY⟩ : ∃ Y, Y = B * P := ⟨_, rfl⟩
  have hle : B ≤ A → Y ≤ X := fun h => by rw [hX, hY]; exact Nat.mul_le_mul_right _ h
  have hlt : A < B → X ≤ Y := fun h => by rw [hX, hY]; exact Nat.mul_le_mul_right _ (Nat.le_of_lt h)
  rw [← hX, ← hY]
  clear hX hY e1 e2 i1 i2
  refine ⟨fun h => ?_, fun h hh => ?_, fun h hh => ?_⟩
  · subst h; cases s <;> simp <;> omega
  · have := hle hh
    cases s <;> cases t <;> simp at h ⊢ <;> omega
  · have := hlt hh
    cases s <;> cases t <;> simp at h ⊢ <;> omega
theorem two_between {E e a b : Nat} (h1 : 2 ^ a * 2 ^ e < 2 ^ E) (h2 : 2 ^ E < 2 ^ b * 2 ^ e) : a + e < E ∧ E < b + e := by
  rw [← Nat.pow_add] at h1 h2
  exact ⟨(Nat.pow_lt_pow_iff_right (by decide)).1 h1, (Nat.pow_lt_pow_iff_right (by decide)).1 h2⟩
theorem p26 : (2 : Nat) ^ 26 = 67108864 := by decide
theorem p27 : (2 : Nat) ^ 27 = 134217728 := by decide
theorem p28 : (2 : Nat) ^ 28 = 268435456 := by decide
theorem p29 : (2 : Nat) ^ 29 = 536870912 := by decide
theorem unit_two {T U : Nat} (hT : ∃ E, T = 2 ^ E) (hU : ∃ e, U = 2 ^ e) (h1 : 67108864 * U < T) (h2 : T < 536870912 * U) : T = 134217728 * U ∨ T = 268435456 * U := by
  obtain ⟨E, rfl⟩ := hT
  obtain ⟨e, rfl⟩ := hU
  rw [← p26] at h1
  rw [← p29] at h2
  obtain ⟨a, b⟩ := two_between h1 h2
  have : E = 27 + e ∨ E = 28 + e := by omega
  rcases this with h | h
  · left; rw [h, Nat.pow_add, p27]
  · right; rw [h, Nat.pow_add, p28]
theorem fl_of {v : Int} {U : Nat} (hU : ∃ e, U = 2 ^ e) (h1 : (U : Int) ∣ v) (h2 : v.natAbs ≤ 9007199254740992 * U) : FL v := by
  obtain ⟨e, rfl⟩ := hU
  exact ⟨e, by rw [← castpow]; exact h1, h2⟩
theorem two_times {U : Nat} (hU : ∃ e, U = 2 ^ e) (k : Nat) : ∃ e, 2 ^ k * U = 2 ^ e := by
  obtain ⟨e, rfl⟩ := hU
  exact ⟨k + e, (Nat.pow_add 2 k e).symm⟩
theorem veltkamp_pos {x c g h l : Int} {T0 T1 T2 T3 U : Nat} (hU : ∃ e, U = 2 ^ e) (hx : (U : Int) ∣ x) (h1 : 4503599627370496 * (U : Int) ≤ x) (h2 : x < 9007199254740992 * (U : Int))
    (k0 : Nr (134217729 * x) c T0) (k1 : Nr (c - x) g T1) (k2 : Nr (c - g) h T2) (k3 : Nr (x - h) l T3) :
    ((134217728 * U : Nat) : Int) ∣ h ∧ l = x - h ∧ (U : Int) ∣ l ∧ l.natAbs ≤ 67108864 * U := by
  have hUp : 0 < U := by obtain ⟨e, rfl⟩ := hU; exact Nat.two_pow_pos e
  have hx2 : x ≤ 9007199254740992 * (U : Int) - U := by
    have hd : (U : Int) ∣ (9007199254740992 * (U : Int) - x) := Int.dvd_sub (Int.dvd_mul_left _ _) hx
    by_cases c : x ≤ 9007199254740992 * (U : Int) - U
    · exact c
    · have := dvd_small (by omega) hd (by omega)
      omega
  -- the unit of c
  have hT0 : T0 = 134217728 * U ∨ T0 = 268435456 * U := by
    have a1 := k0.lt
    have a2 := k0.low
    refine unit_two k0.two hU (by omega) ?_
    rcases a2 with a2 | a2 <;> omega
  have hKc : ((134217728 * U : Nat) : Int) ∣ c := by
    have := k0.dvd
    rcases hT0 with e | e
    · rw [← e]; exact this
    · refine Int.dvd_trans ?_ this
      rw [e]; exact ⟨2, by omega⟩
  have hv1 : 604462909807314587353088 * (U : Int) ≤ c - x ∧ c - x ≤ 1208925819614629174706176 * (U : Int) := by
    have a1 := k0.near
    have a2 := k0.low
    by_cases cx : x = 4503599627370496 * (U : Int)
    · have hf : FL (134217729 * x) := by
        refine fl_of (two_times hU 52) ?_ ?_
        · rw [cx, show (2 : Nat) ^ 52 = 4503599627370496 from by decide]; exact ⟨134217729, by omega⟩
        · rw [cx, show (2 : Nat) ^ 52 = 4503599627370496 from by decide]; omega
      have := k0.fix hf
      omega
    · have hx3 : 4503599627370496 * (U : Int) + U ≤ x := by
        have hd : (U : Int) ∣ (x - 4503599627370496 * (U : Int)) := Int.dvd_sub hx (Int.dvd_mul_left _ _)
        by_cases c : 4503599627370496 * (U : Int) + U ≤ x
        · exact c
        · have := dvd_small (by omega) hd (by omega)
          omega
      rcases hT0 with e | e <;> rw [e] at a1 a2 <;> omega
  have hg : ((134217728 * U : Nat) : Int) ∣ g ∧ (c - x - g).natAbs ≤ 67108864 * U := by
    by_cases cv : c - x = 1208925819614629174706176 * (U : Int)
    · have hf : FL (c - x) := by
        refine fl_of (two_times hU 52) ?_ ?_
        · rw [cv, show (2 : Nat) ^ 52 = 4503599627370496 from by decide]; exact ⟨268435456, by omega⟩
        · rw [cv, show (2 : Nat) ^ 52 = 4503599627370496 from by decide]; omega
      have := k1.fix hf
      rw [this]
      exact ⟨by rw [cv]; exact ⟨9007199254740992, by omega⟩, by omega⟩
    · have a1 := k1.lt
      have a2 := k1.low
      have a3 := k1.near
      have hT1 : T1 = 134217728 * U ∨ T1 = 268435456 * U := by
        refine unit_two k1.two hU (by omega) ?_
        rcases a2 with a2 | a2 <;> omega
      have hT : T1 = 134217728 * U := by
        rcases hT1 with e | e
        · exact e
        · exfalso; rcases a2 with a2 | a2 <;> omega
      exact ⟨by rw [← hT]; exact k1.dvd, by omega⟩
  have hKv : ((134217728 * U : Nat) : Int) ∣ (c - g) := Int.dvd_sub hKc hg.1
  have hg2 := hg.2
  have hh : h = c - g := k2.fix (fl_of (U := 134217728 * U) (by rw [← p27]; exact two_times hU 27) hKv (by omega))
  have hUK : (U : Int) ∣ ((134217728 * U : Nat) : Int) := ⟨134217728, by omega⟩
  have hUl : (U : Int) ∣ (x - h) := Int.dvd_sub hx (Int.dvd_trans hUK (by rw [hh]; exact hKv))
  have hl : l = x - h := k3.fix (fl_of hU hUl (by omega))
  exact ⟨by rw [hh]; exact hKv, hl, by rw [hl]; exact hUl, by omega⟩
theorem unit_52 {T W : Nat} (hT : ∃ E, T = 2 ^ E) (hW : ∃ e, W = 2 ^ e) (h1 : 2251799813685248 * W < T) (h2 : T < 18014398509481984 * W) : T = 4503599627370496 * W ∨ T = 9007199254740992 * W := by
  obtain ⟨E, rfl⟩ := hT
  obtain ⟨e, rfl⟩ := hW
  rw [show (2251799813685248 : Nat) = 2 ^ 51 from by decide] at h1
  rw [show (18014398509481984 : Nat) = 2 ^ 54 from by decide] at h2
  obtain ⟨a, b⟩ := two_between h1 h2
  have : E = 52 + e ∨ E = 53 + e := by omega
  rcases this with h | h
  · left; rw [h, Nat.pow_add]
  · right; rw [h, Nat.pow_add]
theorem dekker {P wp wq wr wt s r1 r2 r3 o : Int} {T0 T1 T2 T3 T4 W : Nat} (hW : ∃ e, W = 2 ^ e) (dp : (W : Int) ∣ wp) (dq : (W : Int) ∣ wq) (dr : (W : Int) ∣ wr) (dt : (W : Int) ∣ wt)
    (bp : wp.natAbs ≤ 4503599627370496 * W) (bq : wq.natAbs ≤ 4503599627370496 * W) (br : wr.natAbs ≤ 4503599627370496 * W) (bt : wt.natAbs ≤ 4503599627370496 * W)
    (hP : P = 18014398509481984 * wp + 134217728 * (wq + wr) + wt) (h1 : 20282409603651670423947251286016 * W ≤ P.natAbs) (h2 : P.natAbs < 81129638414606681695789005144064 * W)
    (k0 : Nr P s T0) (k1 : Nr (s - 18014398509481984 * wp) r1 T1) (k2 : Nr (r1 - 134217728 * wq) r2 T2) (k3 : Nr (r2 - 134217728 * wr) r3 T3) (k4 : Nr (wt - r3) o T4) : o = P - s := by
  have hWp : 0 < W := by obtain ⟨e, rfl⟩ := hW; exact Nat.two_pow_pos e
  have hT0 : T0 = 4503599627370496 * W ∨ T0 = 9007199254740992 * W := by
    have a1 := k0.lt
    have a2 := k0.low
    refine unit_52 k0.two hW (by omega) ?_
    rcases a2 with a2 | a2 <;> omega
  have hds : ((4503599627370496 * W : Nat) : Int) ∣ s := by
    have := k0.dvd
    rcases hT0 with e | e
    · rw [← e]; exact this
    · refine Int.dvd_trans ?_ this
      rw [e]; exact ⟨2, by omega⟩
  have hn : (P - s).natAbs ≤ 4503599627370496 * W := by
    have := k0.near
    rcases hT0 with e | e <;> omega
  have hp52 : (4503599627370496 : Nat) = 2 ^ 52 := by decide
  have hp27 : (134217728 : Nat) = 2 ^ 27 := by decide
  have mul52 : ((4503599627370496 * W : Nat) : Int) ∣ 18014398509481984 * wp := by
    obtain ⟨z, rfl⟩ := dp
    exact ⟨4 * z, by rw [Int.natCast_mul]; simp only [Int.mul_assoc, Int.mul_left_comm (W : Int)]; omega⟩
  have w27 : ∀ v : Int, (W : Int) ∣ v → ((134217728 * W : Nat) : Int) ∣ 134217728 * v := fun v hv => by
    rw [Int.natCast_mul]; exact Int.mul_dvd_mul (Int.dvd_refl _) hv
  have d27 : ((134217728 * W : Nat) : Int) ∣ ((4503599627370496 * W : Nat) : Int) := ⟨33554432, by omega⟩
  have d0 : (W : Int) ∣ ((134217728 * W : Nat) : Int) := ⟨134217728, by omega⟩
  have e1 : r1 = s - 18014398509481984 * wp := k1.fix (fl_of (U := 4503599627370496 * W) (by rw [hp52]; exact two_times hW 52) (Int.dvd_sub hds mul52) (by omega))
  have e2 : r2 = r1 - 134217728 * wq := k2.fix (fl_of (U := 134217728 * W) (by rw [hp27]; exact two_times hW 27) (Int.dvd_sub (by rw [e1]; exact Int.dvd_trans d27 (Int.dvd_sub hds mul52)) (w27 _ dq)) (by omega))
  have g2 : ((134217728 * W : Nat) : Int) ∣ r2 := by
    rw [e2, e1]; exact Int.dvd_sub (Int.dvd_trans d27 (Int.dvd_sub hds mul52)) (w27 _ dq)
  have e3 : r3 = r2 - 134217728 * wr := k3.fix (fl_of (U := 134217728 * W) (by rw [hp27]; exact two_times hW 27) (Int.dvd_sub g2 (w27 _ dr)) (by omega))
  have g3 : (W : Int) ∣ r3 := by
    rw [e3]; exact Int.dvd_trans d0 (Int.dvd_sub g2 (w27 _ dr))
  have e4 : o = wt - r3 := k4.fix (fl_of hW (Int.dvd_sub dt g3) (by omega))
  omega
theorem veltkamp {x c g h l : Int} {T0 T1 T2 T3 U : Nat} (hU : ∃ e, U = 2 ^ e) (hx : (U : Int) ∣ x) (h1 : 4503599627370496 * U ≤ x.natAbs) (h2 : x.natAbs < 9007199254740992 * U)
    (k0 : Nr (134217729 * x) c T0) (k1 : Nr (c - x) g T1) (k2 : Nr (c - g) h T2) (k3 : Nr (x - h) l T3) :
    ((134217728 * U : Nat) : Int) ∣ h ∧ l = x - h ∧ (U : Int) ∣ l ∧ l.natAbs ≤ 67108864 * U := by
  rcases Int.lt_or_le x 0 with c0 | c0
  · have n0 := k0.neg
    have n1 := k1.neg
    have n2 := k2.neg
    have n3 := k3.neg
    rw [show -(134217729 * x) = 134217729 * (-x) from by omega] at n0
    rw [show -(c - x) = -c - -x from by omega] at n1
    rw [show -(c - g) = -c - -g from by omega] at n2
    rw [show -(x - h) = -x - -h from by omega] at n3
    obtain ⟨a, b, e, f⟩ := veltkamp_pos hU (Int.dvd_neg.2 hx) (by omega) (by omega) n0 n1 n2 n3
    exact ⟨Int.dvd_neg.1 a, by omega, Int.dvd_neg.1 e, by omega⟩
  · exact veltkamp_pos hU hx (by omega) (by omega) k0 k1 k2 k3
end Go.Proofs.YtnjlcfpkhgmjeaaGreatDoor
