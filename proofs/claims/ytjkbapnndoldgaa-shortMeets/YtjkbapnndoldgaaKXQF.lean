import Derived.Test.YtjkbapnndoldgaaKQA
import Derived.Test.YtjkbapnndoldgaaKXY
import Derived.Lib.BitFns
namespace Go.Proofs.Ytjkbapnndoldgaa
open Go.RowKit
namespace Fq
open Ieee
theorem vV_of (f : Format) (q k : Nat) (h1 : f.binade ≤ k) (h2 : k < 2 * f.binade) : vV f (q * f.binade + k) = k * 2 ^ q := by
  have hB := binade_pos f
  unfold vV mM eE
  have e1 : ¬ (q * f.binade + k < f.binade) := by have := Nat.zero_le (q * f.binade); omega
  have e2 : (q * f.binade + k) / f.binade = q + 1 := by
    rw [show q * f.binade + k = (k - f.binade) + (q + 1) * f.binade from by rw [Nat.add_mul]; omega, Nat.add_mul_div_right _ _ hB, Nat.div_eq_of_lt (by omega)]; omega
  have e3 : (q * f.binade + k) % f.binade = k - f.binade := by
    rw [show q * f.binade + k = (k - f.binade) + (q + 1) * f.binade from by rw [Nat.add_mul]; omega, Nat.add_mul_mod_self_right, Nat.mod_eq_of_lt (by omega)]
  rw [if_neg e1, if_neg e1, e2, e3, show f.binade + (k - f.binade) = k from by omega, Nat.add_sub_cancel]

def vlD (m : Nat) : Nat := vV double m
end Fq
namespace Fq
open Ieee
theorem vlsgD (m : Nat) (hm : m < 9218868437227405312) : sgD m * 2 ^ (epD m + 1074).toNat = vlD m ∧ sgD m < 9007199254740992 ∧ (m = 0 ↔ sgD m = 0) ∧ -1074 ≤ epD m ∧ epD m ≤ 971 := by
  have hb := binD
  by_cases c : m < 4503599627370496
  · have e1 : sgD m = m := by unfold sgD sgG; rw [if_pos c]
    have e2 : epD m = -1074 := by unfold epD epG; rw [if_pos c]
    rw [e1, e2, show (-1074 + 1074 : Int).toNat = 0 from rfl, Nat.pow_zero, Nat.mul_one]
    refine ⟨?_, by omega, Iff.rfl, by omega, by omega⟩
    show m = vV double m
    unfold vV mM eE
    rw [hb, if_pos c, if_pos c, Nat.pow_zero, Nat.mul_one]
  · have e1 : sgD m = 4503599627370496 + m % 4503599627370496 := by unfold sgD sgG; rw [if_neg c, if_pos hm]
    have e2 : epD m = -1074 + m / 4503599627370496 - 1 := by unfold epD epG; (repeat' split) <;> omega
    rw [e1, e2]
    have hd := Nat.div_add_mod m 4503599627370496
    have hq : 1 ≤ m / 4503599627370496 := by omega
    have hr := Nat.mod_lt m (by decide : 0 < 4503599627370496)
    have hq2 : m / 4503599627370496 ≤ 2046 := by omega
    refine ⟨?_, by omega, by omega, by omega, by omega⟩
    rw [show (-1074 + (m : Int) / 4503599627370496 - 1 + 1074).toNat = m / 4503599627370496 - 1 from by omega]
    have hv := vV_of double (m / 4503599627370496 - 1) (4503599627370496 + m % 4503599627370496) (by rw [hb]; omega) (by rw [hb]; omega)
    rw [← hv]
    show vV double _ = vV double m
    congr 1
    rw [hb]
    have : (m / 4503599627370496 - 1) * 4503599627370496 + 4503599627370496 = m / 4503599627370496 * 4503599627370496 := by rw [Nat.sub_mul, Nat.one_mul, Nat.sub_add_cancel (by omega)]
    omega
end Fq
def pW (s : Nat) (neg : Bool) (m : Nat) : Nat := if m = 0 then 0 else if neg then s + m else m
def FL (v : Int) : Prop := ∃ k : Nat, (2 ^ k : Int) ∣ v ∧ v.natAbs ≤ 9007199254740992 * 2 ^ k
structure Nr (v s : Int) (T : Nat) : Prop where
  pos : 0 < T
  dvd : (T : Int) ∣ s
  near : 2 * (v - s).natAbs ≤ T
  lt : v.natAbs < 9007199254740992 * T
  low : T = 1 ∨ 4503599627370496 * T ≤ v.natAbs
  two : ∃ E : Nat, T = 2 ^ E
theorem dvd_small {T x : Int} (_hT : 0 < T) (h : T ∣ x) (hx : x.natAbs < T.natAbs) : x = 0 := by
  obtain ⟨q, rfl⟩ := h
  by_cases c : q = 0
  · rw [c, Int.mul_zero]
  · exfalso
    rw [Int.natAbs_mul] at hx
    have : 1 ≤ q.natAbs := by omega
    have := Nat.mul_le_mul_left T.natAbs this
    omega
theorem pow_dvd_int {j k : Nat} (h : j ≤ k) : (2 ^ j : Int) ∣ 2 ^ k := ⟨2 ^ (k - j), by rw [← Int.pow_add]; congr 1; omega⟩
theorem castpow (k : Nat) : ((2 ^ k : Nat) : Int) = (2 : Int) ^ k := by rw [Int.natCast_pow]; rfl
theorem Nr.nearest {v s : Int} {T : Nat} (h : Nr v s T) {B : Int} (hB : FL B) : (v - s).natAbs ≤ (v - B).natAbs := by
  obtain ⟨k, hk, hb⟩ := hB
  obtain ⟨E, hE⟩ := h.two
  -- a multiple of the unit is no nearer
  have hmul : ∀ C : Int, (T : Int) ∣ C → (v - s).natAbs ≤ (v - C).natAbs := fun C hC => by
    by_cases c : s = C
    · rw [c]; exact Nat.le_refl _
    · have hd : (T : Int) ∣ (C - s) := Int.dvd_sub hC h.dvd
      have h1 : ¬ (C - s).natAbs < (T : Int).natAbs := fun hx => by
        have := dvd_small (by have := h.pos; omega) hd hx
        omega
      have h2 : (T : Int).natAbs = T := by simp
      rw [h2] at h1
      have := h.near
      omega
  by_cases c : E ≤ k
  · exact hmul B (by rw [hE, castpow]; exact Int.dvd_trans (pow_dvd_int c) hk)
  · have hp : 2 ^ k * 2 ≤ T := by
      rw [hE, ← Nat.pow_succ]
      exact Nat.pow_le_pow_right (by omega) (by omega)
    have hT1 : ¬ T = 1 := by have := Nat.two_pow_pos k; omega
    have hlow := h.low.resolve_left hT1
    rcases Int.lt_or_le v 0 with hv | hv
    · have := hmul (-(4503599627370496 * (T : Int))) (Int.dvd_neg.2 (Int.dvd_mul_left _ _))
      omega
    · have := hmul (4503599627370496 * (T : Int)) (Int.dvd_mul_left _ _)
      omega
theorem FL.neg {v : Int} (h : FL v) : FL (-v) := by
  obtain ⟨k, h1, h2⟩ := h
  exact ⟨k, Int.dvd_neg.2 h1, by rw [Int.natAbs_neg]; exact h2⟩
theorem FL.zero : FL 0 := ⟨0, Int.dvd_zero _, by simp⟩
theorem Nr.neg {v s : Int} {T : Nat} (h : Nr v s T) : Nr (-v) (-s) T := by
  obtain ⟨h1, h2, h3, h4, h5, h6⟩ := h
  exact ⟨h1, Int.dvd_neg.2 h2, by omega, by omega, by omega, h6⟩
theorem FL.unit {x : Int} (hx : FL x) (E : Nat) (h : 9007199254740992 * 2 ^ E < x.natAbs) : (2 ^ (E + 1) : Int) ∣ x := by
  obtain ⟨k, h1, h2⟩ := hx
  by_cases c : E + 1 ≤ k
  · exact Int.dvd_trans (pow_dvd_int c) h1
  · exfalso
    have : 2 ^ k ≤ 2 ^ E := Nat.pow_le_pow_right (by omega) (by omega)
    omega
theorem rung_of (A : Nat) (d : Int) (E K : Nat) (hE : E = rE 53 A 1) (hK : K = rS 53 A 1 + (upw d (rS 53 A 1) (rR 53 A 1) (1 * 2 ^ rE 53 A 1)).toNat) : rU d 53 A 1 = K * 2 ^ E ∧ K ≤ 9007199254740992 ∧ (E = 0 → K < 9007199254740992) ∧ (E = 0 ∨ 4503599627370496 ≤ K) ∧ rgU 53 (rU d 53 A 1) = E * 4503599627370496 + K ∧ (blen (rU d 53 A 1) ≤ 2098 ↔ E * 4503599627370496 + K < 9218868437227405312) := by
  obtain ⟨h1, h2⟩ := rE_spec 53 A 1 (by omega) (by omega)
  have hU : rU d 53 A 1 = K * 2 ^ E := by unfold rU; rw [← hK, ← hE]
  rw [← hE] at h1 h2
  rw [Nat.one_mul, Nat.pow_add, show (2 : Nat) ^ 53 = 9007199254740992 from by decide] at h1
  have hTp : 0 < 2 ^ E := Nat.two_pow_pos E
  have hSq : rS 53 A 1 = A / 2 ^ E := by unfold rS; rw [← hE, Nat.one_mul]
  have hRq : rR 53 A 1 = A % 2 ^ E := by unfold rR; rw [← hE, Nat.one_mul]
  have hS1 : rS 53 A 1 < 9007199254740992 := by rw [hSq, Nat.div_lt_iff_lt_mul hTp, Nat.mul_comm]; exact h1
  have hS2 : E = 0 ∨ 4503599627370496 ≤ rS 53 A 1 := by
    rcases h2 with h | h
    · exact Or.inl h
    · right
      rw [Nat.one_mul, show E + 53 - 1 = 52 + E from by omega, Nat.pow_add, show (2 : Nat) ^ 52 = 4503599627370496 from by decide] at h
      rw [hSq, Nat.le_div_iff_mul_le hTp]
      exact h
  have hb : (upw d (rS 53 A 1) (rR 53 A 1) (1 * 2 ^ rE 53 A 1)).toNat ≤ 1 := Bool.toNat_le _
  have hK1 : K ≤ 9007199254740992 := by omega
  have hK0 : E = 0 → K < 9007199254740992 := fun h => by
    have h0 : rR 53 A 1 = 0 := by rw [hRq, h, Nat.pow_zero, Nat.mod_one]
    rw [h0, upw_none _ _ _ (by rw [Nat.one_mul]; exact Nat.two_pow_pos _)] at hK
    simp at hK
    omega
  have hK2 : E = 0 ∨ 4503599627370496 ≤ K := by omega
  refine ⟨hU, hK1, hK0, hK2, ?_⟩
  rw [hU]
  by_cases c0 : K = 0
  · have hE0 : E = 0 := by omega
    rw [c0, hE0, Nat.zero_mul, rgU_zero, blen_zero]
    omega
  · by_cases c1 : K = 9007199254740992
    · have hp : 0 < E := by
        rcases Nat.eq_zero_or_pos E with h | h
        · exact absurd (hK0 h) (by omega)
        · exact h
      have e1 : K * 2 ^ E = 4503599627370496 * 2 ^ (E + 1) := by rw [c1, Nat.pow_succ]; omega
      have b1 : blen 4503599627370496 = 53 := by
        have := blen_uniq 4503599627370496 52 (by decide) (by decide)
        exact this
      rw [e1, rgU_mul 53 4503599627370496 (E + 1) 0 (by decide) (by rw [b1]; omega) (by rw [b1]; omega), blen_mul _ _ (by decide), b1, show (2 : Nat) ^ (53 - 1) = 4503599627370496 from by decide, Nat.pow_zero, Nat.mul_one, c1]
      constructor
      · omega
      · omega
    · have hlt : K < 9007199254740992 := by omega
      by_cases c2 : E = 0
      · rw [c2, Nat.pow_zero, Nat.mul_one]
        have hb2 : blen K ≤ 53 := by rw [blen_le_iff, show (2 : Nat) ^ 53 = 9007199254740992 from by decide]; exact hlt
        have : rgU 53 K = K := by
          unfold rgU
          rw [show blen K - 53 = 0 from by omega, Nat.zero_mul, Nat.pow_zero, Nat.div_one, Nat.zero_add]
        rw [this]
        omega
      · have hge : 4503599627370496 ≤ K := by omega
        have b1 : blen K = 53 := by
          have hb2 : blen K ≤ 53 := by rw [blen_le_iff, show (2 : Nat) ^ 53 = 9007199254740992 from by decide]; exact hlt
          have hb3 : ¬ blen K ≤ 52 := by rw [blen_le_iff, show (2 : Nat) ^ 52 = 4503599627370496 from by decide]; omega
          omega
        rw [rgU_mul 53 K E 0 c0 (by rw [b1]; omega) (by omega), blen_mul _ _ c0, b1, show (2 : Nat) ^ (53 - 1) = 4503599627370496 from by decide, Nat.pow_zero, Nat.mul_one]
        constructor
        · omega
        · omega
def Iv (n : Bool) (m : Nat) : Int := if n then -((Fq.vV Ieee.double m : Nat) : Int) else ((Fq.vV Ieee.double m : Nat) : Int)
theorem vV_rung (A : Nat) (d : Int) : Fq.vV Ieee.double (rgU 53 (rU d 53 A 1)) = rU d 53 A 1 := by
  obtain ⟨E, hE⟩ : ∃ E, E = rE 53 A 1 := ⟨_, rfl⟩
  obtain ⟨K, hK⟩ : ∃ K, K = rS 53 A 1 + (upw d (rS 53 A 1) (rR 53 A 1) (1 * 2 ^ rE 53 A 1)).toNat := ⟨_, rfl⟩
  obtain ⟨h1, h2, h3, h4, h5, _⟩ := rung_of A d E K hE hK
  rw [h5, h1]
  unfold Fq.vV Fq.mM Fq.eE
  rw [Fq.binD]
  by_cases c0 : E * 4503599627370496 + K < 4503599627370496
  · have : E = 0 := by omega
    rw [if_pos c0, if_pos c0, this]; simp
  · rw [if_neg c0, if_neg c0]
    by_cases c1 : K = 9007199254740992
    · rw [c1, show (E * 4503599627370496 + 9007199254740992) / 4503599627370496 = E + 2 from by omega, show (E * 4503599627370496 + 9007199254740992) % 4503599627370496 = 0 from by omega, show E + 2 - 1 = E + 1 from by omega, Nat.pow_succ]
      omega
    · have hge : 4503599627370496 ≤ K := by omega
      rw [show (E * 4503599627370496 + K) / 4503599627370496 = E + 1 from by omega, show (E * 4503599627370496 + K) % 4503599627370496 = K - 4503599627370496 from by omega, show 4503599627370496 + (K - 4503599627370496) = K from by omega, Nat.add_sub_cancel]
def sumW (d V : Int) : Nat := if V = 0 then 0 else mdW (decide (V < 0)) (finU 53 2098 9218868437227405311 9218868437227405312 (dirN (decide (V < 0)) d) (rU (dirN (decide (V < 0)) d) 53 V.natAbs 1))
namespace Fq
set_option maxRecDepth 20000 in
set_option maxHeartbeats 1000000 in
theorem plain_d (n : Bool) (m : Nat) (h2 : m < 9223372036854775808) (w : World) : Calls Try.prog 74 #[.float .f64 (wD n m)] w fun e w' => e = .returned (.float .f64 (wD (n && !(m == 0)) m)) ∧ w' = w := by
  have ho := eqzD n m h2
  by_cases c : m = 0
  · subst c
    have ew : wD (n && !((0 : Nat) == 0)) 0 = 0 := by simp [wD]
    rw [ew]
    clear ew
    have ho2 : (FloatKind.f64.format.order (wD n 0) 0 == some .eq) = true := by rw [ho]; rfl
    clear ho
    go_enter Try.func74, Try.ntmps74
    go_wp2
    exact bodyPost_ret (v := .float .f64 0) (by simp [results, Try.results74, go_sem] <;> simp only [*]) rfl ⟨rfl, rfl⟩
  · have ew : (n && !(m == 0)) = n := by simp [c]
    rw [ew]
    clear ew
    have ho2 : (FloatKind.f64.format.order (wD n m) 0 == some .eq) = false := by rw [ho]; simp [c]
    clear ho c
    go_enter Try.func74, Try.ntmps74
    go_wp2
    exact bodyPost_ret (v := .float .f64 (wD n m)) (by simp [results, Try.results74, go_sem] <;> simp only [*]) rfl ⟨rfl, rfl⟩

set_option maxRecDepth 20000 in
set_option maxHeartbeats 1000000 in
theorem plain_far (n : Bool) (m : Nat) (h2 : m < 9223372036854775808) (w : World) : Calls Try.prog 76 #[.float .f64 (wD n m)] w fun e w' => e = .returned (.float .f64 (wD (n && !(m == 0)) m)) ∧ w' = w := by
  have ho := eqzD n m h2
  by_cases c : m = 0
  · subst c
    have ew : wD (n && !((0 : Nat) == 0)) 0 = 0 := by simp [wD]
    rw [ew]
    clear ew
    have ho2 : (FloatKind.f64.format.order (wD n 0) 0 == some .eq) = true := by rw [ho]; rfl
    clear ho
    go_enter Try.func76, Try.ntmps76
    go_wp2
    exact bodyPost_ret (v := .float .f64 0) (by simp [results, Try.results76, go_sem] <;> simp only [*]) rfl ⟨rfl, rfl⟩
  · have ew : (n && !(m == 0)) = n := by simp [c]
    rw [ew]
    clear ew
    have ho2 : (FloatKind.f64.format.order (wD n m) 0 == some .eq) = false := by rw [ho]; simp [c]
    clear ho c
    go_enter Try.func76, Try.ntmps76
    go_wp2
    exact bodyPost_ret (v := .float .f64 (wD n m)) (by simp [results, Try.results76, go_sem] <;> simp only [*]) rfl ⟨rfl, rfl⟩

set_option maxRecDepth 20000 in
set_option maxHeartbeats 1000000 in
theorem plain_s (n : Bool) (m : Nat) (h2 : m < 2147483648) (w : World) : Calls Try.prog 55 #[.float .f32 (wS n m)] w fun e w' => e = .returned (.float .f32 (wS (n && !(m == 0)) m)) ∧ w' = w := by
  have ho := eqzS n m h2
  by_cases c : m = 0
  · subst c
    have ew : wS (n && !((0 : Nat) == 0)) 0 = 0 := by simp [wS]
    rw [ew]
    clear ew
    have ho2 : (FloatKind.f32.format.order (wS n 0) 0 == some .eq) = true := by rw [ho]; rfl
    clear ho
    go_enter Try.func55, Try.ntmps55
    go_wp2
    exact bodyPost_ret (v := .float .f32 0) (by simp [results, Try.results55, go_sem] <;> simp only [*]) rfl ⟨rfl, rfl⟩
  · have ew : (n && !(m == 0)) = n := by simp [c]
    rw [ew]
    clear ew
    have ho2 : (FloatKind.f32.format.order (wS n m) 0 == some .eq) = false := by rw [ho]; simp [c]
    clear ho c
    go_enter Try.func55, Try.ntmps55
    go_wp2
    exact bodyPost_ret (v := .float .f32 (wS n m)) (by simp [results, Try.results55, go_sem] <;> simp only [*]) rfl ⟨rfl, rfl⟩

set_option maxRecDepth 20000 in
set_option maxHeartbeats 1000000 in
theorem plain_near (n : Bool) (m : Nat) (h2 : m < 2147483648) (w : World) : Calls Try.prog 72 #[.float .f32 (wS n m)] w fun e w' => e = .returned (.float .f32 (wS (n && !(m == 0)) m)) ∧ w' = w := by
  have ho := eqzS n m h2
  by_cases c : m = 0
  · subst c
    have ew : wS (n && !((0 : Nat) == 0)) 0 = 0 := by simp [wS]
    rw [ew]
    clear ew
    have ho2 : (FloatKind.f32.format.order (wS n 0) 0 == some .eq) = true := by rw [ho]; rfl
    clear ho
    go_enter Try.func72, Try.ntmps72
    go_wp2
    exact bodyPost_ret (v := .float .f32 0) (by simp [results, Try.results72, go_sem] <;> simp only [*]) rfl ⟨rfl, rfl⟩
  · have ew : (n && !(m == 0)) = n := by simp [c]
    rw [ew]
    clear ew
    have ho2 : (FloatKind.f32.format.order (wS n m) 0 == some .eq) = false := by rw [ho]; simp [c]
    clear ho c
    go_enter Try.func72, Try.ntmps72
    go_wp2
    exact bodyPost_ret (v := .float .f32 (wS n m)) (by simp [results, Try.results72, go_sem] <;> simp only [*]) rfl ⟨rfl, rfl⟩

end Fq
end Go.Proofs.Ytjkbapnndoldgaa
