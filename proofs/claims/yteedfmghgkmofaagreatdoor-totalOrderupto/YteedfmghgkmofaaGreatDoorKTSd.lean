import Derived.Test.YteedfmghgkmofaaGreatDoorKTCa
import Derived.Test.YteedfmghgkmofaaGreatDoorKTSa
namespace Go.Proofs.YteedfmghgkmofaaGreatDoor
open Go.RowKit

theorem jn_ok (a b : Int) (ha : OkS a) (hb : OkS b) : OkS (jn a b) := by
  unfold OkS at *
  rcases ha with rfl | rfl | rfl | rfl <;> rcases hb with rfl | rfl | rfl | rfl <;> decide
theorem jn_comm (a b : Int) (ha : OkS a) (hb : OkS b) : jn a b = jn b a := by
  unfold OkS at *
  rcases ha with rfl | rfl | rfl | rfl <;> rcases hb with rfl | rfl | rfl | rfl <;> decide
theorem jn_assoc (a b c : Int) (ha : OkS a) (hb : OkS b) (hc : OkS c) : jn (jn a b) c = jn a (jn b c) := by
  unfold OkS at *
  rcases ha with rfl | rfl | rfl | rfl <;> rcases hb with rfl | rfl | rfl | rfl <;> rcases hc with rfl | rfl | rfl | rfl <;> decide
theorem jn_zl (a : Int) : jn 0 a = a := by unfold jn; rw [if_pos rfl]
theorem jn_zr (a : Int) (ha : OkS a) : jn a 0 = a := by
  unfold OkS at *
  rcases ha with rfl | rfl | rfl | rfl <;> decide
theorem ok0 : OkS 0 := Or.inl rfl
theorem tkS_ok (X Y : Nat) (pr : Bool) : OkS (tkS X Y pr) := by
  unfold tkS OkS
  cases pr
  · simp only [Bool.false_eq_true, if_false]; unfold xS; exact tS_cases _ _
  · simp only [if_true]; exact yS_cases _ _
def tmV (K : Nat) (t : Tm) : Int := tkV K t.1 t.2.1 t.2.2
def tmS (t : Tm) : Int := tkS t.1 t.2.1 t.2.2
theorem tmS_ok (t : Tm) : OkS (tmS t) := tkS_ok _ _ _
theorem tmV_le (K : Nat) (hK : K = 1074) (t : Tm) : (tmV K t).natAbs ≤ tb K := tkV_le K hK _ _ _
def aV (K : Nat) (L : List Tm) : Nat → Int
  | 0 => 0
  | i + 1 => aV K L i + tmV K (L.getD i (0, 0, false))
def aS (L : List Tm) : Nat → Int
  | 0 => 0
  | i + 1 => jn (aS L i) (tmS (L.getD i (0, 0, false)))
def bV (K : Nat) (L : List Tm) (k : Nat) : Nat → Int
  | 0 => 0
  | i + 1 => bV K L k i + tmV K (L.getD (k - 1 - i) (0, 0, false))
def bS (L : List Tm) (k : Nat) : Nat → Int
  | 0 => 0
  | i + 1 => jn (bS L k i) (tmS (L.getD (k - 1 - i) (0, 0, false)))
def pV (K : Nat) (L : List Tm) (j : Nat) : Nat → Int
  | 0 => 0
  | i + 1 => if i % 3 = j then pV K L j i + tmV K (L.getD i (0, 0, false)) else pV K L j i
def pS (L : List Tm) (j : Nat) : Nat → Int
  | 0 => 0
  | i + 1 => if i % 3 = j then jn (pS L j i) (tmS (L.getD i (0, 0, false))) else pS L j i
theorem aS_ok (L : List Tm) : ∀ i, OkS (aS L i)
  | 0 => ok0
  | i + 1 => jn_ok _ _ (aS_ok L i) (tmS_ok _)
theorem bS_ok (L : List Tm) (k : Nat) : ∀ i, OkS (bS L k i)
  | 0 => ok0
  | i + 1 => jn_ok _ _ (bS_ok L k i) (tmS_ok _)
theorem pS_ok (L : List Tm) (j : Nat) : ∀ i, OkS (pS L j i)
  | 0 => ok0
  | i + 1 => by
    unfold pS
    by_cases c : i % 3 = j
    · rw [if_pos c]; exact jn_ok _ _ (pS_ok L j i) (tmS_ok _)
    · rw [if_neg c]; exact pS_ok L j i
theorem ba_V (K : Nat) (L : List Tm) (k : Nat) : ∀ i, i ≤ k → bV K L k i + aV K L (k - i) = aV K L k
  | 0, _ => by simp [bV]
  | i + 1, h => by
    have ih := ba_V K L k i (by omega)
    have e : k - i = (k - (i + 1)) + 1 := by omega
    rw [e] at ih
    simp only [aV, bV] at ih ⊢
    rw [show k - 1 - i = k - (i + 1) from by omega]
    omega
theorem ba_S (L : List Tm) (k : Nat) : ∀ i, i ≤ k → jn (bS L k i) (aS L (k - i)) = aS L k
  | 0, _ => by simp [bS, jn_zl]
  | i + 1, h => by
    have ih := ba_S L k i (by omega)
    have e : k - i = (k - (i + 1)) + 1 := by omega
    rw [e] at ih
    simp only [aS, bS] at ih ⊢
    rw [show k - 1 - i = k - (i + 1) from by omega, jn_assoc _ _ _ (bS_ok L k i) (tmS_ok _) (aS_ok L _), jn_comm (tmS _) (aS L _) (tmS_ok _) (aS_ok L _)]
    exact ih
theorem pa_V (K : Nat) (L : List Tm) : ∀ i, pV K L 1 i + (pV K L 2 i + pV K L 0 i) = aV K L i
  | 0 => rfl
  | i + 1 => by
    have ih := pa_V K L i
    have h : i % 3 = 0 ∨ i % 3 = 1 ∨ i % 3 = 2 := by omega
    simp only [pV, aV]
    rcases h with h | h | h <;> simp [h] <;> omega
theorem pa_S (L : List Tm) : ∀ i, jn (pS L 1 i) (jn (pS L 2 i) (pS L 0 i)) = aS L i
  | 0 => rfl
  | i + 1 => by
    have ih := pa_S L i
    have h : i % 3 = 0 ∨ i % 3 = 1 ∨ i % 3 = 2 := by omega
    have o0 := pS_ok L 0 i
    have o1 := pS_ok L 1 i
    have o2 := pS_ok L 2 i
    have ot := tmS_ok (L.getD i (0, 0, false))
    simp only [pS, aS]
    rw [← ih]
    generalize tmS (L.getD i (0, 0, false)) = t at *
    generalize pS L 0 i = x at *
    generalize pS L 1 i = y at *
    generalize pS L 2 i = z at *
    rcases h with h | h | h
    · simp only [h, if_true]
      rw [if_neg (by decide), if_neg (by decide)]
      rw [jn_assoc _ _ _ o1 (jn_ok _ _ o2 o0) ot, jn_assoc _ _ _ o2 o0 ot]
    · simp only [h, if_true]
      rw [if_neg (by decide), if_neg (by decide)]
      rw [jn_assoc _ _ _ o1 ot (jn_ok _ _ o2 o0), jn_comm t _ ot (jn_ok _ _ o2 o0), jn_assoc _ _ _ o1 (jn_ok _ _ o2 o0) ot]
    · simp only [h, if_true]
      rw [if_neg (by decide), if_neg (by decide)]
      rw [jn_assoc _ _ _ o1 (jn_ok _ _ o2 o0) ot, jn_assoc _ _ _ o2 ot o0, jn_assoc _ _ _ o2 o0 ot, jn_comm t _ ot o0]
theorem sum_le (x y : Int) (i T : Nat) (h : x.natAbs ≤ i * T) (h2 : y.natAbs ≤ T) : (x + y).natAbs ≤ (i + 1) * T := by
  rw [Nat.add_mul, Nat.one_mul]; omega
theorem aV_le (K : Nat) (hK : K = 1074) (L : List Tm) : ∀ i, (aV K L i).natAbs ≤ i * tb K
  | 0 => by simp [aV]
  | i + 1 => sum_le _ _ _ _ (aV_le K hK L i) (tmV_le K hK _)
theorem bV_le (K : Nat) (hK : K = 1074) (L : List Tm) (k : Nat) : ∀ i, (bV K L k i).natAbs ≤ i * tb K
  | 0 => by simp [bV]
  | i + 1 => sum_le _ _ _ _ (bV_le K hK L k i) (tmV_le K hK _)
theorem ppV_le (K : Nat) (hK : K = 1074) (L : List Tm) (j : Nat) : ∀ i, (pV K L j i).natAbs ≤ i * tb K
  | 0 => by simp [pV]
  | i + 1 => by
    unfold pV
    by_cases c : i % 3 = j
    · rw [if_pos c]; exact sum_le _ _ _ _ (ppV_le K hK L j i) (tmV_le K hK _)
    · rw [if_neg c]; exact Nat.le_trans (ppV_le K hK L j i) (Nat.mul_le_mul (by omega) (Nat.le_refl _))
theorem mergeS_ (b1 b2 : Nat) (V1 V2 s1 s2 : Int) (n1 n2 : Nat) (hn : n1 + n2 ≤ 1000000) (w : World) (h1 : Sn w b1 V1 s1 n1) (h2 : Sn w b2 V2 s2 n2) : Calls Tryz.prog 25 #[.pointer (some ⟨b1, 0, none⟩), .pointer (some ⟨b2, 0, none⟩)] w fun e w' => (∃ v, e = .returned v) ∧ Sn w' b1 (V1 + V2) (jn s1 s2) (n1 + n2) ∧ Kb b1 w w' := by
  obtain ⟨k1, l1, ws1, r1, q1⟩ := h1
  obtain ⟨k2, l2, ws2, r2, q2⟩ := h2
  refine (merge_ b1 b2 ws1 ws2 V1 V2 r1 r2 k1 k2 s1 s2 w q1 q2).mono ?_
  rintro e w' ⟨z, hv, hS, hR, kb⟩
  rw [Nat.mod_eq_of_lt (by omega)] at hS
  have e : grS (k1 + k2) (jn s1 s2) = jn s1 s2 := by unfold grS; rw [if_neg (by omega)]
  rw [e] at hS
  exact ⟨hv, ⟨k1 + k2, by omega, z, hR, hS⟩, kb⟩
theorem takeS_ (t : Tm) (ht : t.1 < 18446744073709551616 ∧ t.2.1 < 18446744073709551616) (K : Nat) (hK : K = 1074) (b : Nat) (V s : Int) (n : Nat) (hn : n ≤ 1000000) (w : World) (h : Sn w b V s n) : Calls Tryz.prog 34 #[.pointer (some ⟨b, 0, none⟩), .agg #[.int .u64 ((t.1 : Nat) : Int), .int .u64 ((t.2.1 : Nat) : Int), .bool t.2.2]] w fun e w' => (∃ v, e = .returned v) ∧ Sn w' b (V + tmV K t) (jn s (tmS t)) (n + 1) ∧ Kb b w w' := by
  obtain ⟨k, l, h⟩ := h
  refine (take4_ t.1 t.2.1 t.2.2 K hK ht.1 ht.2 b V k s (by omega) w h).mono ?_
  rintro e w' ⟨hv, hS, kb⟩
  exact ⟨hv, ⟨k + 1, by omega, hS⟩, kb⟩
theorem newS_ (w : World) : Calls Tryz.prog 7 #[] w fun e w' => e = .returned (.pointer (some ⟨w.heap.size, 0, none⟩)) ∧ Sn w' w.heap.size 0 0 0 ∧ Kp w w' := by
  refine (new_ w).mono ?_
  rintro e w' ⟨he, hS, g⟩
  exact ⟨he, ⟨0, Nat.le_refl _, _, Rep.zero, hS⟩, g⟩
end Go.Proofs.YteedfmghgkmofaaGreatDoor
