import Derived.Test.YtnjlcfpkhgmjeaaGreatDoorKMR23
import Derived.Test.YtnjlcfpkhgmjeaaGreatDoorKZB
namespace Go.Proofs.YtnjlcfpkhgmjeaaGreatDoor
open Go.RowKit
def fmaW (d V : Int) : Nat := if V = 0 then 0 else mdW (decide (V < 0)) (finU 53 2098 9218868437227405311 9218868437227405312 (dirN (decide (V < 0)) d) (rV (dirN (decide (V < 0)) d) 53 V.natAbs 1 (-1074)))
theorem mul_fma (d V : Int) (ng : Bool) (P : Nat) (hP : V.natAbs = P) (hng : V ≠ 0 → ng = decide (V < 0)) : mulW d ng P = fmaW d V := by
  unfold mulW fmaW
  by_cases c : V = 0
  · rw [if_pos c, if_pos (by rw [← hP, c]; rfl)]
  · rw [if_neg c, if_neg (by omega), hng c, hP]
theorem sum_fma (d V W : Int) (K : Nat) (hK : K = 1074) (h : W = V * ((2 ^ K : Nat) : Int)) : sumW d V = fmaW d W := by
  have hp : (0 : Int) < ((2 ^ K : Nat) : Int) := by have := Nat.two_pow_pos K; omega
  obtain ⟨g1, g2⟩ := sgn_mul V _ hp
  rw [← h] at g1 g2
  rw [sum_mul d V (decide (V < 0)) W.natAbs K hK (by rw [h, Int.natAbs_mul, Int.natAbs_natCast]) (fun _ => rfl)]
  refine mul_fma d W _ _ rfl (fun _ => ?_)
  rw [decide_eq_decide]; exact g1
theorem of_fma (d : Int) (ng : Bool) (c : Nat) (low V : Int) (h1 : -2148 ≤ low) (h2 : low ≤ 8192) (hb : blen c ≤ 524288) (hV : V = if ng then -((c * 2 ^ (low + 2148).toNat : Nat) : Int) else ((c * 2 ^ (low + 2148).toNat : Nat) : Int)) : ofW d ng c low = fmaW d V := by
  obtain ⟨k, hk⟩ : ∃ k, k = (low + 2148).toNat := ⟨_, rfl⟩
  rw [← hk] at hV
  rw [of_mul d ng c low (c * 2 ^ k) h1 h2 hb (by rw [hk])]
  obtain ⟨C, hC⟩ : ∃ C, C = c * 2 ^ k := ⟨_, rfl⟩
  rw [← hC] at hV ⊢
  refine mul_fma d V ng _ ?_ ?_
  · rw [hV]; cases ng <;> simp
  · intro hv
    rw [hV] at hv ⊢
    cases ng
    · simp
    · simp at hv ⊢; omega
theorem fma_signs (s t : Bool) (a b : Nat) (ea eb low : Int) (ea1 : -2148 ≤ ea) (eb1 : -2148 ≤ eb) (hlow : low = min ea eb) (X Y : Int) (hX : X = if s then -((a * 2 ^ (ea + 2148).toNat : Nat) : Int) else ((a * 2 ^ (ea + 2148).toNat : Nat) : Int)) (hY : Y = if t then -((b * 2 ^ (eb + 2148).toNat : Nat) : Int) else ((b * 2 ^ (eb + 2148).toNat : Nat) : Int)) (A' B' : Nat) (hA : A' = a * 2 ^ (ea - low).toNat) (hB : B' = b * 2 ^ (eb - low).toNat) :
    (s = t → X + Y = if s then -(((A' + B') * 2 ^ (low + 2148).toNat : Nat) : Int) else (((A' + B') * 2 ^ (low + 2148).toNat : Nat) : Int)) ∧ (s ≠ t → B' ≤ A' → X + Y = if s then -(((A' - B') * 2 ^ (low + 2148).toNat : Nat) : Int) else (((A' - B') * 2 ^ (low + 2148).toNat : Nat) : Int)) ∧ (s ≠ t → A' < B' → X + Y = if t then -(((B' - A') * 2 ^ (low + 2148).toNat : Nat) : Int) else (((B' - A') * 2 ^ (low + 2148).toNat : Nat) : Int)) := by
  obtain ⟨k, hk⟩ : ∃ k, k = (low + 2148).toNat := ⟨_, rfl⟩
  have e1 : a * 2 ^ (ea + 2148).toNat = A' * 2 ^ k := by rw [hA, Nat.mul_assoc, ← Nat.pow_add]; congr 2; omega
  have e2 : b * 2 ^ (eb + 2148).toNat = B' * 2 ^ k := by rw [hB, Nat.mul_assoc, ← Nat.pow_add]; congr 2; omega
  rw [e1] at hX
  rw [e2] at hY
  rw [← hk, Nat.add_mul, Nat.sub_mul, Nat.sub_mul]
  have g1 := fun h2 : B' ≤ A' => Nat.mul_le_mul_right (2 ^ k) h2
  have g2 := fun h2 : A' < B' => Nat.mul_le_mul_right (2 ^ k) (Nat.le_of_lt h2)
  generalize A' * 2 ^ k = a2 at hX g1 g2 ⊢
  generalize B' * 2 ^ k = b2 at hY g1 g2 ⊢
  refine ⟨fun h => ?_, fun h h2 => ?_, fun h h2 => ?_⟩
  · rw [hX, hY, ← h]; cases s
    · rw [if_neg (by simp), if_neg (by simp), if_neg (by simp)]; omega
    · rw [if_pos rfl, if_pos rfl, if_pos rfl]; omega
  · have g := g1 h2
    rw [hX, hY]
    cases s <;> cases t <;> simp only [if_true, if_false, Bool.false_eq_true, ne_eq, not_true_eq_false, not_false_eq_true] at h ⊢ <;> omega
  · have g := g2 h2
    rw [hX, hY]
    cases s <;> cases t <;> simp only [if_true, if_false, Bool.false_eq_true, ne_eq, not_true_eq_false, not_false_eq_true] at h ⊢ <;> omega
set_option maxRecDepth 20000 in
set_option maxHeartbeats 400000 in
theorem plusAnyW_ (a b : Nat) (ea eb : Int) (la : blen a ≤ 106) (lb : blen b ≤ 106) (ea1 : -2148 ≤ ea) (ea2 : ea ≤ 4096) (eb1 : -2148 ≤ eb) (eb2 : eb ≤ 4096) (s t : Bool) (X Y : Int) (hX : X = if s then -((a * 2 ^ (ea + 2148).toNat : Nat) : Int) else ((a * 2 ^ (ea + 2148).toNat : Nat) : Int)) (hY : Y = if t then -((b * 2 ^ (eb + 2148).toNat : Nat) : Int) else ((b * 2 ^ (eb + 2148).toNat : Nat) : Int)) :
    ∃ (ng : Bool) (c : Nat) (low : Int), (∀ d : Int, ofW d ng c low = fmaW d (X + Y)) ∧ len32 c ≤ 16384 ∧ ∀ (va vb : Value) (w : World), Ls w va (dig a) → Ls w vb (dig b) → Calls Tryz.prog 33 #[.agg #[.bool s, va, .int .i64 ea], .agg #[.bool t, vb, .int .i64 eb]] w fun e w' => ∃ v, e = .returned (.agg #[.bool ng, v, .int .i64 low]) ∧ Ls w' v (dig c) ∧ Kp w w' := by
  obtain ⟨low, hlow⟩ : ∃ low, low = min ea eb := ⟨_, rfl⟩
  obtain ⟨A', hA⟩ : ∃ A', A' = a * 2 ^ (ea - low).toNat := ⟨_, rfl⟩
  obtain ⟨B', hB⟩ : ∃ B', B' = b * 2 ^ (eb - low).toNat := ⟨_, rfl⟩
  obtain ⟨S1, S2, S3⟩ := fma_signs s t a b ea eb low ea1 eb1 hlow X Y hX hY A' B' hA hB
  obtain ⟨X4, hX4⟩ : ∃ X4 : Nat, X4 = 8192 := ⟨_, rfl⟩
  have bnd : ∀ (u : Nat) (e : Int) (U : Nat), blen u ≤ 106 → e ≤ 8000 → U = u * 2 ^ e.toNat → blen U ≤ X4 := fun u e U h1 h2 h3 => by
    rw [h3, blen_le_iff]
    have h4 : 2 ^ 106 * 2 ^ e.toNat ≤ 2 ^ X4 := by rw [← Nat.pow_add]; exact Nat.pow_le_pow_right (by omega) (by omega)
    have h5 : u * 2 ^ e.toNat < 2 ^ 106 * 2 ^ e.toNat := Nat.mul_lt_mul_of_pos_right ((blen_le_iff u 106).1 h1) (Nat.two_pow_pos _)
    exact Nat.lt_of_lt_of_le h5 h4
  have bA := bnd a (ea - low) A' la (by omega) hA
  have bB := bnd b (eb - low) B' lb (by omega) hB
  have hsm : ∀ c : Nat, c ≤ A' + B' → blen c ≤ X4 + 1 := fun c hc => by
    have h1 := (blen_le_iff A' X4).1 bA
    have h2 := (blen_le_iff B' X4).1 bB
    rw [blen_le_iff, Nat.pow_succ]; omega
  have fin : ∀ (ng : Bool) (c : Nat), c ≤ A' + B' → (X + Y = if ng then -((c * 2 ^ (low + 2148).toNat : Nat) : Int) else ((c * 2 ^ (low + 2148).toNat : Nat) : Int)) → (∀ d : Int, ofW d ng c low = fmaW d (X + Y)) ∧ len32 c ≤ 16384 := fun ng c hc hv => by
    have h1 := hsm c hc
    exact ⟨fun d => of_fma d ng c low _ (by omega) (by omega) (by omega) hv, dlen c 16384 (by omega)⟩
  by_cases c1 : s = t
  · obtain ⟨f1, f2⟩ := fin s (A' + B') (Nat.le_refl _) (S1 c1)
    refine ⟨s, A' + B', low, f1, f2, ?_⟩
    rintro va vb w ⟨pa, ca, rfl, aa, l1⟩ ⟨pb, cb, rfl, ab, l2⟩
    exact plusEqW_ s t a b ea eb low pa pb ca cb w aa l1 ab l2 la lb ea1 ea2 eb1 eb2 hlow A' B' hA hB c1
  · by_cases c2 : B' ≤ A'
    · obtain ⟨f1, f2⟩ := fin s (A' - B') (by omega) (S2 c1 c2)
      refine ⟨s, A' - B', low, f1, f2, ?_⟩
      rintro va vb w ⟨pa, ca, rfl, aa, l1⟩ ⟨pb, cb, rfl, ab, l2⟩
      exact plusGeW_ s t a b ea eb low pa pb ca cb w aa l1 ab l2 la lb ea1 ea2 eb1 eb2 hlow A' B' hA hB c1 c2
    · obtain ⟨f1, f2⟩ := fin t (B' - A') (by omega) (S3 c1 (by omega))
      refine ⟨t, B' - A', low, f1, f2, ?_⟩
      rintro va vb w ⟨pa, ca, rfl, aa, l1⟩ ⟨pb, cb, rfl, ab, l2⟩
      exact plusLtW_ s t a b ea eb low pa pb ca cb w aa l1 ab l2 la lb ea1 ea2 eb1 eb2 hlow A' B' hA hB c1 (by omega)
theorem nanD9 (n : Bool) (m : Nat) (h1 : 9218868437227405312 < m) (h2 : m < 9223372036854775808) : Ieee.double.read (Fq.wD n m) = .nan n (m - 9218868437227405312) := by
  rw [Fq.read_nan Ieee.double _ Fq.binfD (by rw [Fq.rgD n m h2, Fq.infD]; exact h1), Fq.rgD n m h2, Fq.ngD n m h2, Fq.infD]
theorem infD9 (n : Bool) : Ieee.double.read (Fq.wD n 9218868437227405312) = .infinity n := by
  rw [Fq.read_inf Ieee.double _ Fq.binfD (by rw [Fq.rgD n 9218868437227405312 (by decide), Fq.infD]), Fq.ngD n 9218868437227405312 (by decide)]
theorem finD9 (n : Bool) (m : Nat) (h : m < 9218868437227405312) : ∃ a e, Ieee.double.read (Fq.wD n m) = .number n a e ∧ (a = 0 ↔ m = 0) := by
  rw [Fq.read_fin _ _ (by rw [Fq.rgD n m (by omega), Fq.infD]; exact h), Fq.ngD n m (by omega), Fq.rgD n m (by omega)]
  refine ⟨_, _, rfl, ?_⟩
  unfold Fq.mM
  rw [Fq.binD]
  split <;> omega
theorem wrI9 (s : Bool) : Ieee.double.write (.infinity s) = Fq.wD s 9218868437227405312 := by unfold Ieee.Format.write Ieee.Format.word Fq.wD; rw [Fq.signD, Fq.infD]
def badP (m m' : Nat) : Prop := 9218868437227405312 < m ∨ 9218868437227405312 < m' ∨ (m = 9218868437227405312 ∧ m' = 0) ∨ (m = 0 ∧ m' = 9218868437227405312)
theorem mul_bad (n n' : Bool) (m m' : Nat) (hm : m < 9223372036854775808) (hm' : m' < 9223372036854775808) (h : badP m m') : FloatKind.f64.format.mul (Fq.wD n m) (Fq.wD n' m') = none := by
  show Ieee.double.mul _ _ = none
  unfold Ieee.Format.mul
  by_cases c1 : 9218868437227405312 < m
  · rw [nanD9 n m c1 hm]; rfl
  · by_cases c2 : 9218868437227405312 < m'
    · rw [nanD9 n' m' c2 hm']
      by_cases c3 : m = 9218868437227405312
      · rw [c3, infD9]; rfl
      · obtain ⟨a, e, he, _⟩ := finD9 n m (by omega)
        rw [he]; rfl
    · rcases (h.resolve_left c1).resolve_left c2 with ⟨e1, e2⟩ | ⟨e1, e2⟩
      · obtain ⟨a, e, he, hz⟩ := finD9 n' m' (by omega)
        rw [e1, infD9, he]
        unfold Ieee.Datum.product
        simp only
        rw [if_pos (hz.2 e2)]; rfl
      · obtain ⟨a, e, he, hz⟩ := finD9 n m (by omega)
        rw [e2, infD9, he]
        unfold Ieee.Datum.product
        simp only
        rw [if_pos (hz.2 e1)]; rfl
theorem mul_inf (n n' : Bool) (m m' : Nat) (h : ¬ badP m m') (hi : ¬ (m < 9218868437227405312 ∧ m' < 9218868437227405312)) : FloatKind.f64.format.mul (Fq.wD n m) (Fq.wD n' m') = some (Fq.wD (n ^^ n') 9218868437227405312) := by
  unfold badP at h
  show Ieee.double.mul _ _ = _
  unfold Ieee.Format.mul
  by_cases c1 : m = 9218868437227405312
  · rw [c1, infD9]
    by_cases c2 : m' = 9218868437227405312
    · rw [c2, infD9]
      exact congrArg some (wrI9 _)
    · obtain ⟨a, e, he, hz⟩ := finD9 n' m' (by omega)
      rw [he]
      unfold Ieee.Datum.product
      simp only
      rw [if_neg (fun h0 => h (Or.inr (Or.inr (Or.inl ⟨c1, hz.1 h0⟩))))]
      exact congrArg some (wrI9 _)
  · have c2 : m' = 9218868437227405312 := by omega
    obtain ⟨a, e, he, hz⟩ := finD9 n m (by omega)
    rw [c2, infD9, he]
    unfold Ieee.Datum.product
    simp only
    rw [if_neg (fun h0 => h (Or.inr (Or.inr (Or.inr ⟨hz.1 h0, c2⟩)))), show (n ^^ n') = (n' ^^ n) from by cases n <;> cases n' <;> rfl]
    exact congrArg some (wrI9 _)
theorem rU_zero9 : rU 0 53 0 1 = 0 := by
  have h := rV_zero9 0 0
  unfold rV at h
  simpa using h
theorem mul_zero (n n' : Bool) (m m' : Nat) (hm : m < 9218868437227405312) (hm' : m' < 9218868437227405312) (h : m = 0 ∨ m' = 0) : FloatKind.f64.format.mul (Fq.wD n m) (Fq.wD n' m') = some (Fq.wD (n ^^ n') 0) := by
  obtain ⟨K, hK⟩ : ∃ K : Nat, K = 1074 := ⟨_, rfl⟩
  have hz : Iv n m * Iv n' m' = 0 := by
    have e : ∀ b : Bool, Iv b 0 = 0 := fun b => by
      have := iv_abs b 0
      rw [(vV_zero 0).2 rfl] at this
      omega
    rcases h with h | h
    · rw [h, e, Int.zero_mul]
    · rw [h, e, Int.mul_zero]
  rw [mul_v n n' m m' hm hm' K 0 hK (by rw [hz, Int.zero_mul]), if_pos rfl, show (0 : Int).natAbs = 0 from rfl, rU_zero9]
  unfold finU
  rw [blen_zero, if_pos (by decide), rgU_zero]
theorem nan_cut9 (t : Nat) : 9218868437227405312 < (t % 2 * 2 ^ 63 + 0x7ff0000000000000 + 1 + t / 2 % (2 ^ 52 - 1)) % 9223372036854775808 ∧ t % 2 * 2 ^ 63 + 0x7ff0000000000000 + 1 + t / 2 % (2 ^ 52 - 1) < 18446744073709551616 := by
  rw [show (2 : Nat) ^ 63 = 9223372036854775808 from by decide, show (2 : Nat) ^ 52 - 1 = 4503599627370495 from by decide]
  have h1 : t % 2 = 0 ∨ t % 2 = 1 := by omega
  have h2 : t / 2 % 4503599627370495 < 4503599627370495 := Nat.mod_lt _ (by decide)
  generalize t / 2 % 4503599627370495 = b at *
  rcases h1 with h | h <;> rw [h] <;> omega
theorem run_nan_mul (X Y : Nat) (h : FloatKind.f64.format.mul X Y = none) (w : World) : ∃ r, 9218868437227405312 < r % 9223372036854775808 ∧ r < 18446744073709551616 ∧ (binOp .mul 24 (.float .f64 X) (.float .f64 Y)).run Tryz.prog w = .ok (.float .f64 r) w.drew := by
  refine ⟨Question.cut (.nanBits .f64 X Y) _, ?_, ?_, by simp [binOp, Op.floatArith, h]; rfl⟩
  · simp only [Question.cut]; exact (nan_cut9 _).1
  · simp only [Question.cut]; exact (nan_cut9 _).2
end Go.Proofs.YtnjlcfpkhgmjeaaGreatDoor
