import Derived.Test.YtmgfbalhgfkibaaGreatDoorKIYa
namespace Go.Proofs.YtmgfbalhgfkibaaGreatDoor
open Go.RowKit

set_option linter.unusedVariables false
def vZ (z : Int) : Int := Iv (decide (z < 0)) z.natAbs
theorem vZ_pos (z : Int) (h : 0 ≤ z) : vZ z = ((Fq.vV Ieee.double z.natAbs : Nat) : Int) := by
  unfold vZ Iv
  rw [decide_eq_false (show ¬ z < 0 by omega)]; rfl
theorem vV0X : Fq.vV Ieee.double 0 = 0 := by decide
theorem vZ_neg (z : Int) : vZ (-z) = -vZ z := by
  unfold vZ Iv
  rw [Int.natAbs_neg]
  by_cases z0 : z = 0
  · rw [z0]; simp [vV0X]
  · by_cases c : z < 0
    · rw [decide_eq_true c, decide_eq_false (show ¬ -z < 0 by omega)]; simp
    · rw [decide_eq_false c, decide_eq_true (show -z < 0 by omega)]; simp
theorem vV_place (E S : Nat) (h1 : S ≤ 2 ^ 53) (h2 : E = 0 ∨ 2 ^ (53 - 1) ≤ S) : Fq.vV Ieee.double (E * 2 ^ (53 - 1) + S) = S * 2 ^ E := by
  have hb : Ieee.double.binade = 4503599627370496 := by decide
  have p1 : (2 : Nat) ^ (53 - 1) = 4503599627370496 := by decide
  have p2 : (2 : Nat) ^ 53 = 9007199254740992 := by decide
  rw [p1] at h2 ⊢
  rw [p2] at h1
  unfold Fq.vV Fq.mM Fq.eE
  rw [hb]
  by_cases c : E * 4503599627370496 + S < 4503599627370496
  · have hE : E = 0 := by omega
    rw [if_pos c, if_pos c, hE]; simp
  · rw [if_neg c, if_neg c]
    by_cases c2 : S = 9007199254740992
    · rw [show (E * 4503599627370496 + S) / 4503599627370496 - 1 = E + 1 from by omega, show (E * 4503599627370496 + S) % 4503599627370496 = 0 from by omega, Nat.pow_succ, c2]
      generalize 2 ^ E = P
      omega
    · rw [show (E * 4503599627370496 + S) / 4503599627370496 - 1 = E from by omega, show 4503599627370496 + (E * 4503599627370496 + S) % 4503599627370496 = S from by omega]
theorem g53_tight (c1 c2 : Nat) (hc : 0 < c2) (V : Int) : TS 9218868437227405312 (Fq.vV Ieee.double) (V * c1) (c2 : Int) (g53 (-1) c1 c2 V) (g53 1 c1 c2 V) (g53 0 c1 c2 V) := gpl_tight 53 2098 9218868437227405311 9218868437227405312 (Fq.vV Ieee.double) vV_place c1 c2 hc (by decide) (by decide) (by decide) (by decide) V

theorem g53_lohi (c1 c2 : Nat) (hc : 0 < c2) (V : Int) : g53 (-1) c1 c2 V ≤ g53 1 c1 c2 V ∧ g53 (-1) c1 c2 V < 9218868437227405312 ∧ -9218868437227405312 < g53 1 c1 c2 V := by
  have h := g53_tight c1 c2 hc V vZ vZ_pos vZ_neg
  have b1 := g53_le (-1) c1 c2 V
  have b2 := g53_le 1 c1 c2 V
  rcases h with ⟨h1, _, h3, h4, _⟩ | ⟨h1, h2, h3, _⟩ <;> omega
theorem vZ_sn (z : Int) : Iv (sN z) z.natAbs = vZ z := rfl
theorem iv_le9 (n n' : Bool) (m m' : Nat) (h : Fq.plz n m ≤ Fq.plz n' m') : Iv n m ≤ Iv n' m' := by
  have h1 := Fq.vV_lt_iff Ieee.double m m'
  have h2 := Fq.vV_lt_iff Ieee.double m' m
  have h3 := vV_zero m
  have h4 := vV_zero m'
  unfold Iv
  unfold Fq.plz at h
  cases n <;> cases n' <;> simp at h ⊢ <;> omega
theorem vZ_le (x y : Int) (h : x ≤ y) : vZ x ≤ vZ y := iv_le9 _ _ _ _ (by rw [plz_pw, plz_pw]; exact h)
theorem vZ_zero : vZ 0 = 0 := by rw [vZ_pos 0 (by omega)]; exact congrArg _ vV0X
theorem vZ_nn (x : Int) (h : 0 ≤ x) : 0 ≤ vZ x := by rw [vZ_pos x h]; omega
theorem prZ_fin (K : Nat) (x y : Int) (hx : -9218868437227405312 < x ∧ x < 9218868437227405312) (hy : -9218868437227405312 < y ∧ y < 9218868437227405312) : prZ K x y = g53 (-1) 1 (2 ^ K) (vZ x * vZ y) := by
  unfold prZ
  by_cases c : x = 0 ∨ y = 0
  · rw [if_pos c]
    have e : vZ x * vZ y = 0 := by
      rcases c with c | c
      · rw [c, vZ_zero, Int.zero_mul]
      · rw [c, vZ_zero, Int.mul_zero]
    rw [e]; unfold g53 gpl; rw [if_pos rfl]
  · rw [if_neg c]
    unfold muZ oM
    rw [if_neg (by omega), if_neg (by omega), vZ_sn, vZ_sn]; rfl
theorem prZ_inf (K : Nat) (x : Int) (hx : BdZ x) : prZ K x 9218868437227405312 = if x < 0 then -9218868437227405312 else if x = 0 then 0 else 9218868437227405312 := by
  unfold prZ
  unfold BdZ at hx
  by_cases c : x = 0
  · rw [if_pos (Or.inl c), if_neg (by omega), if_pos c]
  · rw [if_neg (by omega), if_neg c]
    unfold muZ oM
    rw [if_neg (by omega), if_pos (by omega)]
    unfold sN
    by_cases n : x < 0
    · rw [decide_eq_true n, if_pos n]; rfl
    · rw [decide_eq_false n, if_neg n]; rfl
theorem prZ_lo (K : Nat) (y : Int) (hy : 0 < y ∧ y ≤ 9218868437227405312) : prZ K (-9218868437227405312) y = -9218868437227405312 := by
  unfold prZ
  rw [if_neg (by omega)]
  unfold muZ oM
  rw [if_neg (by omega), if_pos (by omega)]
  unfold sN
  rw [decide_eq_true (by omega), decide_eq_false (by omega)]; rfl
theorem prZ_hi (K : Nat) (y : Int) (hy : 0 < y ∧ y ≤ 9218868437227405312) : prZ K 9218868437227405312 y = 9218868437227405312 := by
  unfold prZ
  rw [if_neg (by omega)]
  unfold muZ oM
  rw [if_neg (by omega), if_pos (by omega)]
  unfold sN
  rw [decide_eq_false (by omega), decide_eq_false (by omega)]; rfl
structure Gd (f : Int → Int → Int) (e : Int) : Prop where
  sym : ∀ x y, f x y = f y x
  neg : ∀ x y, f (-x) y = f x (-y)
  zero : ∀ x, f x 0 = e
  mono : ∀ x x' y, BdZ x → BdZ x' → BdZ y → 0 ≤ y → x ≤ x' → f x y ≤ f x' y
theorem Gd.anti {f : Int → Int → Int} {e : Int} (h : Gd f e) (x x' y : Int) (hx : BdZ x) (hx' : BdZ x') (hy : BdZ y) (y0 : y ≤ 0) (hl : x ≤ x') : f x' y ≤ f x y := by
  have g := h.mono (-x') (-x) (-y) (bd_neg _ hx') (bd_neg _ hx) (bd_neg _ hy) (by omega) (by omega)
  rw [h.neg, h.neg, Int.neg_neg] at g
  exact g
theorem prZ_gd (K : Nat) : Gd (prZ K) 0 := by
  refine ⟨prZ_sym K, prZ_neg K, fun x => by unfold prZ; rw [if_pos (Or.inr rfl)], ?_⟩
  intro x x' y hx hx' hy y0 hl
  by_cases c0 : y = 0
  · rw [c0]; unfold prZ; rw [if_pos (Or.inr rfl), if_pos (Or.inr rfl)]; omega
  by_cases c1 : y = 9218868437227405312
  · rw [c1, prZ_inf K x hx, prZ_inf K x' hx']
    repeat' split
    all_goals omega
  unfold BdZ at hx hx' hy
  by_cases c2 : x = -9218868437227405312
  · rw [c2, prZ_lo K y (by omega)]; exact (prZ_bd K x' y).1
  by_cases c3 : x' = 9218868437227405312
  · rw [c3, prZ_hi K y (by omega)]; exact (prZ_bd K x y).2
  rw [prZ_fin K x y (by omega) (by omega), prZ_fin K x' y (by omega) (by omega)]
  exact g53_mono _ _ _ (Nat.two_pow_pos K) _ _ (Int.mul_le_mul_of_nonneg_right (vZ_le x x' hl) (vZ_nn y y0))
theorem lst_le {f : Int → Int → Int} {e : Int} (h : Gd f e) (L1 H1 L2 H2 p q : Int) (b1 : BdZ L1) (b2 : BdZ H1) (b3 : BdZ L2) (b4 : BdZ H2) (hp : L1 ≤ p ∧ p ≤ H1) (hq : L2 ≤ q ∧ q ≤ H2) : lst f L1 H1 L2 H2 ≤ f p q := by
  have bp : BdZ p := by unfold BdZ at *; omega
  have bq : BdZ q := by unfold BdZ at *; omega
  have z : ∀ x, f 0 x = e := fun x => by rw [h.sym]; exact h.zero x
  have m1 : 0 ≤ q → f L1 q ≤ f p q := fun c => h.mono _ _ _ b1 bp bq c hp.1
  have m2 : q ≤ 0 → f H1 q ≤ f p q := fun c => h.anti _ _ _ bp b2 bq c hp.2
  have m3 : L1 ≤ 0 → f L1 H2 ≤ f L1 q := fun c => by rw [h.sym L1 H2, h.sym L1 q]; exact h.anti _ _ _ bq b4 b1 c hq.2
  have m4 : 0 ≤ L1 → f L1 L2 ≤ f L1 q := fun c => by rw [h.sym L1 L2, h.sym L1 q]; exact h.mono _ _ _ b3 bq b1 c hq.1
  have m5 : 0 ≤ H1 → f H1 L2 ≤ f H1 q := fun c => by rw [h.sym H1 L2, h.sym H1 q]; exact h.mono _ _ _ b3 bq b2 c hq.1
  have m6 : H1 ≤ 0 → f H1 H2 ≤ f H1 q := fun c => by rw [h.sym H1 H2, h.sym H1 q]; exact h.anti _ _ _ bq b4 b2 c hq.2
  have m7 : 0 ≤ H2 → f L1 H2 ≤ f H1 H2 := fun c => h.mono _ _ _ b1 b2 b4 c (by omega)
  have m8 : L2 ≤ 0 → f H1 L2 ≤ f L1 L2 := fun c => h.anti _ _ _ b1 b2 b3 c (by omega)
  have z1 : q = 0 → f p q = e := fun c => by rw [c]; exact h.zero p
  have z2 : p = 0 → f p q = e := fun c => by rw [c]; exact z q
  have z3 : L2 = 0 → f L1 L2 = e := fun c => by rw [c]; exact h.zero _
  have z4 : L1 = 0 → f L1 L2 = e := fun c => by rw [c]; exact z _
  have m9 : 0 ≤ H1 → L2 ≤ 0 → f H1 L2 ≤ e := fun c c2 => by
    have g := h.mono L2 0 H1 b3 (by unfold BdZ; omega) b2 c c2
    rw [h.sym L2 H1, z] at g; exact g
  have m10 : L1 ≤ 0 → 0 ≤ H2 → f L1 H2 ≤ e := fun c c2 => by
    have g := h.mono L1 0 H2 b1 (by unfold BdZ; omega) b4 c2 c
    rw [z] at g; exact g
  have z5 : H2 = 0 → f H1 H2 = e := fun c => by rw [c]; exact h.zero _
  have z6 : H1 = 0 → f H1 H2 = e := fun c => by rw [c]; exact z _
  have z7 : L1 = 0 → f L1 q = e := fun c => by rw [c]; exact z _
  have z8 : H1 = 0 → f H1 q = e := fun c => by rw [c]; exact z _
  clear z
  unfold lst
  by_cases s1 : 0 ≤ q
  · have m1 := m1 s1
    by_cases s2 : L1 ≤ 0
    · have m3 := m3 s2
      clear m4 m5 m6
      repeat' split
      all_goals first | omega | (have m2 := m2 (by omega); omega)
    · have m4 := m4 (by omega)
      clear m3 m5 m6
      repeat' split
      all_goals omega
  · have m2 := m2 (by omega)
    by_cases s2 : 0 ≤ H1
    · have m5 := m5 s2
      clear m1 m3 m4 m6
      repeat' split
      all_goals omega
    · have m6 := m6 (by omega)
      clear m1 m3 m4 m5
      repeat' split
      all_goals omega
theorem prZ_top (K : Nat) (L1 H1 L2 H2 : Int) (d1 : -9218868437227405312 ≤ L1 ∧ L1 < 9218868437227405312 ∧ -9218868437227405312 < H1 ∧ H1 ≤ 9218868437227405312 ∧ L1 ≤ H1) (d2 : -9218868437227405312 ≤ L2 ∧ L2 < 9218868437227405312 ∧ -9218868437227405312 < H2 ∧ H2 ≤ 9218868437227405312 ∧ L2 ≤ H2) : lst (prZ K) L1 H1 L2 H2 < 9218868437227405312 := by
  have G := prZ_gd K
  have b1 : BdZ L1 := by unfold BdZ; omega
  have b2 : BdZ H1 := by unfold BdZ; omega
  have b3 : BdZ L2 := by unfold BdZ; omega
  have b4 : BdZ H2 := by unfold BdZ; omega
  -- some point of both that is a number
  obtain ⟨p, hp, fp⟩ : ∃ p, (L1 ≤ p ∧ p ≤ H1) ∧ -9218868437227405312 < p ∧ p < 9218868437227405312 := by
    by_cases c : L1 = -9218868437227405312
    · by_cases c2 : H1 = 9218868437227405312
      · exact ⟨0, by omega, by omega⟩
      · exact ⟨H1, by omega, by omega⟩
    · exact ⟨L1, by omega, by omega⟩
  obtain ⟨q, hq, fq⟩ : ∃ q, (L2 ≤ q ∧ q ≤ H2) ∧ -9218868437227405312 < q ∧ q < 9218868437227405312 := by
    by_cases c : L2 = -9218868437227405312
    · by_cases c2 : H2 = 9218868437227405312
      · exact ⟨0, by omega, by omega⟩
      · exact ⟨H2, by omega, by omega⟩
    · exact ⟨L2, by omega, by omega⟩
  have h := lst_le G L1 H1 L2 H2 p q b1 b2 b3 b4 hp hq
  rw [prZ_fin K p q fp fq] at h
  have := (g53_lohi 1 (2 ^ K) (Nat.two_pow_pos K) (vZ p * vZ q)).2.1
  omega

set_option linter.unusedVariables false
def pII (p q : Int) : Prop := (p ≠ 0 ∧ q ≠ 0) ∧ ((p = 9218868437227405312 ∨ p = -9218868437227405312) ∨ (q = 9218868437227405312 ∨ q = -9218868437227405312))
instance (p q : Int) : Decidable (pII p q) := by unfold pII; infer_instance
def pi9 (p q : Int) : Int := if pII p q then (if (p < 0 ↔ q < 0) then 1 else -1) else 0
def pV9 (p q : Int) : Int := if pII p q then 0 else vZ p * vZ q
def rB (K : Nat) (d i V : Int) : Int := if i = 1 then 9218868437227405312 else if i = -1 then -9218868437227405312 else g53 d 1 (2 ^ K) V
def cmJ (V W : Int) : Int := if V < W then -1 else if W < V then 1 else 0
def cB (i V j W : Int) : Int := if i < j then -1 else if j < i then 1 else if i ≠ 0 then 0 else cmJ V W
theorem pi9_is (p q : Int) : pi9 p q = 0 ∨ pi9 p q = 1 ∨ pi9 p q = -1 := by
  unfold pi9; repeat' split
  all_goals omega
theorem prZ_rB (K : Nat) (p q : Int) (hp : BdZ p) (hq : BdZ q) : prZ K p q = rB K (-1) (pi9 p q) (pV9 p q) := by
  unfold BdZ at hp hq
  by_cases c : pII p q
  · unfold rB pi9 pV9
    rw [if_pos c, if_pos c]
    have c2 := c
    unfold pII at c2
    unfold prZ muZ oM
    rw [if_neg (by omega), if_neg (by omega), if_pos (by omega)]
    unfold sN
    by_cases c3 : p < 0
    · by_cases c4 : q < 0
      · rw [decide_eq_true c3, decide_eq_true c4, if_pos (show (p < 0 ↔ q < 0) by omega)]; rfl
      · rw [decide_eq_true c3, decide_eq_false c4, if_neg (show ¬ (p < 0 ↔ q < 0) by omega)]; rfl
    · by_cases c4 : q < 0
      · rw [decide_eq_false c3, decide_eq_true c4, if_neg (show ¬ (p < 0 ↔ q < 0) by omega)]; rfl
      · rw [decide_eq_false c3, decide_eq_false c4, if_pos (show (p < 0 ↔ q < 0) by omega)]; rfl
  · unfold rB pi9 pV9
    rw [if_neg c, if_neg c, if_neg (by decide), if_neg (by decide)]
    unfold pII at c
    by_cases z : p = 0 ∨ q = 0
    · have e : vZ p * vZ q = 0 := by
        rcases z with z | z
        · rw [z, vZ_zero, Int.zero_mul]
        · rw [z, vZ_zero, Int.mul_zero]
      rw [e]
      unfold prZ g53 gpl
      rw [if_pos z, if_pos rfl]
    · exact prZ_fin K p q (by omega) (by omega)
theorem pII_neg (p q : Int) : pII (-p) q ↔ pII p q := by unfold pII; omega
theorem pi9_neg (p q : Int) : pi9 (-p) q = -(pi9 p q) := by
  unfold pi9
  by_cases c : pII p q
  · rw [if_pos c, if_pos ((pII_neg p q).2 c)]
    unfold pII at c
    by_cases c2 : (p < 0 ↔ q < 0)
    · rw [if_pos c2, if_neg (show ¬ ((-p) < 0 ↔ q < 0) by omega)]
    · rw [if_neg c2, if_pos (show ((-p) < 0 ↔ q < 0) by omega)]; rfl
  · rw [if_neg c, if_neg (fun h => c ((pII_neg p q).1 h))]; rfl
theorem pV9_neg (p q : Int) : pV9 (-p) q = -(pV9 p q) := by
  unfold pV9
  by_cases c : pII p q
  · rw [if_pos c, if_pos ((pII_neg p q).2 c)]; rfl
  · rw [if_neg c, if_neg (fun h => c ((pII_neg p q).1 h)), vZ_neg, Int.neg_mul]
theorem rB_neg (K : Nat) (i V : Int) (hi : i = 0 ∨ i = 1 ∨ i = -1) : -(rB K (-1) (-i) (-V)) = rB K 1 i V := by
  unfold rB
  rcases hi with rfl | rfl | rfl
  · have h := g53_neg 1 1 (2 ^ K) V
    rw [if_neg (by decide), if_neg (by decide), if_neg (by decide), if_neg (by decide), h, Int.neg_neg]
  · rfl
  · rfl
theorem prZ_rB1 (K : Nat) (p q : Int) (hp : BdZ p) (hq : BdZ q) : -(prZ K (-p) q) = rB K 1 (pi9 p q) (pV9 p q) := by
  rw [prZ_rB K (-p) q (bd_neg _ hp) hq, pi9_neg, pV9_neg]
  exact rB_neg K _ _ (pi9_is p q)
theorem rB_mono (K : Nat) (d i V j W : Int) (hi : i = 0 ∨ i = 1 ∨ i = -1) (hj : j = 0 ∨ j = 1 ∨ j = -1) (h : cB i V j W ≤ 0) : rB K d i V ≤ rB K d j W := by
  have b1 := g53_le d 1 (2 ^ K) V
  have b2 := g53_le d 1 (2 ^ K) W
  unfold cB at h
  unfold rB
  rcases hi with rfl | rfl | rfl <;> rcases hj with rfl | rfl | rfl
  · have q : V ≤ W := by
      rw [if_neg (by decide), if_neg (by decide), if_neg (by decide)] at h
      unfold cmJ at h
      rcases Int.lt_or_le W V with c | c
      · rw [if_neg (by omega), if_pos c] at h; omega
      · exact c
    rw [if_neg (by decide), if_neg (by decide), if_neg (by decide), if_neg (by decide)]
    exact g53_mono _ _ _ (Nat.two_pow_pos K) _ _ q
  all_goals first | (exfalso; revert h; decide) | (simp; done) | (simp; omega) | (simp <;> omega)
def lB (a b : Int × Int) : Int × Int := if cB b.1 b.2 a.1 a.2 < 0 then b else a
def gB (a b : Int × Int) : Int × Int := if 0 < cB b.1 b.2 a.1 a.2 then b else a
def okB (a : Int × Int) : Prop := a.1 = 0 ∨ a.1 = 1 ∨ a.1 = -1
theorem cB_flip (i V j W : Int) : cB j W i V = -(cB i V j W) := by
  unfold cB
  rcases Int.lt_trichotomy i j with c | c | c
  · rw [if_neg (show ¬ j < i by omega), if_pos c, if_pos c]; rfl
  · subst c
    rw [if_neg (show ¬ i < i by omega), if_neg (show ¬ i < i by omega), if_neg (show ¬ i < i by omega), if_neg (show ¬ i < i by omega)]
    by_cases z : i = 0
    · rw [if_neg (show ¬ i ≠ 0 by omega), if_neg (show ¬ i ≠ 0 by omega)]
      unfold cmJ
      repeat' split
      all_goals omega
    · rw [if_pos z, if_pos z]; rfl
  · rw [if_pos c, if_neg (show ¬ i < j by omega), if_pos c]
theorem lB_le (K : Nat) (d : Int) (a b : Int × Int) (ha : okB a) (hb : okB b) : rB K d (lB a b).1 (lB a b).2 = min (rB K d a.1 a.2) (rB K d b.1 b.2) ∧ okB (lB a b) := by
  unfold lB
  by_cases c : cB b.1 b.2 a.1 a.2 < 0
  · rw [if_pos c]
    have := rB_mono K d b.1 b.2 a.1 a.2 hb ha (by omega)
    exact ⟨by omega, hb⟩
  · rw [if_neg c]
    have e := cB_flip a.1 a.2 b.1 b.2
    have := rB_mono K d a.1 a.2 b.1 b.2 ha hb (by omega)
    exact ⟨by omega, ha⟩
theorem gB_le (K : Nat) (d : Int) (a b : Int × Int) (ha : okB a) (hb : okB b) : rB K d (gB a b).1 (gB a b).2 = max (rB K d a.1 a.2) (rB K d b.1 b.2) ∧ okB (gB a b) := by
  unfold gB
  by_cases c : 0 < cB b.1 b.2 a.1 a.2
  · rw [if_pos c]
    have e := cB_flip a.1 a.2 b.1 b.2
    have := rB_mono K d a.1 a.2 b.1 b.2 ha hb (by omega)
    exact ⟨by omega, hb⟩
  · rw [if_neg c]
    have := rB_mono K d b.1 b.2 a.1 a.2 hb ha (by omega)
    exact ⟨by omega, ha⟩
theorem lst_min (f : Int → Int → Int) (e : Int) (G : Gd f e) (L1 H1 L2 H2 : Int) (h1 : L1 ≤ H1) (h2 : L2 ≤ H2) (b1 : BdZ L1) (b2 : BdZ H1) (b3 : BdZ L2) (b4 : BdZ H2) : lst f L1 H1 L2 H2 = min (min (f L1 L2) (f L1 H2)) (min (f H1 L2) (f H1 H2)) := by
  have k1 := lst_le G L1 H1 L2 H2 L1 L2 b1 b2 b3 b4 (by omega) (by omega)
  have k2 := lst_le G L1 H1 L2 H2 L1 H2 b1 b2 b3 b4 (by omega) (by omega)
  have k3 := lst_le G L1 H1 L2 H2 H1 L2 b1 b2 b3 b4 (by omega) (by omega)
  have k4 := lst_le G L1 H1 L2 H2 H1 H2 b1 b2 b3 b4 (by omega) (by omega)
  have k5 : lst f L1 H1 L2 H2 = f L1 L2 ∨ lst f L1 H1 L2 H2 = f L1 H2 ∨ lst f L1 H1 L2 H2 = f H1 L2 ∨ lst f L1 H1 L2 H2 = f H1 H2 := by
    unfold lst
    repeat' split
    all_goals omega
  omega
theorem mm4 (a b c d : Int) : max (max (-a) (-b)) (max (-c) (-d)) = -(min (min c d) (min a b)) := by omega
theorem lo_eq (K : Nat) (L1 H1 L2 H2 : Int) (b1 : BdZ L1) (b2 : BdZ H1) (b3 : BdZ L2) (b4 : BdZ H2) (h1 : L1 ≤ H1) (h2 : L2 ≤ H2) : rB K (-1) (lB (lB (pi9 L1 L2, pV9 L1 L2) (pi9 L1 H2, pV9 L1 H2)) (lB (pi9 H1 L2, pV9 H1 L2) (pi9 H1 H2, pV9 H1 H2))).1 (lB (lB (pi9 L1 L2, pV9 L1 L2) (pi9 L1 H2, pV9 L1 H2)) (lB (pi9 H1 L2, pV9 H1 L2) (pi9 H1 H2, pV9 H1 H2))).2 = lst (prZ K) L1 H1 L2 H2 := by
  have l1 := lB_le K (-1) (pi9 L1 L2, pV9 L1 L2) (pi9 L1 H2, pV9 L1 H2) (pi9_is _ _) (pi9_is _ _)
  have l2 := lB_le K (-1) (pi9 H1 L2, pV9 H1 L2) (pi9 H1 H2, pV9 H1 H2) (pi9_is _ _) (pi9_is _ _)
  rw [(lB_le K (-1) _ _ l1.2 l2.2).1, l1.1, l2.1, lst_min (prZ K) 0 (prZ_gd K) L1 H1 L2 H2 h1 h2 b1 b2 b3 b4, prZ_rB K L1 L2 b1 b3, prZ_rB K L1 H2 b1 b4, prZ_rB K H1 L2 b2 b3, prZ_rB K H1 H2 b2 b4]
theorem hi_eq (K : Nat) (L1 H1 L2 H2 : Int) (b1 : BdZ L1) (b2 : BdZ H1) (b3 : BdZ L2) (b4 : BdZ H2) (h1 : L1 ≤ H1) (h2 : L2 ≤ H2) : rB K 1 (gB (gB (pi9 L1 L2, pV9 L1 L2) (pi9 L1 H2, pV9 L1 H2)) (gB (pi9 H1 L2, pV9 H1 L2) (pi9 H1 H2, pV9 H1 H2))).1 (gB (gB (pi9 L1 L2, pV9 L1 L2) (pi9 L1 H2, pV9 L1 H2)) (gB (pi9 H1 L2, pV9 H1 L2) (pi9 H1 H2, pV9 H1 H2))).2 = -(lst (prZ K) (-H1) (-L1) L2 H2) := by
  have l1 := gB_le K 1 (pi9 L1 L2, pV9 L1 L2) (pi9 L1 H2, pV9 L1 H2) (pi9_is _ _) (pi9_is _ _)
  have l2 := gB_le K 1 (pi9 H1 L2, pV9 H1 L2) (pi9 H1 H2, pV9 H1 H2) (pi9_is _ _) (pi9_is _ _)
  rw [(gB_le K 1 _ _ l1.2 l2.2).1, l1.1, l2.1, lst_min (prZ K) 0 (prZ_gd K) (-H1) (-L1) L2 H2 (by omega) h2 (bd_neg _ b2) (bd_neg _ b1) b3 b4]
  rw [← mm4, prZ_rB1 K L1 L2 b1 b3, prZ_rB1 K L1 H2 b1 b4, prZ_rB1 K H1 L2 b2 b3, prZ_rB1 K H1 H2 b2 b4]
theorem times_eq (K : Nat) (L1 H1 L2 H2 : Int) (d1 : VdZ L1 H1) (d2 : VdZ L2 H2) (n1 : L1 ≠ 9218868437227405312) (n2 : L2 ≠ 9218868437227405312) : (lB (lB (pi9 L1 L2, pV9 L1 L2) (pi9 L1 H2, pV9 L1 H2)) (lB (pi9 H1 L2, pV9 H1 L2) (pi9 H1 H2, pV9 H1 H2))).1 ≠ 1 ∧ (gB (gB (pi9 L1 L2, pV9 L1 L2) (pi9 L1 H2, pV9 L1 H2)) (gB (pi9 H1 L2, pV9 H1 L2) (pi9 H1 H2, pV9 H1 H2))).1 ≠ -1 ∧ rB K (-1) (lB (lB (pi9 L1 L2, pV9 L1 L2) (pi9 L1 H2, pV9 L1 H2)) (lB (pi9 H1 L2, pV9 H1 L2) (pi9 H1 H2, pV9 H1 H2))).1 (lB (lB (pi9 L1 L2, pV9 L1 L2) (pi9 L1 H2, pV9 L1 H2)) (lB (pi9 H1 L2, pV9 H1 L2) (pi9 H1 H2, pV9 H1 H2))).2 = mLo K L1 H1 L2 H2 ∧ rB K 1 (gB (gB (pi9 L1 L2, pV9 L1 L2) (pi9 L1 H2, pV9 L1 H2)) (gB (pi9 H1 L2, pV9 H1 L2) (pi9 H1 H2, pV9 H1 H2))).1 (gB (gB (pi9 L1 L2, pV9 L1 L2) (pi9 L1 H2, pV9 L1 H2)) (gB (pi9 H1 L2, pV9 H1 L2) (pi9 H1 H2, pV9 H1 H2))).2 = mHi K L1 H1 L2 H2 := by
  have b1 := d1.lo; have b2 := d1.hi; have b3 := d2.lo; have b4 := d2.hi
  unfold VdZ at d1 d2
  have h1 : L1 ≤ H1 := by omega
  have h2 : L2 ≤ H2 := by omega
  have cE : ¬ (L1 = 9218868437227405312 ∨ L2 = 9218868437227405312) := by omega
  have z1 := prZ_top K L1 H1 L2 H2 (by omega) (by omega)
  have z2 := prZ_top K (-H1) (-L1) L2 H2 (by omega) (by omega)
  have y1 : ∀ X : Int, rB K (-1) 1 X = 9218868437227405312 := fun X => by unfold rB; rw [if_pos rfl]
  have y2 : ∀ X : Int, rB K 1 (-1) X = -9218868437227405312 := fun X => by unfold rB; rw [if_neg (by decide), if_pos rfl]
  have E1 := lo_eq K L1 H1 L2 H2 b1 b2 b3 b4 h1 h2
  have E2 := hi_eq K L1 H1 L2 H2 b1 b2 b3 b4 h1 h2
  unfold mLo mHi
  rw [if_neg cE, if_neg cE]
  clear d1 d2 cE
  refine ⟨fun h => ?_, fun h => ?_, E1, E2⟩
  · rw [h, y1] at E1
    rw [← E1] at z1
    exact absurd z1 (by decide)
  · rw [h, y2] at E2
    omega
end Go.Proofs.YtmgfbalhgfkibaaGreatDoor
