import Derived.Test.YtinohggonicjhaaGreatDoorKIYv
namespace Go.Proofs.YtinohggonicjhaaGreatDoor
open Go.RowKit
set_option maxRecDepth 20000 in
set_option maxHeartbeats 1000000 in
theorem clo0_ (X Y E bp : Nat) (E1 E2 : Bool) (t1 : (FloatKind.f64.format.order X 0 == some Ordering.eq) = E1) (t2 : (FloatKind.f64.format.order Y 0 == some Ordering.eq) = E2) (q : (E1 || E2) = true) (w : World) (hc : w.cell? ⟨bp, 0, none⟩ = some (.float .f64 E)) : Calls Tryz.prog 49 #[.float .f64 X, .float .f64 Y, .pointer (some ⟨bp, 0, none⟩)] w fun e w' => e = .returned (.float .f64 E) ∧ Kp w w' := by
  cases E1 <;> cases E2 <;> first | (exfalso; revert q; decide) | skip
  all_goals (
    go_enter Tryz.func49, Tryz.ntmps49
    go_wp2
    exact bodyPost_ret (v := .float .f64 E) (by simp [results, Tryz.results49, go_sem]) rfl ⟨rfl, (Kp.refl w)⟩)
set_option maxRecDepth 20000 in
set_option maxHeartbeats 1000000 in
theorem clo1_ (X Y Z E bp : Nat) (t1 : (FloatKind.f64.format.order X 0 == some Ordering.eq) = false) (t2 : (FloatKind.f64.format.order Y 0 == some Ordering.eq) = false) (w : World) (hc : w.cell? ⟨bp, 0, none⟩ = some (.float .f64 E)) (hM : Calls Tryz.prog 50 #[.int .i64 (-1), .float .f64 X, .float .f64 Y, .float .f64 E] w fun e w' => e = .returned (.float .f64 Z) ∧ Kp w w') : Calls Tryz.prog 49 #[.float .f64 X, .float .f64 Y, .pointer (some ⟨bp, 0, none⟩)] w fun e w' => e = .returned (.float .f64 Z) ∧ Kp w w' := by
  go_enter Tryz.func49, Tryz.ntmps49
  go_wp2_with (first | (go_at_call 50; refine hM.mono ?_; rintro e w1 ⟨rfl, g1⟩))
  exact bodyPost_ret (v := .float .f64 Z) (by simp [results, Tryz.results49, go_sem]) rfl ⟨rfl, g1⟩
theorem eq0_pw (x : Int) (hx : BdZ x) : (FloatKind.f64.format.order (pw x) 0 == some Ordering.eq) = decide (x = 0) := by
  have h := peq9 x 0 hx (by unfold BdZ; omega)
  rw [show pw 0 = 0 from rfl] at h
  exact h
theorem lt0_pw (x : Int) (hx : BdZ x) : (FloatKind.f64.format.order (pw x) 0 == some Ordering.lt) = decide (x < 0) := by
  have h := plt9 x 0 hx (by unfold BdZ; omega)
  rw [show pw 0 = 0 from rfl] at h
  exact h
theorem gt0_pw (x : Int) (hx : BdZ x) : (FloatKind.f64.format.order (pw x) 0 == some Ordering.gt) = decide (0 < x) := by
  have h := pgt9 x 0 hx (by unfold BdZ; omega)
  rw [show pw 0 = 0 from rfl] at h
  exact h
theorem le0_pw (x : Int) (hx : BdZ x) : (FloatKind.f64.format.order (pw x) 0 == some Ordering.lt || FloatKind.f64.format.order (pw x) 0 == some Ordering.eq) = decide (x ≤ 0) := by
  have h := ple9 x 0 hx (by unfold BdZ; omega)
  rw [show pw 0 = 0 from rfl] at h
  exact h
theorem cloP_ (K : Nat) (hK : K = 1074) (x y e : Int) (bp : Nat) (hx : BdZ x) (hy : BdZ y) (he : BdZ e) (hb : ((x = 9218868437227405312 ∨ x = -9218868437227405312) ∨ (y = 9218868437227405312 ∨ y = -9218868437227405312)) → (e = 9218868437227405312 ∨ e = -9218868437227405312) → x ≠ 0 → y ≠ 0 → ((x < 0 ↔ y < 0) ↔ 0 < e)) (w : World) (hT : TT w) (hc : w.cell? ⟨bp, 0, none⟩ = some (.float .f64 (pw e))) : Calls Tryz.prog 49 #[.float .f64 (pw x), .float .f64 (pw y), .pointer (some ⟨bp, 0, none⟩)] w fun v w' => v = .returned (.float .f64 (pw (fmZ K e x y))) ∧ Kp w w' := by
  unfold fmZ
  by_cases c : x = 0 ∨ y = 0
  · rw [if_pos c]
    exact clo0_ _ _ _ bp _ _ (eq0_pw x hx) (eq0_pw y hy) (by
      rcases c with c | c
      · rw [decide_eq_true c]; rfl
      · rw [decide_eq_true c]; simp) w hc
  · rw [if_neg c]
    refine clo1_ _ _ _ _ bp ?_ ?_ w hc (fmaP_ K hK (-1) x y e (by omega) (by omega) hx hy he (by omega) (by omega) (fun h1 h2 => hb h1 h2 (by omega) (by omega)) w hT)
    · rw [eq0_pw x hx]; exact decide_eq_false (by omega)
    · rw [eq0_pw y hy]; exact decide_eq_false (by omega)

theorem lsF9_ (g : Int → Int → Int) (L1 H1 L2 H2 : Int) (bp : Nat) (b1 : BdZ L1) (b2 : BdZ H1) (b3 : BdZ L2) (b4 : BdZ H2) (w : World) (h1 : 0 < H1 → L2 < 0 → ∀ W : World, Kp w W → Calls Tryz.prog 49 #[.float .f64 (pw H1), .float .f64 (pw L2), .pointer (some ⟨bp, 0, none⟩)] W fun e w' => e = .returned (.float .f64 (pw (g H1 L2))) ∧ Kp W w') (h2 : L1 < 0 → 0 < H2 → ∀ W : World, Kp w W → Calls Tryz.prog 49 #[.float .f64 (pw L1), .float .f64 (pw H2), .pointer (some ⟨bp, 0, none⟩)] W fun e w' => e = .returned (.float .f64 (pw (g L1 H2))) ∧ Kp W w') (h3 : H1 ≤ 0 → H2 ≤ 0 → ¬ (L1 < 0 ∧ 0 < H2) → ∀ W : World, Kp w W → Calls Tryz.prog 49 #[.float .f64 (pw H1), .float .f64 (pw H2), .pointer (some ⟨bp, 0, none⟩)] W fun e w' => e = .returned (.float .f64 (pw (g H1 H2))) ∧ Kp W w') (h4 : ¬ (L1 < 0 ∧ 0 < H2) → ¬ (0 < H1 ∧ L2 < 0) → ¬ (H1 ≤ 0 ∧ H2 ≤ 0) → ∀ W : World, Kp w W → Calls Tryz.prog 49 #[.float .f64 (pw L1), .float .f64 (pw L2), .pointer (some ⟨bp, 0, none⟩)] W fun e w' => e = .returned (.float .f64 (pw (g L1 L2))) ∧ Kp W w') (hg1 : BdZ (g H1 L2)) (hg2 : BdZ (g L1 H2)) : Calls Tryz.prog 38 #[.agg #[.float .f64 (pw L1), .float .f64 (pw H1)], .agg #[.float .f64 (pw L2), .float .f64 (pw H2)], .func (.func 49) #[] #[.pointer (some ⟨bp, 0, none⟩)]] w fun e w' => e = .returned (.float .f64 (pw (lst g L1 H1 L2 H2))) ∧ Kp w w' := by
  unfold lst
  by_cases c1 : L1 < 0 ∧ 0 < H1 ∧ L2 < 0 ∧ 0 < H2
  · rw [if_pos c1]
    exact lsF1_ _ _ _ _ _ _ _ bp _ _ _ _ (lt0_pw L1 b1) (gt0_pw H1 b2) (lt0_pw L2 b3) (gt0_pw H2 b4) (by simp [c1]) w (fun x y z => ∀ W : World, Kp w W → Calls Tryz.prog 49 #[.float .f64 x, .float .f64 y, .pointer (some ⟨bp, 0, none⟩)] W fun e w' => e = .returned (.float .f64 z) ∧ Kp W w') (fun _ _ _ h => h) (h1 c1.2.1 c1.2.2.1) (h2 c1.1 c1.2.2.2) (min9_ _ _ hg1 hg2)
  rw [if_neg c1]
  have q1 : (decide (L1 < 0) && decide (0 < H1) && decide (L2 < 0) && decide (0 < H2)) = false := by
    by_cases e1 : L1 < 0 <;> by_cases e2 : 0 < H1 <;> by_cases e3 : L2 < 0 <;> by_cases e4 : 0 < H2 <;> simp [e1, e2, e3, e4] <;> omega
  by_cases c2 : L1 < 0 ∧ 0 < H2
  · rw [if_pos c2]
    have hm := min9_ 9218868437227405312 (g L1 H2) (by unfold BdZ; omega) hg2
    rw [pw_I, show min 9218868437227405312 (g L1 H2) = g L1 H2 from by unfold BdZ at hg2; omega] at hm
    exact lsF2_ _ _ _ _ _ _ bp _ _ _ _ (lt0_pw L1 b1) (gt0_pw H1 b2) (lt0_pw L2 b3) (gt0_pw H2 b4) q1 (by simp [c2]) w (fun x y z => ∀ W : World, Kp w W → Calls Tryz.prog 49 #[.float .f64 x, .float .f64 y, .pointer (some ⟨bp, 0, none⟩)] W fun e w' => e = .returned (.float .f64 z) ∧ Kp W w') (fun _ _ _ h => h) (h2 c2.1 c2.2) trivial hm
  rw [if_neg c2]
  have q2 : (decide (L1 < 0) && decide (0 < H2)) = false := by
    by_cases e1 : L1 < 0 <;> by_cases e4 : 0 < H2 <;> simp [e1, e4] <;> omega
  by_cases c3 : 0 < H1 ∧ L2 < 0
  · rw [if_pos c3]
    exact lsF3_ _ _ _ _ _ bp _ _ _ _ (lt0_pw L1 b1) (gt0_pw H1 b2) (lt0_pw L2 b3) (gt0_pw H2 b4) q1 q2 (by simp [c3]) w (fun x y z => ∀ W : World, Kp w W → Calls Tryz.prog 49 #[.float .f64 x, .float .f64 y, .pointer (some ⟨bp, 0, none⟩)] W fun e w' => e = .returned (.float .f64 z) ∧ Kp W w') (fun _ _ _ h => h) (h1 c3.1 c3.2) trivial
  rw [if_neg c3]
  have q3 : (decide (0 < H1) && decide (L2 < 0)) = false := by
    by_cases e1 : 0 < H1 <;> by_cases e4 : L2 < 0 <;> simp [e1, e4] <;> omega
  by_cases c4 : H1 ≤ 0 ∧ H2 ≤ 0
  · rw [if_pos c4]
    exact lsF4_ _ _ _ _ _ bp _ _ _ _ _ _ (lt0_pw L1 b1) (gt0_pw H1 b2) (lt0_pw L2 b3) (gt0_pw H2 b4) (le0_pw H1 b2) (le0_pw H2 b4) q1 q2 q3 (by simp [c4]) w (fun x y z => ∀ W : World, Kp w W → Calls Tryz.prog 49 #[.float .f64 x, .float .f64 y, .pointer (some ⟨bp, 0, none⟩)] W fun e w' => e = .returned (.float .f64 z) ∧ Kp W w') (fun _ _ _ h => h) (h3 c4.1 c4.2 c2) trivial
  rw [if_neg c4]
  have q4 : (decide (H1 ≤ 0) && decide (H2 ≤ 0)) = false := by
    by_cases e1 : H1 ≤ 0 <;> by_cases e4 : H2 ≤ 0 <;> simp [e1, e4] <;> omega
  exact lsF5_ _ _ _ _ _ bp _ _ _ _ _ _ (lt0_pw L1 b1) (gt0_pw H1 b2) (lt0_pw L2 b3) (gt0_pw H2 b4) (le0_pw H1 b2) (le0_pw H2 b4) q1 q2 q3 q4 w (fun x y z => ∀ W : World, Kp w W → Calls Tryz.prog 49 #[.float .f64 x, .float .f64 y, .pointer (some ⟨bp, 0, none⟩)] W fun e w' => e = .returned (.float .f64 z) ∧ Kp W w') (fun _ _ _ h => h) (h4 c2 c3 c4) trivial
set_option linter.unusedVariables false

theorem opP_pw (x : Int) (h : BdZ x) : opP (pw x) = pw (-x) := by
  have h2 := abs_pw x h
  unfold opP pw Fq.wD
  rcases Int.lt_trichotomy x 0 with c | c | c
  · rw [decide_eq_true c, decide_eq_false (show ¬ -x < 0 by omega), Int.natAbs_neg]
    simp; repeat' split
    all_goals omega
  · subst c; rfl
  · rw [decide_eq_false (show ¬ x < 0 by omega), decide_eq_true (show -x < 0 by omega), Int.natAbs_neg]
    simp; repeat' split
    all_goals omega
theorem bd_neg (x : Int) (h : BdZ x) : BdZ (-x) := by unfold BdZ at *; omega
theorem vd_neg (L H : Int) (h : VdZ L H) : VdZ (-H) (-L) := by unfold VdZ at *; omega
theorem minus9_ (x : Int) (h : BdZ x) (w : World) : Calls Tryz.prog 28 #[.float .f64 (pw x)] w fun e w' => e = .returned (.float .f64 (pw (-x))) ∧ w' = w := by
  have g := minus6_ (decide (x < 0)) x.natAbs (abs_pw x h) w
  have e := opP_pw x h
  unfold pw at e ⊢
  rw [e] at g
  exact g
theorem neg9_ (a b : Nat) (L H : Int) (hx : Rd a b L H) (w : World) : Calls Tryz.prog 29 #[.agg #[.float .f64 a, .float .f64 b]] w fun e w' => e = .returned (.agg #[.float .f64 (pw (-H)), .float .f64 (pw (-L))]) ∧ Kp w w' :=
  neg6c_ a b _ _ _ _ hx.call (minus9_ L hx.vd.lo) (minus9_ H hx.vd.hi) w
theorem empty9_ (w : World) : Calls Tryz.prog 17 #[] w fun e w' => e = .returned (.agg #[.float .f64 9218868437227405312, .float .f64 18442240474082181120]) ∧ Kp w w' := by
  refine (Fq.empty6_ w).mono ?_
  exact fun e w' h => ⟨h.1, by first | exact h.2 | (rw [h.2]; exact (Kp.refl _).alloc _)⟩
def mLo (K : Nat) (L1 H1 L2 H2 : Int) : Int := if L1 = 9218868437227405312 ∨ L2 = 9218868437227405312 then 9218868437227405312 else lst (prZ K) L1 H1 L2 H2
def mHi (K : Nat) (L1 H1 L2 H2 : Int) : Int := if L1 = 9218868437227405312 ∨ L2 = 9218868437227405312 then -9218868437227405312 else -(lst (prZ K) (-H1) (-L1) L2 H2)

set_option linter.unusedVariables false
def vZ (z : Int) : Int := Iv (decide (z < 0)) z.natAbs
theorem vZ_pos (z : Int) (h : 0 ≤ z) : vZ z = ((Fq.vV Ieee.double z.natAbs : Nat) : Int) := by
  unfold vZ Iv
  rw [decide_eq_false (show ¬ z < 0 by omega)]; rfl
theorem vV0X : Fq.vV Ieee.double 0 = 0 := by decide
theorem vZ_neg (z : Int) : vZ (-z) = -vZ z := by
  unfold vZ Iv
  rw [Int.natAbs_neg]
  by_cases z0 : z = 0
  · rw [z0]; simp [vV0X]
  · by_cases c : z < 0
    · rw [decide_eq_true c, decide_eq_false (show ¬ -z < 0 by omega)]; simp
    · rw [decide_eq_false c, decide_eq_true (show -z < 0 by omega)]; simp
theorem vV_place (E S : Nat) (h1 : S ≤ 2 ^ 53) (h2 : E = 0 ∨ 2 ^ (53 - 1) ≤ S) : Fq.vV Ieee.double (E * 2 ^ (53 - 1) + S) = S * 2 ^ E := by
  have hb : Ieee.double.binade = 4503599627370496 := by decide
  have p1 : (2 : Nat) ^ (53 - 1) = 4503599627370496 := by decide
  have p2 : (2 : Nat) ^ 53 = 9007199254740992 := by decide
  rw [p1] at h2 ⊢
  rw [p2] at h1
  unfold Fq.vV Fq.mM Fq.eE
  rw [hb]
  by_cases c : E * 4503599627370496 + S < 4503599627370496
  · have hE : E = 0 := by omega
    rw [if_pos c, if_pos c, hE]; simp
  · rw [if_neg c, if_neg c]
    by_cases c2 : S = 9007199254740992
    · rw [show (E * 4503599627370496 + S) / 4503599627370496 - 1 = E + 1 from by omega, show (E * 4503599627370496 + S) % 4503599627370496 = 0 from by omega, Nat.pow_succ, c2]
      generalize 2 ^ E = P
      omega
    · rw [show (E * 4503599627370496 + S) / 4503599627370496 - 1 = E from by omega, show 4503599627370496 + (E * 4503599627370496 + S) % 4503599627370496 = S from by omega]
theorem g53_tight (c1 c2 : Nat) (hc : 0 < c2) (V : Int) : TS 9218868437227405312 (Fq.vV Ieee.double) (V * c1) (c2 : Int) (g53 (-1) c1 c2 V) (g53 1 c1 c2 V) (g53 0 c1 c2 V) := gpl_tight 53 2098 9218868437227405311 9218868437227405312 (Fq.vV Ieee.double) vV_place c1 c2 hc (by decide) (by decide) (by decide) (by decide) V

theorem g53_lohi (c1 c2 : Nat) (hc : 0 < c2) (V : Int) : g53 (-1) c1 c2 V ≤ g53 1 c1 c2 V ∧ g53 (-1) c1 c2 V < 9218868437227405312 ∧ -9218868437227405312 < g53 1 c1 c2 V := by
  have h := g53_tight c1 c2 hc V vZ vZ_pos vZ_neg
  have b1 := g53_le (-1) c1 c2 V
  have b2 := g53_le 1 c1 c2 V
  rcases h with ⟨h1, _, h3, h4, _⟩ | ⟨h1, h2, h3, _⟩ <;> omega
theorem vZ_sn (z : Int) : Iv (sN z) z.natAbs = vZ z := rfl
theorem iv_le9 (n n' : Bool) (m m' : Nat) (h : Fq.plz n m ≤ Fq.plz n' m') : Iv n m ≤ Iv n' m' := by
  have h1 := Fq.vV_lt_iff Ieee.double m m'
  have h2 := Fq.vV_lt_iff Ieee.double m' m
  have h3 := vV_zero m
  have h4 := vV_zero m'
  unfold Iv
  unfold Fq.plz at h
  cases n <;> cases n' <;> simp at h ⊢ <;> omega
theorem vZ_le (x y : Int) (h : x ≤ y) : vZ x ≤ vZ y := iv_le9 _ _ _ _ (by rw [plz_pw, plz_pw]; exact h)
theorem vZ_zero : vZ 0 = 0 := by rw [vZ_pos 0 (by omega)]; exact congrArg _ vV0X
theorem vZ_nn (x : Int) (h : 0 ≤ x) : 0 ≤ vZ x := by rw [vZ_pos x h]; omega
theorem prZ_fin (K : Nat) (x y : Int) (hx : -9218868437227405312 < x ∧ x < 9218868437227405312) (hy : -9218868437227405312 < y ∧ y < 9218868437227405312) : prZ K x y = g53 (-1) 1 (2 ^ K) (vZ x * vZ y) := by
  unfold prZ
  by_cases c : x = 0 ∨ y = 0
  · rw [if_pos c]
    have e : vZ x * vZ y = 0 := by
      rcases c with c | c
      · rw [c, vZ_zero, Int.zero_mul]
      · rw [c, vZ_zero, Int.mul_zero]
    rw [e]; unfold g53 gpl; rw [if_pos rfl]
  · rw [if_neg c]
    unfold muZ oM
    rw [if_neg (by omega), if_neg (by omega), vZ_sn, vZ_sn]; rfl
theorem prZ_inf (K : Nat) (x : Int) (hx : BdZ x) : prZ K x 9218868437227405312 = if x < 0 then -9218868437227405312 else if x = 0 then 0 else 9218868437227405312 := by
  unfold prZ
  unfold BdZ at hx
  by_cases c : x = 0
  · rw [if_pos (Or.inl c), if_neg (by omega), if_pos c]
  · rw [if_neg (by omega), if_neg c]
    unfold muZ oM
    rw [if_neg (by omega), if_pos (by omega)]
    unfold sN
    by_cases n : x < 0
    · rw [decide_eq_true n, if_pos n]; rfl
    · rw [decide_eq_false n, if_neg n]; rfl
theorem prZ_lo (K : Nat) (y : Int) (hy : 0 < y ∧ y ≤ 9218868437227405312) : prZ K (-9218868437227405312) y = -9218868437227405312 := by
  unfold prZ
  rw [if_neg (by omega)]
  unfold muZ oM
  rw [if_neg (by omega), if_pos (by omega)]
  unfold sN
  rw [decide_eq_true (by omega), decide_eq_false (by omega)]; rfl
theorem prZ_hi (K : Nat) (y : Int) (hy : 0 < y ∧ y ≤ 9218868437227405312) : prZ K 9218868437227405312 y = 9218868437227405312 := by
  unfold prZ
  rw [if_neg (by omega)]
  unfold muZ oM
  rw [if_neg (by omega), if_pos (by omega)]
  unfold sN
  rw [decide_eq_false (by omega), decide_eq_false (by omega)]; rfl
structure Gd (f : Int → Int → Int) (e : Int) : Prop where
  sym : ∀ x y, f x y = f y x
  neg : ∀ x y, f (-x) y = f x (-y)
  zero : ∀ x, f x 0 = e
  mono : ∀ x x' y, BdZ x → BdZ x' → BdZ y → 0 ≤ y → x ≤ x' → f x y ≤ f x' y
theorem Gd.anti {f : Int → Int → Int} {e : Int} (h : Gd f e) (x x' y : Int) (hx : BdZ x) (hx' : BdZ x') (hy : BdZ y) (y0 : y ≤ 0) (hl : x ≤ x') : f x' y ≤ f x y := by
  have g := h.mono (-x') (-x) (-y) (bd_neg _ hx') (bd_neg _ hx) (bd_neg _ hy) (by omega) (by omega)
  rw [h.neg, h.neg, Int.neg_neg] at g
  exact g
theorem prZ_gd (K : Nat) : Gd (prZ K) 0 := by
  refine ⟨prZ_sym K, prZ_neg K, fun x => by unfold prZ; rw [if_pos (Or.inr rfl)], ?_⟩
  intro x x' y hx hx' hy y0 hl
  by_cases c0 : y = 0
  · rw [c0]; unfold prZ; rw [if_pos (Or.inr rfl), if_pos (Or.inr rfl)]; omega
  by_cases c1 : y = 9218868437227405312
  · rw [c1, prZ_inf K x hx, prZ_inf K x' hx']
    repeat' split
    all_goals omega
  unfold BdZ at hx hx' hy
  by_cases c2 : x = -9218868437227405312
  · rw [c2, prZ_lo K y (by omega)]; exact (prZ_bd K x' y).1
  by_cases c3 : x' = 9218868437227405312
  · rw [c3, prZ_hi K y (by omega)]; exact (prZ_bd K x y).2
  rw [prZ_fin K x y (by omega) (by omega), prZ_fin K x' y (by omega) (by omega)]
  exact g53_mono _ _ _ (Nat.two_pow_pos K) _ _ (Int.mul_le_mul_of_nonneg_right (vZ_le x x' hl) (vZ_nn y y0))
theorem lst_le {f : Int → Int → Int} {e : Int} (h : Gd f e) (L1 H1 L2 H2 p q : Int) (b1 : BdZ L1) (b2 : BdZ H1) (b3 : BdZ L2) (b4 : BdZ H2) (hp : L1 ≤ p ∧ p ≤ H1) (hq : L2 ≤ q ∧ q ≤ H2) : lst f L1 H1 L2 H2 ≤ f p q := by
  have bp : BdZ p := by unfold BdZ at *; omega
  have bq : BdZ q := by unfold BdZ at *; omega
  have z : ∀ x, f 0 x = e := fun x => by rw [h.sym]; exact h.zero x
  have m1 : 0 ≤ q → f L1 q ≤ f p q := fun c => h.mono _ _ _ b1 bp bq c hp.1
  have m2 : q ≤ 0 → f H1 q ≤ f p q := fun c => h.anti _ _ _ bp b2 bq c hp.2
  have m3 : L1 ≤ 0 → f L1 H2 ≤ f L1 q := fun c => by rw [h.sym L1 H2, h.sym L1 q]; exact h.anti _ _ _ bq b4 b1 c hq.2
  have m4 : 0 ≤ L1 → f L1 L2 ≤ f L1 q := fun c => by rw [h.sym L1 L2, h.sym L1 q]; exact h.mono _ _ _ b3 bq b1 c hq.1
  have m5 : 0 ≤ H1 → f H1 L2 ≤ f H1 q := fun c => by rw [h.sym H1 L2, h.sym H1 q]; exact h.mono _ _ _ b3 bq b2 c hq.1
  have m6 : H1 ≤ 0 → f H1 H2 ≤ f H1 q := fun c => by rw [h.sym H1 H2, h.sym H1 q]; exact h.anti _ _ _ bq b4 b2 c hq.2
  have m7 : 0 ≤ H2 → f L1 H2 ≤ f H1 H2 := fun c => h.mono _ _ _ b1 b2 b4 c (by omega)
  have m8 : L2 ≤ 0 → f H1 L2 ≤ f L1 L2 := fun c => h.anti _ _ _ b1 b2 b3 c (by omega)
  have z1 : q = 0 → f p q = e := fun c => by rw [c]; exact h.zero p
  have z2 : p = 0 → f p q = e := fun c => by rw [c]; exact z q
  have z3 : L2 = 0 → f L1 L2 = e := fun c => by rw [c]; exact h.zero _
  have z4 : L1 = 0 → f L1 L2 = e := fun c => by rw [c]; exact z _
  have m9 : 0 ≤ H1 → L2 ≤ 0 → f H1 L2 ≤ e := fun c c2 => by
    have g := h.mono L2 0 H1 b3 (by unfold BdZ; omega) b2 c c2
    rw [h.sym L2 H1, z] at g; exact g
  have m10 : L1 ≤ 0 → 0 ≤ H2 → f L1 H2 ≤ e := fun c c2 => by
    have g := h.mono L1 0 H2 b1 (by unfold BdZ; omega) b4 c2 c
    rw [z] at g; exact g
  have z5 : H2 = 0 → f H1 H2 = e := fun c => by rw [c]; exact h.zero _
  have z6 : H1 = 0 → f H1 H2 = e := fun c => by rw [c]; exact z _
  have z7 : L1 = 0 → f L1 q = e := fun c => by rw [c]; exact z _
  have z8 : H1 = 0 → f H1 q = e := fun c => by rw [c]; exact z _
  clear z
  unfold lst
  by_cases s1 : 0 ≤ q
  · have m1 := m1 s1
    by_cases s2 : L1 ≤ 0
    · have m3 := m3 s2
      clear m4 m5 m6
      repeat' split
      all_goals first | omega | (have m2 := m2 (by omega); omega)
    · have m4 := m4 (by omega)
      clear m3 m5 m6
      repeat' split
      all_goals omega
  · have m2 := m2 (by omega)
    by_cases s2 : 0 ≤ H1
    · have m5 := m5 s2
      clear m1 m3 m4 m6
      repeat' split
      all_goals omega
    · have m6 := m6 (by omega)
      clear m1 m3 m4 m5
      repeat' split
      all_goals omega
theorem prZ_top (K : Nat) (L1 H1 L2 H2 : Int) (d1 : -9218868437227405312 ≤ L1 ∧ L1 < 9218868437227405312 ∧ -9218868437227405312 < H1 ∧ H1 ≤ 9218868437227405312 ∧ L1 ≤ H1) (d2 : -9218868437227405312 ≤ L2 ∧ L2 < 9218868437227405312 ∧ -9218868437227405312 < H2 ∧ H2 ≤ 9218868437227405312 ∧ L2 ≤ H2) : lst (prZ K) L1 H1 L2 H2 < 9218868437227405312 := by
  have G := prZ_gd K
  have b1 : BdZ L1 := by unfold BdZ; omega
  have b2 : BdZ H1 := by unfold BdZ; omega
  have b3 : BdZ L2 := by unfold BdZ; omega
  have b4 : BdZ H2 := by unfold BdZ; omega
  -- some point of both that is a number
  obtain ⟨p, hp, fp⟩ : ∃ p, (L1 ≤ p ∧ p ≤ H1) ∧ -9218868437227405312 < p ∧ p < 9218868437227405312 := by
    by_cases c : L1 = -9218868437227405312
    · by_cases c2 : H1 = 9218868437227405312
      · exact ⟨0, by omega, by omega⟩
      · exact ⟨H1, by omega, by omega⟩
    · exact ⟨L1, by omega, by omega⟩
  obtain ⟨q, hq, fq⟩ : ∃ q, (L2 ≤ q ∧ q ≤ H2) ∧ -9218868437227405312 < q ∧ q < 9218868437227405312 := by
    by_cases c : L2 = -9218868437227405312
    · by_cases c2 : H2 = 9218868437227405312
      · exact ⟨0, by omega, by omega⟩
      · exact ⟨H2, by omega, by omega⟩
    · exact ⟨L2, by omega, by omega⟩
  have h := lst_le G L1 H1 L2 H2 p q b1 b2 b3 b4 hp hq
  rw [prZ_fin K p q fp fq] at h
  have := (g53_lohi 1 (2 ^ K) (Nat.two_pow_pos K) (vZ p * vZ q)).2.1
  omega
set_option linter.unusedVariables false
theorem iv_lt9 (n n' : Bool) (m m' : Nat) (h : Fq.plz n m < Fq.plz n' m') : Iv n m < Iv n' m' := by
  have h1 := Fq.vV_lt_iff Ieee.double m m'
  have h2 := Fq.vV_lt_iff Ieee.double m' m
  have h3 := vV_zero m
  have h4 := vV_zero m'
  unfold Iv
  unfold Fq.plz at h
  cases n <;> cases n' <;> simp at h ⊢ <;> omega
theorem vZ_lt (x y : Int) (h : x < y) : vZ x < vZ y := iv_lt9 _ _ _ _ (by rw [plz_pw, plz_pw]; exact h)
theorem vZ_inj (x y : Int) (h : vZ x = vZ y) : x = y := by
  rcases Int.lt_trichotomy x y with c | c | c
  · have := vZ_lt x y c; omega
  · exact c
  · have := vZ_lt y x c; omega
theorem g53_exact (K : Nat) (d e : Int) (he : -9218868437227405312 < e ∧ e < 9218868437227405312) (hd : d = -1 ∨ d = 1) : g53 d 1 (2 ^ K) (vZ e * ((2 ^ K : Nat) : Int)) = e := by
  have t := g53_tight 1 (2 ^ K) (Nat.two_pow_pos K) (vZ e * ((2 ^ K : Nat) : Int)) vZ vZ_pos vZ_neg
  have P : (0 : Int) < ((2 ^ K : Nat) : Int) := by have := Nat.two_pow_pos K; omega
  generalize ((2 ^ K : Nat) : Int) = Q at t P ⊢
  rw [show vZ e * Q * ((1 : Nat) : Int) = vZ e * Q from by simp] at t
  have low : -9218868437227405312 < g53 (-1) 1 (2 ^ K) (vZ e * Q) → vZ (g53 (-1) 1 (2 ^ K) (vZ e * Q)) * Q < vZ e * Q → g53 (-1) 1 (2 ^ K) (vZ e * Q) < e := fun _ h => by
    have h6 := Int.lt_of_mul_lt_mul_right h (by omega)
    rcases Int.lt_or_le (g53 (-1) 1 (2 ^ K) (vZ e * Q)) e with c | c
    · exact c
    · have := vZ_le _ _ c
      omega
  have hig : vZ e * Q < vZ (g53 1 1 (2 ^ K) (vZ e * Q)) * Q → e < g53 1 1 (2 ^ K) (vZ e * Q) := fun h => by
    have h6 := Int.lt_of_mul_lt_mul_right h (by omega)
    rcases Int.lt_or_le e (g53 1 1 (2 ^ K) (vZ e * Q)) with c | c
    · exact c
    · have := vZ_le _ _ c
      omega
  rcases t with ⟨h1, _, h3, h4, h5⟩ | ⟨h1, h2, h3, h4, h5, _⟩
  · have h6 : vZ (g53 (-1) 1 (2 ^ K) (vZ e * Q)) = vZ e := Int.eq_of_mul_eq_mul_right (by omega) h5
    have h7 := vZ_inj _ _ h6
    rcases hd with rfl | rfl
    · exact h7
    · rw [← h1]; exact h7
  · exfalso
    have h6 : g53 (-1) 1 (2 ^ K) (vZ e * Q) < e := by
      by_cases c : -9218868437227405312 < g53 (-1) 1 (2 ^ K) (vZ e * Q)
      · exact low c (h4 c)
      · omega
    have h7 : e < g53 1 1 (2 ^ K) (vZ e * Q) := by
      by_cases c : g53 1 1 (2 ^ K) (vZ e * Q) < 9218868437227405312
      · exact hig (h5 c)
      · omega
    omega
theorem fmZ_fin (K : Nat) (e x y : Int) (hx : -9218868437227405312 < x ∧ x < 9218868437227405312) (hy : -9218868437227405312 < y ∧ y < 9218868437227405312) (he : -9218868437227405312 < e ∧ e < 9218868437227405312) : fmZ K e x y = g53 (-1) 1 (2 ^ K) (vZ x * vZ y + vZ e * ((2 ^ K : Nat) : Int)) := by
  unfold fmZ
  by_cases c : x = 0 ∨ y = 0
  · rw [if_pos c]
    have z : vZ x * vZ y = 0 := by
      rcases c with c | c
      · rw [c, vZ_zero, Int.zero_mul]
      · rw [c, vZ_zero, Int.mul_zero]
    rw [z, Int.zero_add, g53_exact K (-1) e he (Or.inl rfl)]
  · rw [if_neg c]
    unfold fuZ oF
    rw [if_pos (by omega), if_pos (by omega), vZ_sn, vZ_sn, vZ_sn]; rfl
theorem fmZ_mi (K : Nat) (x y : Int) (hx : -9218868437227405312 < x ∧ x < 9218868437227405312) (hy : -9218868437227405312 < y ∧ y < 9218868437227405312) : fmZ K (-9218868437227405312) x y = -9218868437227405312 := by
  unfold fmZ
  by_cases c : x = 0 ∨ y = 0
  · rw [if_pos c]
  · rw [if_neg c]
    unfold fuZ oF
    rw [if_pos (by omega), if_neg (by omega), if_neg (by omega)]
    unfold sN
    rw [decide_eq_true (show (-9218868437227405312 : Int) < 0 by omega)]; rfl
theorem fmZ_inf (K : Nat) (e x y : Int) (hx : BdZ x) (hy : BdZ y) (zx : x ≠ 0) (zy : y ≠ 0) (hI : (x = 9218868437227405312 ∨ x = -9218868437227405312) ∨ (y = 9218868437227405312 ∨ y = -9218868437227405312)) (he : -9218868437227405312 ≤ e ∧ e < 9218868437227405312) : fmZ K e x y = if (x < 0 ↔ y < 0) then (if e = -9218868437227405312 then 0 else 9218868437227405312) else -9218868437227405312 := by
  unfold fmZ
  unfold BdZ at hx hy
  rw [if_neg (by omega)]
  unfold fuZ oF
  rw [if_neg (by omega), if_neg (by omega)]
  have key : ∀ s : Bool, (if 9218868437227405312 < e.natAbs ∨ (e.natAbs = 9218868437227405312 ∧ s ≠ sN e) then (none : Option Int) else some (sgI s)).getD 0 = if s = false then (if e = -9218868437227405312 then 0 else 9218868437227405312) else -9218868437227405312 := by
    intro s
    by_cases c3 : e = -9218868437227405312
    · subst c3; cases s <;> rfl
    · rw [if_neg (by omega), if_neg c3]
      cases s <;> rfl
  rw [key]
  unfold sN
  by_cases c1 : x < 0
  · by_cases c2 : y < 0
    · rw [decide_eq_true c1, decide_eq_true c2, if_pos (by decide), if_pos (show (x < 0 ↔ y < 0) by omega)]
    · rw [decide_eq_true c1, decide_eq_false c2, if_neg (by decide), if_neg (show ¬ (x < 0 ↔ y < 0) by omega)]
  · by_cases c2 : y < 0
    · rw [decide_eq_false c1, decide_eq_true c2, if_neg (by decide), if_neg (show ¬ (x < 0 ↔ y < 0) by omega)]
    · rw [decide_eq_false c1, decide_eq_false c2, if_pos (by decide), if_pos (show (x < 0 ↔ y < 0) by omega)]
theorem fmZ_gd (K : Nat) (e : Int) (he : -9218868437227405312 ≤ e ∧ e < 9218868437227405312) : Gd (fmZ K e) e := by
  refine ⟨fmZ_sym K e, fmZ_neg K e, fun x => by unfold fmZ; rw [if_pos (Or.inr rfl)], ?_⟩
  intro x x' y hx hx' hy y0 hl
  have bd := fun a b => fmZ_bd K e a b (by unfold BdZ; omega)
  have z : ∀ a, fmZ K e a 0 = e := fun a => by unfold fmZ; rw [if_pos (Or.inr rfl)]
  have z' : ∀ a, fmZ K e 0 a = e := fun a => by unfold fmZ; rw [if_pos (Or.inl rfl)]
  by_cases c0 : y = 0
  · rw [c0, z, z]; omega
  have e0 := he
  unfold BdZ at hx hx' hy
  by_cases f1 : (x = 9218868437227405312 ∨ x = -9218868437227405312) ∨ y = 9218868437227405312
  · by_cases zx : x = 0
    · by_cases zx' : x' = 0
      · rw [zx, zx']; omega
      · rw [zx, z', fmZ_inf K e x' y (by unfold BdZ; omega) (by unfold BdZ; omega) zx' c0 (by omega) he]
        repeat' split
        all_goals omega
    · rw [fmZ_inf K e x y (by unfold BdZ; omega) (by unfold BdZ; omega) zx c0 (by omega) he]
      by_cases n : x < 0
      · rw [if_neg (by omega)]; exact (bd x' y).1
      · rw [if_pos (by omega), fmZ_inf K e x' y (by unfold BdZ; omega) (by unfold BdZ; omega) (by omega) c0 (by omega) he, if_pos (show (x' < 0 ↔ y < 0) by omega)]
        exact Int.le_refl _
  · by_cases f2 : x' = 9218868437227405312
    · rw [fmZ_inf K e x' y (by unfold BdZ; omega) (by unfold BdZ; omega) (by omega) c0 (by omega) he, if_pos (by omega)]
      by_cases c3 : e = -9218868437227405312
      · rw [if_pos c3, c3, fmZ_mi K x y (by omega) (by omega)]; omega
      · rw [if_neg c3]; exact (bd x y).2
    · by_cases c3 : e = -9218868437227405312
      · rw [c3, fmZ_mi K x y (by omega) (by omega)]
        have := (bd x' y).1
        rw [c3] at this; exact this
      · rw [fmZ_fin K e x y (by omega) (by omega) (by omega), fmZ_fin K e x' y (by omega) (by omega) (by omega)]
        refine g53_mono _ _ _ (Nat.two_pow_pos K) _ _ ?_
        have := Int.mul_le_mul_of_nonneg_right (vZ_le x x' hl) (vZ_nn y y0)
        omega
end Go.Proofs.YtinohggonicjhaaGreatDoor
