import Derived.Test.YtkheefoabcibkaaGreatDoorKIYx
namespace Go.Proofs.YtkheefoabcibkaaGreatDoor
open Go.RowKit
set_option linter.unusedVariables false

theorem lsum9_ (K : Nat) (hK : K = 1074) (L1 H1 L2 H2 e : Int) (d1 : VdZ L1 H1) (d2 : VdZ L2 H2) (n1 : L1 ≠ 9218868437227405312) (n2 : L2 ≠ 9218868437227405312) (he : BdZ e) (hI : e ≠ 9218868437227405312) (w : World) (hT : TT w) : Calls Tryz.prog 39 #[.agg #[.float .f64 (pw L1), .float .f64 (pw H1)], .agg #[.float .f64 (pw L2), .float .f64 (pw H2)], .float .f64 (pw e)] w fun v w' => v = .returned (.float .f64 (pw (lst (fmZ K e) L1 H1 L2 H2))) ∧ Kp w w' := by
  have b1 := d1.lo; have b2 := d1.hi; have b3 := d2.lo; have b4 := d2.hi
  unfold VdZ at d1 d2
  have he2 := he
  unfold BdZ at he2
  have lo : ∀ (x y : Int), BdZ x → BdZ y → (((x = 9218868437227405312 ∨ x = -9218868437227405312) ∨ (y = 9218868437227405312 ∨ y = -9218868437227405312)) → (e = 9218868437227405312 ∨ e = -9218868437227405312) → x ≠ 0 → y ≠ 0 → ((x < 0 ↔ y < 0) ↔ 0 < e)) → ∀ W0 : World, TT W0 → W0.cell? ⟨w.heap.size + 2, 0, none⟩ = some (.float .f64 (pw e)) → ∀ W : World, Kp W0 W → Calls Tryz.prog 66 #[.float .f64 (pw x), .float .f64 (pw y), .pointer (some ⟨w.heap.size + 2, 0, none⟩)] W fun v w' => v = .returned (.float .f64 (pw (fmZ K e x y))) ∧ Kp W w' := fun x y g1 g2 hb W0 t hc W k => cloP_ K hK x y e _ g1 g2 he hb W (t.kp k) (kkeep k hc)
  refine leastSumA_ _ _ _ _ _ _ w (fun W k hc => ?_)
  have hT := hT.kp k
  exact lsF9_ (fmZ K e) L1 H1 L2 H2 _ b1 b2 b3 b4 W (fun q1 q2 => lo _ _ b2 b3 (by omega) W hT hc) (fun q1 q2 => lo _ _ b1 b4 (by omega) W hT hc) (fun q1 q2 q3 => lo _ _ b2 b4 (by omega) W hT hc) (fun q1 q2 q3 => lo _ _ b1 b3 (by omega) W hT hc) (fmZ_bd _ _ _ _ he) (fmZ_bd _ _ _ _ he)
def fLo (K : Nat) (L1 H1 L2 H2 L3 H3 : Int) : Int := if L1 = 9218868437227405312 ∨ L2 = 9218868437227405312 ∨ L3 = 9218868437227405312 then 9218868437227405312 else lst (fmZ K L3) L1 H1 L2 H2
def fHi (K : Nat) (L1 H1 L2 H2 L3 H3 : Int) : Int := if L1 = 9218868437227405312 ∨ L2 = 9218868437227405312 ∨ L3 = 9218868437227405312 then -9218868437227405312 else -(lst (fmZ K (-H3)) (-H1) (-L1) L2 H2)
theorem fma9_ (K : Nat) (hK : K = 1074) (a b c d e5 f5 : Nat) (L1 H1 L2 H2 L3 H3 : Int) (hx : Rd a b L1 H1) (hy : Rd c d L2 H2) (hz : Rd e5 f5 L3 H3) (w : World) (hT : TT w) : Calls Tryz.prog 18 #[.agg #[.float .f64 a, .float .f64 b], .agg #[.float .f64 c, .float .f64 d], .agg #[.float .f64 e5, .float .f64 f5]] w fun e w' => e = .returned (.agg #[.float .f64 (pw (fLo K L1 H1 L2 H2 L3 H3)), .float .f64 (pw (fHi K L1 H1 L2 H2 L3 H3))]) ∧ Kp w w' := by
  have v1 := void9_ L1 H1 hx.vd
  have v2 := void9_ L2 H2 hy.vd
  have v3 := void9_ L3 H3 hz.vd
  unfold fLo fHi
  by_cases cE : L1 = 9218868437227405312 ∨ L2 = 9218868437227405312 ∨ L3 = 9218868437227405312
  · rw [if_pos cE, if_pos cE, pw_I, pw_MI]
    have q : (decide (L1 = 9218868437227405312) || decide (L2 = 9218868437227405312) || decide (L3 = 9218868437227405312)) = true := by
      rcases cE with h | h | h
      · rw [decide_eq_true h]; rfl
      · rw [decide_eq_true h]; simp
      · rw [decide_eq_true h]; simp
    have h := fma6_ a b c d e5 f5 _ _ _ _ _ _ hx.call hy.call hz.call _ _ _ v1 v2 v3 empty9_ 0 0 0 0 0 0 w (fun g => by rw [q] at g; cases g)
    rw [q] at h
    simpa using h
  rw [if_neg cE, if_neg cE]
  rw [decide_eq_false (show ¬ L1 = 9218868437227405312 by omega)] at v1
  rw [decide_eq_false (show ¬ L2 = 9218868437227405312 by omega)] at v2
  rw [decide_eq_false (show ¬ L3 = 9218868437227405312 by omega)] at v3
  have d1 := hx.vd
  have d2 := hy.vd
  have d3 := hz.vd
  have dn := vd_neg _ _ d1
  have b5 := d3.lo; have b6 := d3.hi
  have q1 : -H1 ≠ 9218868437227405312 := by unfold VdZ at d1; omega
  have q3 : -H3 ≠ 9218868437227405312 := by unfold VdZ at d3; omega
  have h := fma6_ a b c d e5 f5 _ _ _ _ _ _ hx.call hy.call hz.call _ _ _ v1 v2 v3 empty9_ _ _ _ _ _ _ w (fun _ => ⟨fun W k => lsum9_ K hK L1 H1 L2 H2 L3 d1 d2 (by omega) (by omega) b5 (by omega) W (hT.kp k), neg9_ _ _ _ _ (Rd.of d1), minus9_ H3 b6, fun W k => lsum9_ K hK (-H1) (-L1) L2 H2 (-H3) dn d2 q1 (by omega) (bd_neg _ b6) q3 W (hT.kp k), minus9_ _ (lst_bd _ (fun x y => fmZ_bd K _ x y (bd_neg _ b6)) _ _ _ _)⟩)
  simpa using h
set_option maxRecDepth 20000 in
set_option maxHeartbeats 1000000 in
theorem in9_ (a b : Nat) (w : World) : Calls Tryz.prog 19 #[.agg #[.int .u64 ((a : Nat) : Int), .int .u64 ((b : Nat) : Int)]] w fun e w' => e = .returned (.agg #[.float .f64 a, .float .f64 b]) ∧ Kp w w' := by
  have h1 := Fq.ff64 a
  have h2 := Fq.ff64 b
  generalize (a : Int) = X at h1 ⊢
  generalize (b : Int) = Y at h2 ⊢
  go_enter Tryz.func19, Tryz.ntmps19
  go_wp2
  go_region_held3 (fun w' => w'.cell? ⟨w.heap.size, 0, none⟩ = some (.int .u64 X) ∧ w'.cell? ⟨w.heap.size, 1, none⟩ = some (.int .u64 Y)) (simp [go_sem]) (fail)
  go_wp2
  exact bodyPost_ret (v := .agg #[.float .f64 a, .float .f64 b]) (by simp [results, Tryz.results19, go_sem]) rfl ⟨rfl, (by repeat (with_reducible (first | assumption | exact Kp.refl _ | apply Kp.drew | apply Kp.alloc | apply Kp.drewN | (refine Kp.setCell ?_ (by first | omega | (simp <;> omega)) _) | (refine Kp.trans ?_ (by assumption)))))⟩
set_option maxRecDepth 20000 in
set_option maxHeartbeats 1000000 in
theorem out9_ (a b : Nat) (w : World) : Calls Tryz.prog 22 #[.agg #[.float .f64 a, .float .f64 b]] w fun e w' => e = .returned (.agg #[.int .u64 ((a : Nat) : Int), .int .u64 ((b : Nat) : Int)]) ∧ Kp w w' := by
  have h1 := Fq.fb64 a
  have h2 := Fq.fb64 b
  generalize (a : Int) = X at h1 ⊢
  generalize (b : Int) = Y at h2 ⊢
  go_enter Tryz.func22, Tryz.ntmps22
  go_wp2
  go_region_held3 (fun w' => w'.cell? ⟨w.heap.size, 0, none⟩ = some (.float .f64 a) ∧ w'.cell? ⟨w.heap.size, 1, none⟩ = some (.float .f64 b)) (simp [go_sem, World.cell?_alloc_past]) (fail)
  go_wp2
  exact bodyPost_ret (v := .agg #[.int .u64 X, .int .u64 Y]) (by simp [results, Tryz.results22, go_sem]) rfl ⟨rfl, (by repeat (with_reducible (first | assumption | exact Kp.refl _ | apply Kp.drew | apply Kp.alloc | apply Kp.drewN | (refine Kp.setCell ?_ (by first | omega | (simp <;> omega)) _) | (refine Kp.trans ?_ (by assumption)))))⟩
set_option maxRecDepth 20000 in
set_option maxHeartbeats 1000000 in
theorem awakeA_ (w : World) (h : Calls Tryz.prog 12 #[.agg #[.float .f64 4591870180066957722, .float .f64 4591870180066957722], .agg #[.float .f64 4596373779694328218, .float .f64 4596373779694328218]] w fun e w' => e = .returned (.agg #[.float .f64 4599075939470750515, .float .f64 4599075939470750516]) ∧ Kp w w') : Calls Tryz.prog 8 #[] w fun e w' => e = .returned (.bool true) ∧ Kp w w' := by
  have q1 := Fq.eqIn6 4599075939470750515 4599075939470750515
  have q2 := Fq.eqIn6 4599075939470750516 4599075939470750516
  rw [show (FloatKind.f64.format.order 4599075939470750515 4599075939470750515 == some Ordering.eq) = true from by decide +kernel] at q1
  rw [show (FloatKind.f64.format.order 4599075939470750516 4599075939470750516 == some Ordering.eq) = true from by decide +kernel] at q2
  go_enter Tryz.func8, Tryz.ntmps8
  go_wp2_with (first | (go_at_call 12; refine h.mono ?_; rintro e w1 ⟨rfl, g1⟩))
  exact bodyPost_ret (v := .bool true) (by simp [results, Tryz.results8, go_sem]) rfl ⟨rfl, g1⟩
theorem awake6_ (w : World) (hT : TT w) : Calls Tryz.prog 8 #[] w fun e w' => e = .returned (.bool true) ∧ Kp w w' := by
  refine awakeA_ w ?_
  have h := add9_ 4591870180066957722 4591870180066957722 4596373779694328218 4596373779694328218 _ _ _ _ (Rd.num 4591870180066957722 4591870180066957722 (by decide) (by decide) (by decide)) (Rd.num 4596373779694328218 4596373779694328218 (by decide) (by decide) (by decide)) w hT
  rw [show pw (aLo ((4591870180066957722 : Nat) : Int) ((4591870180066957722 : Nat) : Int) ((4596373779694328218 : Nat) : Int) ((4596373779694328218 : Nat) : Int)) = 4599075939470750515 from by decide +kernel, show pw (aHi ((4591870180066957722 : Nat) : Int) ((4591870180066957722 : Nat) : Int) ((4596373779694328218 : Nat) : Int) ((4596373779694328218 : Nat) : Int)) = 4599075939470750516 from by decide +kernel] at h
  exact h

set_option linter.unusedVariables false
def vZ (z : Int) : Int := Iv (decide (z < 0)) z.natAbs
theorem vZ_pos (z : Int) (h : 0 ≤ z) : vZ z = ((Fq.vV Ieee.double z.natAbs : Nat) : Int) := by
  unfold vZ Iv
  rw [decide_eq_false (show ¬ z < 0 by omega)]; rfl
theorem vV0X : Fq.vV Ieee.double 0 = 0 := by decide
theorem vZ_neg (z : Int) : vZ (-z) = -vZ z := by
  unfold vZ Iv
  rw [Int.natAbs_neg]
  by_cases z0 : z = 0
  · rw [z0]; simp [vV0X]
  · by_cases c : z < 0
    · rw [decide_eq_true c, decide_eq_false (show ¬ -z < 0 by omega)]; simp
    · rw [decide_eq_false c, decide_eq_true (show -z < 0 by omega)]; simp
theorem vV_place (E S : Nat) (h1 : S ≤ 2 ^ 53) (h2 : E = 0 ∨ 2 ^ (53 - 1) ≤ S) : Fq.vV Ieee.double (E * 2 ^ (53 - 1) + S) = S * 2 ^ E := by
  have hb : Ieee.double.binade = 4503599627370496 := by decide
  have p1 : (2 : Nat) ^ (53 - 1) = 4503599627370496 := by decide
  have p2 : (2 : Nat) ^ 53 = 9007199254740992 := by decide
  rw [p1] at h2 ⊢
  rw [p2] at h1
  unfold Fq.vV Fq.mM Fq.eE
  rw [hb]
  by_cases c : E * 4503599627370496 + S < 4503599627370496
  · have hE : E = 0 := by omega
    rw [if_pos c, if_pos c, hE]; simp
  · rw [if_neg c, if_neg c]
    by_cases c2 : S = 9007199254740992
    · rw [show (E * 4503599627370496 + S) / 4503599627370496 - 1 = E + 1 from by omega, show (E * 4503599627370496 + S) % 4503599627370496 = 0 from by omega, Nat.pow_succ, c2]
      generalize 2 ^ E = P
      omega
    · rw [show (E * 4503599627370496 + S) / 4503599627370496 - 1 = E from by omega, show 4503599627370496 + (E * 4503599627370496 + S) % 4503599627370496 = S from by omega]
theorem g53_tight (c1 c2 : Nat) (hc : 0 < c2) (V : Int) : TS 9218868437227405312 (Fq.vV Ieee.double) (V * c1) (c2 : Int) (g53 (-1) c1 c2 V) (g53 1 c1 c2 V) (g53 0 c1 c2 V) := gpl_tight 53 2098 9218868437227405311 9218868437227405312 (Fq.vV Ieee.double) vV_place c1 c2 hc (by decide) (by decide) (by decide) (by decide) V

theorem g53_lohi (c1 c2 : Nat) (hc : 0 < c2) (V : Int) : g53 (-1) c1 c2 V ≤ g53 1 c1 c2 V ∧ g53 (-1) c1 c2 V < 9218868437227405312 ∧ -9218868437227405312 < g53 1 c1 c2 V := by
  have h := g53_tight c1 c2 hc V vZ vZ_pos vZ_neg
  have b1 := g53_le (-1) c1 c2 V
  have b2 := g53_le 1 c1 c2 V
  rcases h with ⟨h1, _, h3, h4, _⟩ | ⟨h1, h2, h3, _⟩ <;> omega
theorem vZ_sn (z : Int) : Iv (sN z) z.natAbs = vZ z := rfl
theorem iv_le9 (n n' : Bool) (m m' : Nat) (h : Fq.plz n m ≤ Fq.plz n' m') : Iv n m ≤ Iv n' m' := by
  have h1 := Fq.vV_lt_iff Ieee.double m m'
  have h2 := Fq.vV_lt_iff Ieee.double m' m
  have h3 := vV_zero m
  have h4 := vV_zero m'
  unfold Iv
  unfold Fq.plz at h
  cases n <;> cases n' <;> simp at h ⊢ <;> omega
theorem vZ_le (x y : Int) (h : x ≤ y) : vZ x ≤ vZ y := iv_le9 _ _ _ _ (by rw [plz_pw, plz_pw]; exact h)
theorem vZ_zero : vZ 0 = 0 := by rw [vZ_pos 0 (by omega)]; exact congrArg _ vV0X
theorem vZ_nn (x : Int) (h : 0 ≤ x) : 0 ≤ vZ x := by rw [vZ_pos x h]; omega
theorem prZ_fin (K : Nat) (x y : Int) (hx : -9218868437227405312 < x ∧ x < 9218868437227405312) (hy : -9218868437227405312 < y ∧ y < 9218868437227405312) : prZ K x y = g53 (-1) 1 (2 ^ K) (vZ x * vZ y) := by
  unfold prZ
  by_cases c : x = 0 ∨ y = 0
  · rw [if_pos c]
    have e : vZ x * vZ y = 0 := by
      rcases c with c | c
      · rw [c, vZ_zero, Int.zero_mul]
      · rw [c, vZ_zero, Int.mul_zero]
    rw [e]; unfold g53 gpl; rw [if_pos rfl]
  · rw [if_neg c]
    unfold muZ oM
    rw [if_neg (by omega), if_neg (by omega), vZ_sn, vZ_sn]; rfl
theorem prZ_inf (K : Nat) (x : Int) (hx : BdZ x) : prZ K x 9218868437227405312 = if x < 0 then -9218868437227405312 else if x = 0 then 0 else 9218868437227405312 := by
  unfold prZ
  unfold BdZ at hx
  by_cases c : x = 0
  · rw [if_pos (Or.inl c), if_neg (by omega), if_pos c]
  · rw [if_neg (by omega), if_neg c]
    unfold muZ oM
    rw [if_neg (by omega), if_pos (by omega)]
    unfold sN
    by_cases n : x < 0
    · rw [decide_eq_true n, if_pos n]; rfl
    · rw [decide_eq_false n, if_neg n]; rfl
theorem prZ_lo (K : Nat) (y : Int) (hy : 0 < y ∧ y ≤ 9218868437227405312) : prZ K (-9218868437227405312) y = -9218868437227405312 := by
  unfold prZ
  rw [if_neg (by omega)]
  unfold muZ oM
  rw [if_neg (by omega), if_pos (by omega)]
  unfold sN
  rw [decide_eq_true (by omega), decide_eq_false (by omega)]; rfl
theorem prZ_hi (K : Nat) (y : Int) (hy : 0 < y ∧ y ≤ 9218868437227405312) : prZ K 9218868437227405312 y = 9218868437227405312 := by
  unfold prZ
  rw [if_neg (by omega)]
  unfold muZ oM
  rw [if_neg (by omega), if_pos (by omega)]
  unfold sN
  rw [decide_eq_false (by omega), decide_eq_false (by omega)]; rfl
structure Gd (f : Int → Int → Int) (e : Int) : Prop where
  sym : ∀ x y, f x y = f y x
  neg : ∀ x y, f (-x) y = f x (-y)
  zero : ∀ x, f x 0 = e
  mono : ∀ x x' y, BdZ x → BdZ x' → BdZ y → 0 ≤ y → x ≤ x' → f x y ≤ f x' y
theorem Gd.anti {f : Int → Int → Int} {e : Int} (h : Gd f e) (x x' y : Int) (hx : BdZ x) (hx' : BdZ x') (hy : BdZ y) (y0 : y ≤ 0) (hl : x ≤ x') : f x' y ≤ f x y := by
  have g := h.mono (-x') (-x) (-y) (bd_neg _ hx') (bd_neg _ hx) (bd_neg _ hy) (by omega) (by omega)
  rw [h.neg, h.neg, Int.neg_neg] at g
  exact g
theorem prZ_gd (K : Nat) : Gd (prZ K) 0 := by
  refine ⟨prZ_sym K, prZ_neg K, fun x => by unfold prZ; rw [if_pos (Or.inr rfl)], ?_⟩
  intro x x' y hx hx' hy y0 hl
  by_cases c0 : y = 0
  · rw [c0]; unfold prZ; rw [if_pos (Or.inr rfl), if_pos (Or.inr rfl)]; omega
  by_cases c1 : y = 9218868437227405312
  · rw [c1, prZ_inf K x hx, prZ_inf K x' hx']
    repeat' split
    all_goals omega
  unfold BdZ at hx hx' hy
  by_cases c2 : x = -9218868437227405312
  · rw [c2, prZ_lo K y (by omega)]; exact (prZ_bd K x' y).1
  by_cases c3 : x' = 9218868437227405312
  · rw [c3, prZ_hi K y (by omega)]; exact (prZ_bd K x y).2
  rw [prZ_fin K x y (by omega) (by omega), prZ_fin K x' y (by omega) (by omega)]
  exact g53_mono _ _ _ (Nat.two_pow_pos K) _ _ (Int.mul_le_mul_of_nonneg_right (vZ_le x x' hl) (vZ_nn y y0))
theorem lst_le {f : Int → Int → Int} {e : Int} (h : Gd f e) (L1 H1 L2 H2 p q : Int) (b1 : BdZ L1) (b2 : BdZ H1) (b3 : BdZ L2) (b4 : BdZ H2) (hp : L1 ≤ p ∧ p ≤ H1) (hq : L2 ≤ q ∧ q ≤ H2) : lst f L1 H1 L2 H2 ≤ f p q := by
  have bp : BdZ p := by unfold BdZ at *; omega
  have bq : BdZ q := by unfold BdZ at *; omega
  have z : ∀ x, f 0 x = e := fun x => by rw [h.sym]; exact h.zero x
  have m1 : 0 ≤ q → f L1 q ≤ f p q := fun c => h.mono _ _ _ b1 bp bq c hp.1
  have m2 : q ≤ 0 → f H1 q ≤ f p q := fun c => h.anti _ _ _ bp b2 bq c hp.2
  have m3 : L1 ≤ 0 → f L1 H2 ≤ f L1 q := fun c => by rw [h.sym L1 H2, h.sym L1 q]; exact h.anti _ _ _ bq b4 b1 c hq.2
  have m4 : 0 ≤ L1 → f L1 L2 ≤ f L1 q := fun c => by rw [h.sym L1 L2, h.sym L1 q]; exact h.mono _ _ _ b3 bq b1 c hq.1
  have m5 : 0 ≤ H1 → f H1 L2 ≤ f H1 q := fun c => by rw [h.sym H1 L2, h.sym H1 q]; exact h.mono _ _ _ b3 bq b2 c hq.1
  have m6 : H1 ≤ 0 → f H1 H2 ≤ f H1 q := fun c => by rw [h.sym H1 H2, h.sym H1 q]; exact h.anti _ _ _ bq b4 b2 c hq.2
  have m7 : 0 ≤ H2 → f L1 H2 ≤ f H1 H2 := fun c => h.mono _ _ _ b1 b2 b4 c (by omega)
  have m8 : L2 ≤ 0 → f H1 L2 ≤ f L1 L2 := fun c => h.anti _ _ _ b1 b2 b3 c (by omega)
  have z1 : q = 0 → f p q = e := fun c => by rw [c]; exact h.zero p
  have z2 : p = 0 → f p q = e := fun c => by rw [c]; exact z q
  have z3 : L2 = 0 → f L1 L2 = e := fun c => by rw [c]; exact h.zero _
  have z4 : L1 = 0 → f L1 L2 = e := fun c => by rw [c]; exact z _
  have m9 : 0 ≤ H1 → L2 ≤ 0 → f H1 L2 ≤ e := fun c c2 => by
    have g := h.mono L2 0 H1 b3 (by unfold BdZ; omega) b2 c c2
    rw [h.sym L2 H1, z] at g; exact g
  have m10 : L1 ≤ 0 → 0 ≤ H2 → f L1 H2 ≤ e := fun c c2 => by
    have g := h.mono L1 0 H2 b1 (by unfold BdZ; omega) b4 c2 c
    rw [z] at g; exact g
  have z5 : H2 = 0 → f H1 H2 = e := fun c => by rw [c]; exact h.zero _
  have z6 : H1 = 0 → f H1 H2 = e := fun c => by rw [c]; exact z _
  have z7 : L1 = 0 → f L1 q = e := fun c => by rw [c]; exact z _
  have z8 : H1 = 0 → f H1 q = e := fun c => by rw [c]; exact z _
  clear z
  unfold lst
  by_cases s1 : 0 ≤ q
  · have m1 := m1 s1
    by_cases s2 : L1 ≤ 0
    · have m3 := m3 s2
      clear m4 m5 m6
      repeat' split
      all_goals first | omega | (have m2 := m2 (by omega); omega)
    · have m4 := m4 (by omega)
      clear m3 m5 m6
      repeat' split
      all_goals omega
  · have m2 := m2 (by omega)
    by_cases s2 : 0 ≤ H1
    · have m5 := m5 s2
      clear m1 m3 m4 m6
      repeat' split
      all_goals omega
    · have m6 := m6 (by omega)
      clear m1 m3 m4 m5
      repeat' split
      all_goals omega
theorem muZ_mir (K : Nat) (d x y : Int) (hx : x ≠ 0) : muZ K (-d) (-x) y = -(muZ K d x y) := by
  unfold muZ
  rw [sN_neg x hx, Int.natAbs_neg, oM_mir, getD_ng]
theorem prZ_dn (K : Nat) (x y : Int) : prZ K x y ≤ -(prZ K (-x) y) := by
  unfold prZ
  by_cases c : x = 0 ∨ y = 0
  · rw [if_pos c, if_pos (by omega)]; omega
  · rw [if_neg c, if_neg (by omega)]
    have h := muZ_mir K 1 x y (by omega)
    rw [show (-1 : Int) = -1 from rfl] at h
    rw [h, Int.neg_neg]
    unfold muZ oM
    repeat' split
    all_goals simp only [Option.getD]
    all_goals first | omega | exact (g53_lohi _ _ (Nat.two_pow_pos K) _).1
theorem prZ_top (K : Nat) (L1 H1 L2 H2 : Int) (d1 : -9218868437227405312 ≤ L1 ∧ L1 < 9218868437227405312 ∧ -9218868437227405312 < H1 ∧ H1 ≤ 9218868437227405312 ∧ L1 ≤ H1) (d2 : -9218868437227405312 ≤ L2 ∧ L2 < 9218868437227405312 ∧ -9218868437227405312 < H2 ∧ H2 ≤ 9218868437227405312 ∧ L2 ≤ H2) : lst (prZ K) L1 H1 L2 H2 < 9218868437227405312 := by
  have G := prZ_gd K
  have b1 : BdZ L1 := by unfold BdZ; omega
  have b2 : BdZ H1 := by unfold BdZ; omega
  have b3 : BdZ L2 := by unfold BdZ; omega
  have b4 : BdZ H2 := by unfold BdZ; omega
  -- some point of both that is a number
  obtain ⟨p, hp, fp⟩ : ∃ p, (L1 ≤ p ∧ p ≤ H1) ∧ -9218868437227405312 < p ∧ p < 9218868437227405312 := by
    by_cases c : L1 = -9218868437227405312
    · by_cases c2 : H1 = 9218868437227405312
      · exact ⟨0, by omega, by omega⟩
      · exact ⟨H1, by omega, by omega⟩
    · exact ⟨L1, by omega, by omega⟩
  obtain ⟨q, hq, fq⟩ : ∃ q, (L2 ≤ q ∧ q ≤ H2) ∧ -9218868437227405312 < q ∧ q < 9218868437227405312 := by
    by_cases c : L2 = -9218868437227405312
    · by_cases c2 : H2 = 9218868437227405312
      · exact ⟨0, by omega, by omega⟩
      · exact ⟨H2, by omega, by omega⟩
    · exact ⟨L2, by omega, by omega⟩
  have h := lst_le G L1 H1 L2 H2 p q b1 b2 b3 b4 hp hq
  rw [prZ_fin K p q fp fq] at h
  have := (g53_lohi 1 (2 ^ K) (Nat.two_pow_pos K) (vZ p * vZ q)).2.1
  omega
theorem vd_mul (K : Nat) (L1 H1 L2 H2 : Int) (d1 : VdZ L1 H1) (d2 : VdZ L2 H2) : VdZ (mLo K L1 H1 L2 H2) (mHi K L1 H1 L2 H2) := by
  unfold mLo mHi
  by_cases c : L1 = 9218868437227405312 ∨ L2 = 9218868437227405312
  · rw [if_pos c, if_pos c]; exact Or.inl ⟨rfl, rfl⟩
  rw [if_neg c, if_neg c]
  have n1 := d1
  have n2 := d2
  unfold VdZ at n1 n2
  have G := prZ_gd K
  have g1 := lst_bd (prZ K) (prZ_bd K) L1 H1 L2 H2
  have g2 := lst_bd (prZ K) (prZ_bd K) (-H1) (-L1) L2 H2
  have t1 := prZ_top K L1 H1 L2 H2 (by omega) (by omega)
  have t2 := prZ_top K (-H1) (-L1) L2 H2 (by omega) (by omega)
  have h1 := lst_le G L1 H1 L2 H2 L1 L2 d1.lo d1.hi d2.lo d2.hi (by omega) (by omega)
  have h2 := lst_le G (-H1) (-L1) L2 H2 (-L1) L2 (bd_neg _ d1.hi) (bd_neg _ d1.lo) d2.lo d2.hi (by omega) (by omega)
  have h3 := prZ_dn K L1 L2
  unfold BdZ at g1 g2
  exact Or.inr (by omega)
end Go.Proofs.YtkheefoabcibkaaGreatDoor
