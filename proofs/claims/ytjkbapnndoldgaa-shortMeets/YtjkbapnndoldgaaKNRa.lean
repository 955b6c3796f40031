import Derived.Test.YtjkbapnndoldgaaKSHn
import Derived.Test.YtjkbapnndoldgaaKXO3
import Derived.Deep.CutRange
namespace Go.Proofs.Ytjkbapnndoldgaa
open Go.RowKit

def Rd (a b : Nat) (L H : Int) : Prop := a < 18446744073709551616 ∧ b < 18446744073709551616 ∧ VdZ L H ∧ Fq.rlo a b = pw L ∧ Fq.rhi a b = pw H
theorem Rd.ex (a b : Nat) (ha : a < 18446744073709551616) (hb : b < 18446744073709551616) : ∃ L H, Rd a b L H := by
  obtain ⟨L, H, h1, h2, h3⟩ := read_pw a b ha hb
  exact ⟨L, H, ha, hb, h1, h2, h3⟩
theorem Rd.of {L H : Int} (h : VdZ L H) : Rd (pw L) (pw H) L H := ⟨pw_lt L h.lo, pw_lt H h.hi, h, (reread9 L H h).1, (reread9 L H h).2⟩
theorem Rd.vd {a b : Nat} {L H : Int} (h : Rd a b L H) : VdZ L H := h.2.2.1
theorem Rd.call {a b : Nat} {L H : Int} (h : Rd a b L H) (w : World) : Calls Try.prog 37 #[.agg #[.float .f64 a, .float .f64 b]] w fun e w' => e = .returned (.agg #[.float .f64 (pw L), .float .f64 (pw H)]) ∧ Kp w w' := by
  have g := Fq.read_ a b h.1 h.2.1 w
  rw [h.2.2.2.1, h.2.2.2.2] at g
  exact g
theorem min9_ (x y : Int) (hx : BdZ x) (hy : BdZ y) (ts : Array TypeId) (t : TypeId) (w : World) : (Builtin.min_ ts t #[.float .f64 (pw x), .float .f64 (pw y)]).run Try.prog w = .ok (.float .f64 (pw (min x y))) w := by
  have h := min7_ (decide (x < 0)) (decide (y < 0)) x.natAbs y.natAbs (abs_pw x hx) (abs_pw y hy) (pw_ne x hx) (pw_ne y hy) ts t w
  rw [plz_pw, plz_pw] at h
  have e : (if y < x then pw y else pw x) = pw (min x y) := by
    by_cases c : y < x
    · rw [if_pos c, show min x y = y from by omega]
    · rw [if_neg c, show min x y = x from by omega]
  exact e ▸ h
theorem max9_ (x y : Int) (hx : BdZ x) (hy : BdZ y) (ts : Array TypeId) (t : TypeId) (w : World) : (Builtin.max_ ts t #[.float .f64 (pw x), .float .f64 (pw y)]).run Try.prog w = .ok (.float .f64 (pw (max x y))) w := by
  have h := max7_ (decide (x < 0)) (decide (y < 0)) x.natAbs y.natAbs (abs_pw x hx) (abs_pw y hy) (pw_ne x hx) (pw_ne y hy) ts t w
  rw [plz_pw, plz_pw] at h
  have e : (if y > x then pw y else pw x) = pw (max x y) := by
    by_cases c : y > x
    · rw [if_pos c, show max x y = y from by omega]
    · rw [if_neg c, show max x y = x from by omega]
  exact e ▸ h

def H48 (w : World) (B : Nat) (a b c d : Value) : Prop := Fq.H2 w B a b ∧ Fq.H2 w (B + 1) c d
theorem H48.keep {W w : World} {B : Nat} {a b c d : Value} (h : H48 W B a b c d) (g : Kp W w) : H48 w B a b c d := ⟨Fq.H2.keep h.1 g, Fq.H2.keep h.2 g⟩
theorem H48.new (w : World) (a b c d : Value) (s t : TypeId) : H48 ((w.alloc (.cells #[a, b] s)).alloc (.cells #[c, d] t)) w.heap.size a b c d := by
  refine ⟨?_, ?_⟩ <;> (unfold Fq.H2; simp [go_sem])
theorem H48.put {w : World} {B : Nat} {a b c d : Value} (h : H48 w B a b c d) (a' b' c' d' : Value) : H48 ((((w.setCell ⟨B, 0, none⟩ a').setCell ⟨B, 1, none⟩ b').setCell ⟨B + 1, 0, none⟩ c').setCell ⟨B + 1, 1, none⟩ d') B a' b' c' d' := by
  refine ⟨?_, ?_⟩
  · exact Fq.H2.far (Fq.H2.put h.1 a' b') (by omega) c' d'
  · exact Fq.H2.put (Fq.H2.far h.2 (by omega) a' b') c' d'

set_option linter.unusedVariables false
@[irreducible] def k9 : Nat := 925
theorem k9_eq : k9 = 925 := by unfold k9; rfl
theorem vS_place (E S : Nat) (h1 : S ≤ 2 ^ 24) (h2 : E = 0 ∨ 2 ^ (24 - 1) ≤ S) : Fq.vV Ieee.single (E * 2 ^ (24 - 1) + S) = S * 2 ^ E := by
  have hb : Ieee.single.binade = 8388608 := by decide
  have p1 : (2 : Nat) ^ (24 - 1) = 8388608 := by decide
  have p2 : (2 : Nat) ^ 24 = 16777216 := by decide
  rw [p1] at h2 ⊢
  rw [p2] at h1
  unfold Fq.vV Fq.mM Fq.eE
  rw [hb]
  by_cases c : E * 8388608 + S < 8388608
  · have hE : E = 0 := by omega
    rw [if_pos c, if_pos c, hE]; simp
  · rw [if_neg c, if_neg c]
    by_cases c2 : S = 16777216
    · rw [show (E * 8388608 + S) / 8388608 - 1 = E + 1 from by omega, show (E * 8388608 + S) % 8388608 = 0 from by omega, Nat.pow_succ, c2]
      generalize 2 ^ E = P
      omega
    · rw [show (E * 8388608 + S) / 8388608 - 1 = E from by omega, show 8388608 + (E * 8388608 + S) % 8388608 = S from by omega]
theorem mS_lt (m : Nat) : Fq.mM Ieee.single m < 16777216 := by
  unfold Fq.mM
  rw [Fq.binS]
  split <;> omega
theorem eS_le (m : Nat) (h : m < 2139095040) : Fq.eE Ieee.single m ≤ 253 := by
  unfold Fq.eE
  rw [Fq.binS]
  split <;> omega
def wdR (m : Nat) : Nat := if m = 2139095040 then 9218868437227405312 else rgU 53 (Fq.vV Ieee.single m * 2 ^ k9)
theorem wd_rep (d : Int) (m : Nat) : rU d 53 (Fq.vV Ieee.single m * 2 ^ k9) 1 = Fq.vV Ieee.single m * 2 ^ k9 := by
  have h := mS_lt m
  unfold Fq.vV
  rw [Nat.mul_assoc, ← Nat.pow_add]
  exact rU_rep d _ _ (by omega)
theorem wd_val (m : Nat) (h : m < 2139095040) : Fq.vV Ieee.double (wdR m) = Fq.vV Ieee.single m * 2 ^ k9 := by
  unfold wdR
  rw [if_neg (by omega)]
  have h1 := vV_rung (Fq.vV Ieee.single m * 2 ^ k9) 0
  rw [wd_rep] at h1
  exact h1
theorem wd_blen (m : Nat) (h : m < 2139095040) : blen (Fq.vV Ieee.single m * 2 ^ k9) ≤ 2098 := by
  have h1 := mS_lt m
  have h2 := eS_le m h
  have hk := k9_eq
  rw [blen_le_iff]
  unfold Fq.vV
  generalize Fq.mM Ieee.single m = x at h1 ⊢
  generalize Fq.eE Ieee.single m = y at h2 ⊢
  obtain ⟨J, hJ⟩ : ∃ J : Nat, J = 2098 := ⟨_, rfl⟩
  rw [← hJ]
  calc x * 2 ^ y * 2 ^ k9 ≤ 2 ^ 24 * 2 ^ y * 2 ^ k9 := Nat.mul_le_mul_right _ (Nat.mul_le_mul_right _ (by rw [show (2 : Nat) ^ 24 = 16777216 from by decide]; omega))
    _ = 2 ^ (24 + y + k9) := by rw [Nat.pow_add, Nat.pow_add]
    _ < 2 ^ J := Nat.pow_lt_pow_right (by decide) (by omega)
theorem wd_lt (m : Nat) (h : m < 2139095040) : wdR m < 9218868437227405312 := by
  obtain ⟨E, hE⟩ : ∃ E, E = rE 53 (Fq.vV Ieee.single m * 2 ^ k9) 1 := ⟨_, rfl⟩
  obtain ⟨K, hK⟩ : ∃ K, K = rS 53 (Fq.vV Ieee.single m * 2 ^ k9) 1 + (upw 0 (rS 53 (Fq.vV Ieee.single m * 2 ^ k9) 1) (rR 53 (Fq.vV Ieee.single m * 2 ^ k9) 1) (1 * 2 ^ rE 53 (Fq.vV Ieee.single m * 2 ^ k9) 1)).toNat := ⟨_, rfl⟩
  obtain ⟨_, _, _, _, h5, h6⟩ := rung_of (Fq.vV Ieee.single m * 2 ^ k9) 0 E K hE hK
  rw [wd_rep] at h5 h6
  unfold wdR
  rw [if_neg (by omega), h5]
  exact h6.1 (wd_blen m h)
theorem wd_lt_iff (m m' : Nat) (h : m ≤ 2139095040) (h' : m' ≤ 2139095040) : wdR m < wdR m' ↔ m < m' := by
  have hp := Nat.two_pow_pos k9
  by_cases c : m = 2139095040
  · subst c
    have e : wdR 2139095040 = 9218868437227405312 := by unfold wdR; rw [if_pos rfl]
    rw [e]
    by_cases c' : m' = 2139095040
    · subst c'; rw [e]; omega
    · have := wd_lt m' (by omega); omega
  · by_cases c' : m' = 2139095040
    · subst c'
      have e : wdR 2139095040 = 9218868437227405312 := by unfold wdR; rw [if_pos rfl]
      have := wd_lt m (by omega)
      rw [e]; omega
    · rw [← Fq.vV_lt_iff Ieee.double, wd_val m (by omega), wd_val m' (by omega), Nat.mul_lt_mul_right hp, Fq.vV_lt_iff]
theorem wd_zero : wdR 0 = 0 := by
  unfold wdR
  rw [if_neg (by decide), Fq.vV_zero, Nat.zero_mul, rgU_zero]
theorem wd_inj (m m' : Nat) (h : m ≤ 2139095040) (h' : m' ≤ 2139095040) : wdR m = wdR m' ↔ m = m' := by
  have h1 := wd_lt_iff m m' h h'
  have h2 := wd_lt_iff m' m h' h
  omega
theorem wd_le (m : Nat) (h : m ≤ 2139095040) : wdR m ≤ 9218868437227405312 := by
  by_cases c : m = 2139095040
  · unfold wdR; rw [if_pos c]
    exact Nat.le_refl _
  · have := wd_lt m (by omega); omega
def wz (z : Int) : Int := if z < 0 then -((wdR z.natAbs : Nat) : Int) else ((wdR z.natAbs : Nat) : Int)
theorem wz_lt (x y : Int) (hx : Sg.BdZ x) (hy : Sg.BdZ y) : wz x < wz y ↔ x < y := by
  unfold Sg.BdZ at hx hy
  unfold wz
  have a1 := wd_lt_iff x.natAbs y.natAbs (by omega) (by omega)
  have a2 := wd_lt_iff y.natAbs x.natAbs (by omega) (by omega)
  have a3 := wd_inj x.natAbs 0 (by omega) (by omega)
  have a4 := wd_inj y.natAbs 0 (by omega) (by omega)
  rw [wd_zero] at a3 a4
  split <;> split <;> omega
theorem wz_inj (x y : Int) (hx : Sg.BdZ x) (hy : Sg.BdZ y) : wz x = wz y ↔ x = y := by
  have a := wz_lt x y hx hy
  have b := wz_lt y x hy hx
  omega
theorem wz_le (x y : Int) (hx : Sg.BdZ x) (hy : Sg.BdZ y) : wz x ≤ wz y ↔ x ≤ y := by
  have b := wz_lt y x hy hx
  omega
theorem wz_I : wz 2139095040 = 9218868437227405312 := by
  unfold wz wdR
  rw [if_neg (by omega), show (2139095040 : Int).natAbs = 2139095040 from rfl, if_pos rfl]
  rfl
theorem wz_MI : wz (-2139095040) = -9218868437227405312 := by
  unfold wz wdR
  rw [if_pos (by omega), show (-2139095040 : Int).natAbs = 2139095040 from rfl, if_pos rfl]
  rfl
theorem wz_bd (z : Int) (h : Sg.BdZ z) : BdZ (wz z) := by
  unfold Sg.BdZ at h
  have := wd_le z.natAbs (by omega)
  unfold wz BdZ
  split <;> omega
theorem wd_pw (n : Bool) (m : Nat) (hm : m ≤ 2139095040) (hz : n = true → m ≠ 0) : Fq.wD n (wdR m) = pw (wz (Fq.plz n m)) := by
  have a3 := wd_inj m 0 hm (by omega)
  rw [wd_zero] at a3
  cases n
  · have e : Fq.plz false m = (m : Int) := by simp [Fq.plz]
    rw [e]; unfold pw wz
    rw [if_neg (show ¬ (m : Int) < 0 by omega), Int.natAbs_natCast, show decide (((wdR m : Nat) : Int) < 0) = false from decide_eq_false (by omega), Int.natAbs_natCast]
  · have h0 := hz rfl
    have h1 : wdR m ≠ 0 := fun h => h0 (a3.1 h)
    have e : Fq.plz true m = -(m : Int) := by simp [Fq.plz]
    rw [e]; unfold pw wz
    rw [if_pos (show -(m : Int) < 0 by omega), Int.natAbs_neg, Int.natAbs_natCast, show decide (-((wdR m : Nat) : Int) < 0) = true from decide_eq_true (by omega), Int.natAbs_neg, Int.natAbs_natCast]

set_option linter.unusedVariables false
theorem pla_wS (n : Bool) (m : Nat) (h : m < 2147483648) : Fq.wS (n && !(m == 0)) m = Sg.pla (Fq.wS n m) := by
  unfold Sg.pla Fq.wS
  cases n
  · simp <;> omega
  · by_cases c : m = 0
    · simp [c]
    · simp [c]
theorem pla_wD (n : Bool) (m : Nat) (h : m < 9223372036854775808) : Fq.wD (n && !(m == 0)) m = Fq.pla (Fq.wD n m) := by
  unfold Fq.pla Fq.wD
  cases n
  · simp <;> omega
  · by_cases c : m = 0
    · simp [c]
    · simp [c]
set_option maxRecDepth 20000 in
set_option maxHeartbeats 1000000 in
theorem empty_s_ (w : World) : Calls Try.prog 39 #[] w fun e w' => e = .returned (.agg #[.float .f32 2139095040, .float .f32 4286578688]) ∧ Kp w w' := by
  have c1 : ∀ w : World, (convert 38 26 (.float .f64 9218868437227405312)).run Try.prog w = .ok (.float .f32 2139095040) w := fun w => by kernel_rfl
  have c2 : ∀ w : World, (convert 38 26 (.float .f64 18442240474082181120)).run Try.prog w = .ok (.float .f32 4286578688) w := fun w => by kernel_rfl
  go_enter Try.func39, Try.ntmps39
  go_wp2_with (first | (go_at_call 62; (first | refine (Fq.inf1_ _).mono ?_ | refine (Fq.infm_ _).mono ?_); rintro e w' ⟨rfl, rfl⟩))
  exact bodyPost_ret (v := .agg #[.float .f32 2139095040, .float .f32 4286578688]) (by simp [results, Try.results39, go_sem]) rfl ⟨rfl, (by repeat (with_reducible (first | assumption | exact Kp.refl _ | apply Kp.drew | apply Kp.alloc | apply Kp.drewN | (refine Kp.setCell ?_ (by first | omega | (simp <;> omega)) _) | (refine Kp.trans ?_ (by assumption)))))⟩
theorem plain_s9_ (x : Nat) (h : x < 4294967296) (w : World) : Calls Try.prog 55 #[.float .f32 x] w fun e w' => e = .returned (.float .f32 (Sg.pla x)) ∧ w' = w := by
  obtain ⟨n, m, hm, rfl⟩ := Fq.exS x h
  have g := Fq.plain_s n m hm w
  rw [pla_wS n m hm] at g
  exact g
set_option maxRecDepth 20000 in
set_option maxHeartbeats 1000000 in
theorem read_s_ (a b : Nat) (ha : a < 4294967296) (hb : b < 4294967296) (w : World) : Calls Try.prog 31 #[.agg #[.float .f32 a, .float .f32 b]] w fun e w' => e = .returned (.agg #[.float .f32 (Sg.rlo a b), .float .f32 (Sg.rhi a b)]) ∧ Kp w w' := by
  have t2 := Sg.feqI a ha
  have t3 := Sg.feqM b hb
  have hpa := plain_s9_ a ha
  have hpb := plain_s9_ b hb
  have hu : Kp w w := Kp.refl w
  by_cases h1 : (FloatKind.f32.format.order a b == some Ordering.lt || FloatKind.f32.format.order a b == some Ordering.eq) = true
  · by_cases h2 : a = 2139095040
    · have es : Sg.snd a b = false := by simp [Sg.snd, h2]
      rw [decide_eq_true h2] at t2
      rw [show Sg.rlo a b = 2139095040 from by simp [Sg.rlo, es], show Sg.rhi a b = 4286578688 from by simp [Sg.rhi, es]]
      clear h2 es ha hb
      go_enter Try.func31, Try.ntmps31
      go_wp2_with (first | (go_at_call 39; refine (empty_s_ _).mono ?_; rintro e w1 ⟨rfl, g1⟩; have k1 : Kp w w1 := Kp.trans (((Kp.refl w).alloc _).alloc _) g1; have s1 := H48.keep (H48.new w (.float .f32 a) (.float .f32 b) (.float .f32 0) (.float .f32 0) 47 47) g1; have y0 := fun o => (H48.keep s1 ((Kp.refl w1).alloc o)).1.1; have y1 := fun o => (H48.keep s1 ((Kp.refl w1).alloc o)).1.2.1; have y2 := fun o => (H48.keep s1 ((Kp.refl w1).alloc o)).2.1; have y3 := fun o => (H48.keep s1 ((Kp.refl w1).alloc o)).2.2.1; have y4 := fun o => (H48.keep s1 ((Kp.refl w1).alloc o)).1.2.2.1; have y5 := fun o => (H48.keep s1 ((Kp.refl w1).alloc o)).1.2.2.2; have y6 := fun o => (H48.keep s1 ((Kp.refl w1).alloc o)).2.2.2.1; have y7 := fun o => (H48.keep s1 ((Kp.refl w1).alloc o)).2.2.2.2))
      exact bodyPost_ret (v := .agg #[.float .f32 2139095040, .float .f32 4286578688]) (by simp [results, Try.results31, go_sem, y2, y3]) rfl ⟨rfl, (by first | exact ((k1.alloc _).setCell (by simp <;> omega) _).setCell (by simp <;> omega) _ | repeat (with_reducible (first | assumption | exact Kp.refl _ | apply Kp.drew | apply Kp.alloc | apply Kp.drewN | (refine Kp.setCell ?_ (by first | omega | (simp <;> omega)) _) | (refine Kp.trans ?_ (by assumption)))))⟩
    · rw [decide_eq_false h2] at t2
      by_cases h3 : b = 4286578688
      · have es : Sg.snd a b = false := by simp [Sg.snd, h3]
        rw [decide_eq_true h3] at t3
        rw [show Sg.rlo a b = 2139095040 from by simp [Sg.rlo, es], show Sg.rhi a b = 4286578688 from by simp [Sg.rhi, es]]
        clear h2 h3 es ha hb
        go_enter Try.func31, Try.ntmps31
        go_wp2_with (first | (go_at_call 39; refine (empty_s_ _).mono ?_; rintro e w1 ⟨rfl, g1⟩; have k1 : Kp w w1 := Kp.trans (((Kp.refl w).alloc _).alloc _) g1; have s1 := H48.keep (H48.new w (.float .f32 a) (.float .f32 b) (.float .f32 0) (.float .f32 0) 47 47) g1; have y0 := fun o => (H48.keep s1 ((Kp.refl w1).alloc o)).1.1; have y1 := fun o => (H48.keep s1 ((Kp.refl w1).alloc o)).1.2.1; have y2 := fun o => (H48.keep s1 ((Kp.refl w1).alloc o)).2.1; have y3 := fun o => (H48.keep s1 ((Kp.refl w1).alloc o)).2.2.1; have y4 := fun o => (H48.keep s1 ((Kp.refl w1).alloc o)).1.2.2.1; have y5 := fun o => (H48.keep s1 ((Kp.refl w1).alloc o)).1.2.2.2; have y6 := fun o => (H48.keep s1 ((Kp.refl w1).alloc o)).2.2.2.1; have y7 := fun o => (H48.keep s1 ((Kp.refl w1).alloc o)).2.2.2.2))
        exact bodyPost_ret (v := .agg #[.float .f32 2139095040, .float .f32 4286578688]) (by simp [results, Try.results31, go_sem, y2, y3]) rfl ⟨rfl, (by first | exact ((k1.alloc _).setCell (by simp <;> omega) _).setCell (by simp <;> omega) _ | repeat (with_reducible (first | assumption | exact Kp.refl _ | apply Kp.drew | apply Kp.alloc | apply Kp.drewN | (refine Kp.setCell ?_ (by first | omega | (simp <;> omega)) _) | (refine Kp.trans ?_ (by assumption)))))⟩
      · have es : Sg.snd a b = true := by simp only [Sg.snd, h1, h2, h3]; simp
        rw [decide_eq_false h3] at t3
        rw [show Sg.rlo a b = Sg.pla a from by simp [Sg.rlo, es], show Sg.rhi a b = Sg.pla b from by simp [Sg.rhi, es]]
        clear h2 h3 es ha hb
        go_enter Try.func31, Try.ntmps31
        go_upto_region 5 with (first | (go_at_call 39; refine (empty_s_ _).mono ?_; rintro e w1 ⟨rfl, g1⟩; have k1 : Kp w w1 := Kp.trans (((Kp.refl w).alloc _).alloc _) g1; have s1 := H48.keep (H48.new w (.float .f32 a) (.float .f32 b) (.float .f32 0) (.float .f32 0) 47 47) g1; have y0 := fun o => (H48.keep s1 ((Kp.refl w1).alloc o)).1.1; have y1 := fun o => (H48.keep s1 ((Kp.refl w1).alloc o)).1.2.1; have y2 := fun o => (H48.keep s1 ((Kp.refl w1).alloc o)).2.1; have y3 := fun o => (H48.keep s1 ((Kp.refl w1).alloc o)).2.2.1; have y4 := fun o => (H48.keep s1 ((Kp.refl w1).alloc o)).1.2.2.1; have y5 := fun o => (H48.keep s1 ((Kp.refl w1).alloc o)).1.2.2.2; have y6 := fun o => (H48.keep s1 ((Kp.refl w1).alloc o)).2.2.2.1; have y7 := fun o => (H48.keep s1 ((Kp.refl w1).alloc o)).2.2.2.2))
        have z0 := y0 (.cells #[.float .f32 2139095040, .float .f32 4286578688] 47)
        have z1 := y1 (.cells #[.float .f32 2139095040, .float .f32 4286578688] 47)
        have z2 := y2 (.cells #[.float .f32 2139095040, .float .f32 4286578688] 47)
        have z3 := y3 (.cells #[.float .f32 2139095040, .float .f32 4286578688] 47)
        have z6 := y6 (.cells #[.float .f32 2139095040, .float .f32 4286578688] 47)
        have z7 := y7 (.cells #[.float .f32 2139095040, .float .f32 4286578688] 47)
        have kW := k1.alloc (.cells #[.float .f32 2139095040, .float .f32 4286578688] 47)
        clear y0 y1 y2 y3 y4 y5 y6 y7 s1 k1 g1
        generalize w1.alloc (.cells #[.float .f32 2139095040, .float .f32 4286578688] 47) = W at z0 z1 z2 z3 z6 z7 kW ⊢
        have d0 : W.drew.cell? ⟨w.heap.size, 0, none⟩ = some (.float .f32 a) := by simpa [go_sem] using z0
        have d1 : W.drew.cell? ⟨w.heap.size, 1, none⟩ = some (.float .f32 b) := by simpa [go_sem] using z1
        go_region_held3 (fun w' => w'.cell? ⟨w.heap.size, 0, none⟩ = some (.float .f32 a) ∧ w'.cell? ⟨w.heap.size, 1, none⟩ = some (.float .f32 b)) (first | with_reducible exact ⟨z0, z1⟩ | with_reducible exact ⟨d0, d1⟩ | (simp [go_sem, z0, z1])) (first | (go_at_call 55; (first | refine (hpa _).mono ?_ | refine (hpb _).mono ?_); rintro e w' ⟨rfl, rfl⟩))
        go_wp2
        exact bodyPost_ret (v := .agg #[.float .f32 (Sg.pla a), .float .f32 (Sg.pla b)]) (by simp [results, Try.results31, go_sem, z2, z3]) rfl ⟨rfl, ((kW.drew).setCell (by simp <;> omega) _).setCell (by simp <;> omega) _⟩
  · have h1' : (FloatKind.f32.format.order a b == some Ordering.lt || FloatKind.f32.format.order a b == some Ordering.eq) = false := by simpa using h1
    have es : Sg.snd a b = false := by simp only [Sg.snd, h1']; simp
    rw [show Sg.rlo a b = 2139095040 from by simp [Sg.rlo, es], show Sg.rhi a b = 4286578688 from by simp [Sg.rhi, es]]
    clear h1 es ha hb t2 t3
    go_enter Try.func31, Try.ntmps31
    go_wp2_with (first | (go_at_call 39; refine (empty_s_ _).mono ?_; rintro e w1 ⟨rfl, g1⟩; have k1 : Kp w w1 := Kp.trans (((Kp.refl w).alloc _).alloc _) g1; have s1 := H48.keep (H48.new w (.float .f32 a) (.float .f32 b) (.float .f32 0) (.float .f32 0) 47 47) g1; have y0 := fun o => (H48.keep s1 ((Kp.refl w1).alloc o)).1.1; have y1 := fun o => (H48.keep s1 ((Kp.refl w1).alloc o)).1.2.1; have y2 := fun o => (H48.keep s1 ((Kp.refl w1).alloc o)).2.1; have y3 := fun o => (H48.keep s1 ((Kp.refl w1).alloc o)).2.2.1; have y4 := fun o => (H48.keep s1 ((Kp.refl w1).alloc o)).1.2.2.1; have y5 := fun o => (H48.keep s1 ((Kp.refl w1).alloc o)).1.2.2.2; have y6 := fun o => (H48.keep s1 ((Kp.refl w1).alloc o)).2.2.2.1; have y7 := fun o => (H48.keep s1 ((Kp.refl w1).alloc o)).2.2.2.2))
    exact bodyPost_ret (v := .agg #[.float .f32 2139095040, .float .f32 4286578688]) (by simp [results, Try.results31, go_sem, y2, y3]) rfl ⟨rfl, (by first | exact ((k1.alloc _).setCell (by simp <;> omega) _).setCell (by simp <;> omega) _ | repeat (with_reducible (first | assumption | exact Kp.refl _ | apply Kp.drew | apply Kp.alloc | apply Kp.drewN | (refine Kp.setCell ?_ (by first | omega | (simp <;> omega)) _) | (refine Kp.trans ?_ (by assumption)))))⟩
end Go.Proofs.Ytjkbapnndoldgaa
