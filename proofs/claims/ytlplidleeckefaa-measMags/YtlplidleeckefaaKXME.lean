import Derived.Test.YtlplidleeckefaaProg
import Derived.Test.YtlplidleeckefaaKXA0
import Derived.Test.YtlplidleeckefaaKXM
import Derived.Test.YtlplidleeckefaaKXY
import Derived.Test.YtlplidleeckefaaKXQF
import Derived.Test.YtlplidleeckefaaKQA
import Derived.Test.YtlplidleeckefaaKXQU
import Derived.Test.YtlplidleeckefaaKXEA
import Derived.Test.YtlplidleeckefaaKXEE
import Derived.Test.YtlplidleeckefaaKMR7Q
import Derived.Test.YtlplidleeckefaaKXMR
import Derived.Test.YtlplidleeckefaaKXM3
import Derived.Test.YtlplidleeckefaaKXO
import Derived.Test.YtlplidleeckefaaKXO3
import Derived.Test.YtlplidleeckefaaKXH2Q
import Derived.WalkKit
import Derived.ProofKit
import Derived.RowKit3
import Derived.WalkSpells
import Derived.StillTactics
import Derived.Deep.QuietTactic
import Derived.BigQuiet
import Derived.Below
import Derived.Deep.OwnRows
import Derived.OwnWalk
import Derived.Laws.BitsAllLaws
import Derived.Laws.Slices
import Derived.Laws.Bits64b
import Derived.Laws.FloatArith
import Derived.Deep.RegionHeld3
namespace Go.Proofs.Ytlplidleeckefaa
open Go.RowKit
set_option maxRecDepth 20000 in
set_option maxHeartbeats 1000000 in
theorem in8_ (a b : Nat) (w : World) : Calls Try.prog 7 #[.agg #[.int .u64 ((a : Nat) : Int), .int .u64 ((b : Nat) : Int)]] w fun e w' => e = .returned (.agg #[.float .f64 a, .float .f64 b]) ∧ Kp w w' := by
  have h1 := Fq.ff64 a
  have h2 := Fq.ff64 b
  generalize (a : Int) = X at h1 ⊢
  generalize (b : Int) = Y at h2 ⊢
  go_enter Try.func7, Try.ntmps7
  go_wp2
  go_region_held3 (fun w' => w'.cell? ⟨w.heap.size, 0, none⟩ = some (.int .u64 X) ∧ w'.cell? ⟨w.heap.size, 1, none⟩ = some (.int .u64 Y)) (simp [go_sem]) (fail)
  go_wp2
  exact bodyPost_ret (v := .agg #[.float .f64 a, .float .f64 b]) (by simp [results, Try.results7, go_sem]) rfl ⟨rfl, (by repeat (with_reducible (first | assumption | exact Kp.refl _ | apply Kp.drew | apply Kp.alloc | apply Kp.drewN | (refine Kp.setCell ?_ (by first | omega | (simp <;> omega)) _) | (refine Kp.trans ?_ (by assumption)))))⟩
set_option maxRecDepth 20000 in
set_option maxHeartbeats 1000000 in
theorem is8_ (n : Bool) (m : Nat) (hm : m ≤ 9218868437227405312) (w : World) : Calls Try.prog 5 #[.float .f64 (Fq.wD n m), .int .u64 ((Fq.wD n m : Nat) : Int)] w fun e w' => e = .returned (.bool true) ∧ w' = w := by
  have hn := Fq.isnan6_ n m (by omega)
  rw [decide_eq_false (by omega)] at hn
  have hf := Fq.fb64 (Fq.wD n m)
  generalize Fq.wD n m = X at hn hf ⊢
  clear hm
  go_enter Try.func5, Try.ntmps5
  go_wp2_with (first | (go_at_call 15; refine (hn _).mono ?_; rintro e w' ⟨rfl, rfl⟩))
  exact bodyPost_ret (v := .bool true) (by simp [results, Try.results5, go_sem]) rfl ⟨rfl, rfl⟩
set_option maxRecDepth 20000 in
set_option maxHeartbeats 1000000 in
theorem isN8_ (w : World) : Calls Try.prog 5 #[.float .f64 9221120237041090561, .int .u64 9221120237041090561] w fun e w' => e = .returned (.bool true) ∧ w' = w := by
  have hn : ∀ w : World, Calls Try.prog 15 #[.int .u64 9221120237041090561] w fun e w' => e = .returned (.bool true) ∧ w' = w := Fq.isnan6_ false 9221120237041090561 (by decide)
  have hq : (FloatKind.f64.format.order 9221120237041090561 9221120237041090561 == some Ordering.eq) = false := by
    have h := Fq.feq false false 9221120237041090561 9221120237041090561 (by decide) (by decide)
    rw [decide_eq_false (by omega)] at h
    exact h
  obtain ⟨X, hX⟩ : ∃ X : Nat, X = 9221120237041090561 := ⟨_, rfl⟩
  rw [← hX] at hq ⊢
  clear hX
  go_enter Try.func5, Try.ntmps5
  go_wp2_with (first | (go_at_call 15; refine (hn _).mono ?_; rintro e w' ⟨rfl, rfl⟩))
  exact bodyPost_ret (v := .bool true) (by simp [results, Try.results5, go_sem] <;> simpa using hq) rfl ⟨rfl, rfl⟩
theorem snd_read8 (a b : Nat) (ha : a < 18446744073709551616) (hb : b < 18446744073709551616) (s1 : Fq.snd a b = true) : Fq.snd (Fq.rlo a b) (Fq.rhi a b) = true := by
  obtain ⟨n, m, hm, rfl⟩ := Fq.exD a ha
  obtain ⟨g, r, hr, rfl⟩ := Fq.exD b hb
  have e1 : Fq.rlo (Fq.wD n m) (Fq.wD g r) = Fq.wD (if n = true ∧ m = 0 then false else n) m := by
    simp only [Fq.rlo, s1, if_true]
    unfold Fq.pla Fq.wD
    cases n <;> by_cases z : m = 0 <;> simp [z] <;> omega
  have e2 : Fq.rhi (Fq.wD n m) (Fq.wD g r) = Fq.wD (if g = true ∧ r = 0 then false else g) r := by
    simp only [Fq.rhi, s1, if_true]
    unfold Fq.pla Fq.wD
    cases g <;> by_cases z : r = 0 <;> simp [z] <;> omega
  rw [e1, e2, Fq.snd_w _ _ _ _ hm hr]
  rw [Fq.snd_w _ _ _ _ hm hr] at s1
  have h := of_decide_eq_true s1
  apply decide_eq_true
  have p1 : Fq.plz (if n = true ∧ m = 0 then false else n) m = Fq.plz n m := by
    unfold Fq.plz; cases n <;> by_cases z : m = 0 <;> simp [z]
  have p2 : Fq.plz (if g = true ∧ r = 0 then false else g) r = Fq.plz g r := by
    unfold Fq.plz; cases g <;> by_cases z : r = 0 <;> simp [z]
  rw [p1, p2]
  refine ⟨h.1, h.2.1, h.2.2.1, ?_, ?_⟩
  · rintro ⟨h1, h2⟩
    rw [if_neg (by omega)] at h1
    exact h.2.2.2.1 ⟨h1, h2⟩
  · rintro ⟨h1, h2⟩
    rw [if_neg (by omega)] at h1
    exact h.2.2.2.2 ⟨h1, h2⟩
theorem pla_pla8 (x : Nat) : Fq.pla (Fq.pla x) = Fq.pla x := by unfold Fq.pla; split <;> simp_all
theorem rlo_read8 (a b : Nat) (ha : a < 18446744073709551616) (hb : b < 18446744073709551616) (s1 : Fq.snd a b = true) : Fq.rlo (Fq.rlo a b) (Fq.rhi a b) = Fq.rlo a b := by
  have h := snd_read8 a b ha hb s1
  rw [Fq.rlo, if_pos h]
  simp only [Fq.rlo, s1, if_true, pla_pla8]
theorem rhi_read8 (a b : Nat) (ha : a < 18446744073709551616) (hb : b < 18446744073709551616) (s1 : Fq.snd a b = true) : Fq.rhi (Fq.rlo a b) (Fq.rhi a b) = Fq.rhi a b := by
  have h := snd_read8 a b ha hb s1
  rw [Fq.rhi, if_pos h]
  simp only [Fq.rhi, s1, if_true, pla_pla8]
theorem isZ8_ (Z : Nat) (h : Z ≤ 9218868437227405312 ∨ Z = 9221120237041090561) (w : World) : Calls Try.prog 5 #[.float .f64 Z, .int .u64 (Z : Int)] w fun e w' => e = .returned (.bool true) ∧ Kp w w' := by
  rcases h with h | h
  · exact (is8_ false Z h w).mono (fun e w' h => ⟨h.1, by rw [h.2]; exact Kp.refl _⟩)
  · subst h
    exact (isN8_ w).mono (fun e w' h => ⟨h.1, by rw [h.2]; exact Kp.refl _⟩)
namespace Fq
theorem eqInM (a c : Nat) (w : World) : (Op.equalIn 9999 26 (.float .f64 a) (.float .f64 c)).run Try.prog w = .ok (FloatKind.f64.format.order a c == some Ordering.eq) w := by kernel_rfl
set_option maxRecDepth 20000 in
set_option maxHeartbeats 1000000 in
theorem voidM_ (a b : Nat) (ha : a < 18446744073709551616) (hb : b < 18446744073709551616) (w : World) : Calls Try.prog 20 #[.agg #[.float .f64 a, .float .f64 b]] w fun e w' => e = .returned (.bool (decide (a = 9218868437227405312 ∧ b = 18442240474082181120))) ∧ Grown w w' := by
  have t2 := feqI a ha
  have t3 := feqM b hb
  have e1 : (decide (a = 9218868437227405312 ∧ b = 18442240474082181120)) = ((FloatKind.f64.format.order a 9218868437227405312 == some Ordering.eq) && (FloatKind.f64.format.order b 18442240474082181120 == some Ordering.eq)) := by
    rw [t2, t3]; by_cases c1 : a = 9218868437227405312 <;> by_cases c2 : b = 18442240474082181120 <;> simp [c1, c2]
  rw [e1]
  clear e1 t2 t3 ha hb
  have h0 := eqInM a 9218868437227405312
  have h1 := eqInM b 18442240474082181120
  generalize g1 : (FloatKind.f64.format.order a 9218868437227405312 == some Ordering.eq) = B1 at h0 ⊢
  generalize g2 : (FloatKind.f64.format.order b 18442240474082181120 == some Ordering.eq) = B2 at h1 ⊢
  cases B1 <;> cases B2
  · go_enter Try.func20, Try.ntmps20
    go_wp2
    go_region_held3 (fun w' => w'.cell? ⟨w.heap.size, 0, none⟩ = some (.float .f64 a) ∧ w'.cell? ⟨w.heap.size, 1, none⟩ = some (.float .f64 b)) (simp [go_sem, World.cell?_alloc_past]) (first | (go_at_call 30; refine (empty6_ _).mono ?_; rintro e w' ⟨rfl, rfl⟩))
    go_wp2
    exact bodyPost_ret (v := .bool false) (by simp [results, Try.results20, go_sem] <;> simp only [*]) rfl ⟨rfl, (by repeat (with_reducible (first | assumption | exact Grown.refl _ | apply Grown.drew | apply Grown.alloc | apply gdrewN | (refine Grown.setCell ?_ (by simp <;> omega) _) | (refine gtrans ?_ (by assumption)))))⟩
  · go_enter Try.func20, Try.ntmps20
    go_wp2
    go_region_held3 (fun w' => w'.cell? ⟨w.heap.size, 0, none⟩ = some (.float .f64 a) ∧ w'.cell? ⟨w.heap.size, 1, none⟩ = some (.float .f64 b)) (simp [go_sem, World.cell?_alloc_past]) (first | (go_at_call 30; refine (empty6_ _).mono ?_; rintro e w' ⟨rfl, rfl⟩))
    go_wp2
    exact bodyPost_ret (v := .bool false) (by simp [results, Try.results20, go_sem] <;> simp only [*]) rfl ⟨rfl, (by repeat (with_reducible (first | assumption | exact Grown.refl _ | apply Grown.drew | apply Grown.alloc | apply gdrewN | (refine Grown.setCell ?_ (by simp <;> omega) _) | (refine gtrans ?_ (by assumption)))))⟩
  · go_enter Try.func20, Try.ntmps20
    go_wp2
    go_region_held3 (fun w' => w'.cell? ⟨w.heap.size, 0, none⟩ = some (.float .f64 a) ∧ w'.cell? ⟨w.heap.size, 1, none⟩ = some (.float .f64 b)) (simp [go_sem, World.cell?_alloc_past]) (first | (go_at_call 30; refine (empty6_ _).mono ?_; rintro e w' ⟨rfl, rfl⟩))
    go_wp2
    exact bodyPost_ret (v := .bool false) (by simp [results, Try.results20, go_sem] <;> simp only [*]) rfl ⟨rfl, (by repeat (with_reducible (first | assumption | exact Grown.refl _ | apply Grown.drew | apply Grown.alloc | apply gdrewN | (refine Grown.setCell ?_ (by simp <;> omega) _) | (refine gtrans ?_ (by assumption)))))⟩
  · go_enter Try.func20, Try.ntmps20
    go_wp2
    go_region_held3 (fun w' => w'.cell? ⟨w.heap.size, 0, none⟩ = some (.float .f64 a) ∧ w'.cell? ⟨w.heap.size, 1, none⟩ = some (.float .f64 b)) (simp [go_sem, World.cell?_alloc_past]) (first | (go_at_call 30; refine (empty6_ _).mono ?_; rintro e w' ⟨rfl, rfl⟩))
    go_wp2
    exact bodyPost_ret (v := .bool true) (by simp [results, Try.results20, go_sem] <;> simp only [*]) rfl ⟨rfl, (by repeat (with_reducible (first | assumption | exact Grown.refl _ | apply Grown.drew | apply Grown.alloc | apply gdrewN | (refine Grown.setCell ?_ (by simp <;> omega) _) | (refine gtrans ?_ (by assumption)))))⟩
end Fq

open Ieee in
theorem fgt8 (n n' : Bool) (m m' : Nat) (h : m < 9223372036854775808) (h' : m' < 9223372036854775808) : (FloatKind.f64.format.order (Fq.wD n m) (Fq.wD n' m') == some Ordering.gt) = decide (m ≤ 9218868437227405312 ∧ m' ≤ 9218868437227405312 ∧ Fq.plz n' m' < Fq.plz n m) := by
  by_cases c : 9218868437227405312 < m
  · rw [Fq.ordD_nanl n m _ c h, decide_eq_false (by omega)]; rfl
  by_cases c' : 9218868437227405312 < m'
  · rw [Fq.ordD_nanr n' m' _ c' h', decide_eq_false (by omega)]; rfl
  rw [Fq.ordD n n' m m' (by omega) (by omega)]
  rcases Int.lt_trichotomy (Fq.plz n m) (Fq.plz n' m') with g | g | g
  · rw [Fq.cmp_lt g, decide_eq_false (by omega)]; rfl
  · rw [Fq.cmp_eq g, decide_eq_false (by omega)]; rfl
  · rw [Fq.cmp_gt g, decide_eq_true ⟨by omega, by omega, by omega⟩]; rfl
theorem flip8 (n : Bool) (m : Nat) (hm : m < 9223372036854775808) : Fq.wD n m ^^^ 9223372036854775808 = Fq.wD (!n) m := by
  obtain ⟨x, hx⟩ : ∃ x, x = Fq.wD n m := ⟨_, rfl⟩
  have h1 : (x ^^^ 9223372036854775808) % 2 ^ 63 = x % 2 ^ 63 := by
    rw [Nat.xor_mod_two_pow, show (9223372036854775808 : Nat) % 2 ^ 63 = 0 from by decide, Nat.xor_zero]
  have h2 : (x ^^^ 9223372036854775808) / 2 ^ 63 = x / 2 ^ 63 ^^^ 1 := by
    rw [← Nat.shiftRight_eq_div_pow, ← Nat.shiftRight_eq_div_pow, Nat.shiftRight_xor_distrib, show (9223372036854775808 : Nat) >>> 63 = 1 from by decide]
  rw [show (2 : Nat) ^ 63 = 9223372036854775808 from by decide] at h1 h2
  rw [← hx]
  generalize hz : x ^^^ 9223372036854775808 = z at h1 h2 ⊢
  clear hz
  cases n
  · have e : x = m := by rw [hx]; unfold Fq.wD; simp
    rw [e, Nat.div_eq_of_lt hm, show (0 : Nat) ^^^ 1 = 1 from by decide] at h2
    rw [e, Nat.mod_eq_of_lt hm] at h1
    unfold Fq.wD
    simp
    omega
  · have e : x = 9223372036854775808 + m := by rw [hx]; unfold Fq.wD; simp
    have e2 : x / 9223372036854775808 = 1 := by omega
    have e3 : x % 9223372036854775808 = m := by omega
    rw [e2, show (1 : Nat) ^^^ 1 = 0 from by decide] at h2
    rw [e3] at h1
    unfold Fq.wD
    simp
    omega
theorem negW8 (n : Bool) (m : Nat) (hm : m < 9223372036854775808) (w : World) : (Op.unary .neg (.float .f64 (Fq.wD n m))).run Try.prog w = .ok (.float .f64 (Fq.wD (!n) m)) w := by
  have h : Op.negFloat .f64 (Fq.wD n m) = Fq.wD (!n) m := by
    unfold Op.negFloat
    exact flip8 n m hm
  rw [← h]; rfl
set_option maxRecDepth 20000 in
set_option maxHeartbeats 400000 in
theorem nan8_ (w : World) : Calls Try.prog 21 #[] w fun e w' => e = .returned (.float .f64 9221120237041090561) ∧ Kp w w' := by
  have h1 : ∀ w : World, (callFunc 18 #[.int .u64 9221120237041090561]).run Try.prog w = .ok (.value (.float .f64 9221120237041090561)) w := Fq.ff64 9221120237041090561
  go_enter Try.func21, Try.ntmps21
  go_wp2
  exact bodyPost_ret (v := .float .f64 9221120237041090561) (by simp [results, Try.results21, go_sem]) rfl ⟨rfl, (by repeat (with_reducible (first | assumption | exact Kp.refl _ | apply Kp.drew | apply Kp.alloc | apply Kp.drewN | (refine Kp.setCell ?_ (by first | omega | (simp <;> omega)) _) | (refine Kp.trans ?_ (by assumption)))))⟩
set_option maxRecDepth 20000 in
set_option maxHeartbeats 400000 in
theorem greater8t_ (X Y : Nat) (t : (FloatKind.f64.format.order X Y == some Ordering.gt) = true) (w : World) : Calls Try.prog 22 #[.float .f64 X, .float .f64 Y] w fun e w' => e = .returned (.float .f64 X) ∧ w' = w := by
  go_enter Try.func22, Try.ntmps22
  go_wp2
  exact bodyPost_ret (v := .float .f64 X) (by simp [results, Try.results22, go_sem]) rfl ⟨rfl, rfl⟩
set_option maxRecDepth 20000 in
set_option maxHeartbeats 400000 in
theorem greater8f_ (X Y : Nat) (t : (FloatKind.f64.format.order X Y == some Ordering.gt) = false) (w : World) : Calls Try.prog 22 #[.float .f64 X, .float .f64 Y] w fun e w' => e = .returned (.float .f64 Y) ∧ w' = w := by
  go_enter Try.func22, Try.ntmps22
  go_wp2
  exact bodyPost_ret (v := .float .f64 Y) (by simp [results, Try.results22, go_sem]) rfl ⟨rfl, rfl⟩
theorem greater8_ (m m' : Nat) (h : m ≤ 9218868437227405312) (h' : m' ≤ 9218868437227405312) (w : World) : Calls Try.prog 22 #[.float .f64 m, .float .f64 m'] w fun e w' => e = .returned (.float .f64 (if m' < m then m else m')) ∧ w' = w := by
  have t := fgt8 false false m m' (by omega) (by omega)
  rw [show Fq.wD false m = m from rfl, show Fq.wD false m' = m' from rfl] at t
  by_cases c : m' < m
  · rw [if_pos c]
    exact greater8t_ m m' (by rw [t]; exact decide_eq_true ⟨h, h', by unfold Fq.plz; simp; omega⟩) w
  · rw [if_neg c]
    exact greater8f_ m m' (by rw [t]; exact decide_eq_false (fun x => c (by have := x.2.2; unfold Fq.plz at this; simp at this; omega))) w
theorem void8_ (a b : Nat) (ha : a < 18446744073709551616) (hb : b < 18446744073709551616) (V : Bool) (hs : Fq.snd a b = !V) (w : World) : Calls Try.prog 20 #[.agg #[.float .f64 (Fq.rlo a b), .float .f64 (Fq.rhi a b)]] w fun e w' => e = .returned (.bool V) ∧ Kp w w' := by
  have h := Fq.voidM_ (Fq.rlo a b) (Fq.rhi a b) (Fq.rlo_lt a b ha) (Fq.rhi_lt a b hb) w
  rw [Fq.void_read, hs, Bool.not_not] at h
  exact h
set_option maxRecDepth 20000 in
set_option maxHeartbeats 1000000 in
theorem magN_ (a b LO HI : Nat) (hr : ∀ w : World, Calls Try.prog 17 #[.agg #[.float .f64 a, .float .f64 b]] w fun e w' => e = .returned (.agg #[.float .f64 LO, .float .f64 HI]) ∧ Kp w w') (hv : ∀ w : World, Calls Try.prog 20 #[.agg #[.float .f64 LO, .float .f64 HI]] w fun e w' => e = .returned (.bool true) ∧ Kp w w') (w : World) : Calls Try.prog 11 #[.agg #[.float .f64 a, .float .f64 b]] w fun e w' => e = .returned (.float .f64 9221120237041090561) ∧ Kp w w' := by
  go_enter Try.func11, Try.ntmps11
  go_wp2_with (first | (go_at_call 17; refine (hr _).mono ?_; rintro e w1 ⟨rfl, g1⟩; have q0 := Fq.H2.keep (Fq.H2.new w (.float .f64 a) (.float .f64 b) 29) g1; have kw : Kp w w1 := Kp.trans ((Kp.refl w).alloc _) g1; obtain ⟨x0, x1, x2, x3⟩ := id q0) | (go_at_call 20; refine (hv _).mono ?_; rintro e w2 ⟨rfl, g2⟩; have qx := Fq.H2.keep (Fq.H2.put q0 (.float .f64 LO) (.float .f64 HI)) g2; have kv : Kp w w2 := Kp.trans ((kw.setCell (Nat.le_refl _) _).setCell (Nat.le_refl _) _) g2; obtain ⟨u0, u1, u2, u3⟩ := id qx) | (go_at_call 21; refine (nan8_ _).mono ?_; rintro e w3 ⟨rfl, g3⟩; have kn : Kp w w3 := Kp.trans kv g3))
  exact bodyPost_ret (v := .float .f64 9221120237041090561) (by simp [results, Try.results11, go_sem]) rfl ⟨rfl, kn⟩
set_option maxRecDepth 20000 in
set_option maxHeartbeats 1000000 in
theorem migN_ (a b LO HI : Nat) (hr : ∀ w : World, Calls Try.prog 17 #[.agg #[.float .f64 a, .float .f64 b]] w fun e w' => e = .returned (.agg #[.float .f64 LO, .float .f64 HI]) ∧ Kp w w') (hv : ∀ w : World, Calls Try.prog 20 #[.agg #[.float .f64 LO, .float .f64 HI]] w fun e w' => e = .returned (.bool true) ∧ Kp w w') (w : World) : Calls Try.prog 13 #[.agg #[.float .f64 a, .float .f64 b]] w fun e w' => e = .returned (.float .f64 9221120237041090561) ∧ Kp w w' := by
  go_enter Try.func13, Try.ntmps13
  go_wp2_with (first | (go_at_call 17; refine (hr _).mono ?_; rintro e w1 ⟨rfl, g1⟩; have q0 := Fq.H2.keep (Fq.H2.new w (.float .f64 a) (.float .f64 b) 29) g1; have kw : Kp w w1 := Kp.trans ((Kp.refl w).alloc _) g1; obtain ⟨x0, x1, x2, x3⟩ := id q0) | (go_at_call 20; refine (hv _).mono ?_; rintro e w2 ⟨rfl, g2⟩; have qx := Fq.H2.keep (Fq.H2.put q0 (.float .f64 LO) (.float .f64 HI)) g2; have kv : Kp w w2 := Kp.trans ((kw.setCell (Nat.le_refl _) _).setCell (Nat.le_refl _) _) g2; obtain ⟨u0, u1, u2, u3⟩ := id qx) | (go_at_call 21; refine (nan8_ _).mono ?_; rintro e w3 ⟨rfl, g3⟩; have kn : Kp w w3 := Kp.trans kv g3))
  exact bodyPost_ret (v := .float .f64 9221120237041090561) (by simp [results, Try.results13, go_sem]) rfl ⟨rfl, kn⟩
set_option maxRecDepth 20000 in
set_option maxHeartbeats 1000000 in
theorem magS_ (a b LO HI : Nat) (hr : ∀ w : World, Calls Try.prog 17 #[.agg #[.float .f64 a, .float .f64 b]] w fun e w' => e = .returned (.agg #[.float .f64 LO, .float .f64 HI]) ∧ Kp w w') (hv : ∀ w : World, Calls Try.prog 20 #[.agg #[.float .f64 LO, .float .f64 HI]] w fun e w' => e = .returned (.bool false) ∧ Kp w w') (A9 B9 G9 : Nat) (h1 : ∀ w : World, Calls Try.prog 23 #[.float .f64 LO] w fun e w' => e = .returned (.float .f64 A9) ∧ w' = w) (h2 : ∀ w : World, Calls Try.prog 23 #[.float .f64 HI] w fun e w' => e = .returned (.float .f64 B9) ∧ w' = w) (h3 : ∀ w : World, Calls Try.prog 22 #[.float .f64 A9, .float .f64 B9] w fun e w' => e = .returned (.float .f64 G9) ∧ w' = w) (w : World) : Calls Try.prog 11 #[.agg #[.float .f64 a, .float .f64 b]] w fun e w' => e = .returned (.float .f64 G9) ∧ Kp w w' := by
  go_enter Try.func11, Try.ntmps11
  go_wp2_with (first | (go_at_call 17; refine (hr _).mono ?_; rintro e w1 ⟨rfl, g1⟩; have q0 := Fq.H2.keep (Fq.H2.new w (.float .f64 a) (.float .f64 b) 29) g1; have kw : Kp w w1 := Kp.trans ((Kp.refl w).alloc _) g1; obtain ⟨x0, x1, x2, x3⟩ := id q0) | (go_at_call 20; refine (hv _).mono ?_; rintro e w2 ⟨rfl, g2⟩; have qx := Fq.H2.keep (Fq.H2.put q0 (.float .f64 LO) (.float .f64 HI)) g2; have kv : Kp w w2 := Kp.trans ((kw.setCell (Nat.le_refl _) _).setCell (Nat.le_refl _) _) g2; obtain ⟨u0, u1, u2, u3⟩ := id qx))
  go_quiet (first | (go_at_call_of 23 (Value.float .f64 LO); exact Calls.quiet_of_same (h1 _)) | (go_at_call_of 23 (Value.float .f64 HI); exact Calls.quiet_of_same (h2 _)) | (go_at_call 22; exact Calls.quiet_of_same (h3 _)))
  go_wp2
  exact bodyPost_ret (v := .float .f64 G9) (by simp [results, Try.results11, go_sem]) rfl ⟨rfl, (by repeat (with_reducible (first | assumption | exact Kp.refl _ | apply Kp.drew | apply Kp.alloc | apply Kp.drewN | (refine Kp.setCell ?_ (by first | omega | (simp <;> omega)) _) | (refine Kp.trans ?_ (by assumption)))))⟩
set_option maxRecDepth 20000 in
set_option maxHeartbeats 1000000 in
theorem mig1_ (a b LO HI : Nat) (hr : ∀ w : World, Calls Try.prog 17 #[.agg #[.float .f64 a, .float .f64 b]] w fun e w' => e = .returned (.agg #[.float .f64 LO, .float .f64 HI]) ∧ Kp w w') (hv : ∀ w : World, Calls Try.prog 20 #[.agg #[.float .f64 LO, .float .f64 HI]] w fun e w' => e = .returned (.bool false) ∧ Kp w w') (t1 : (FloatKind.f64.format.order LO 0 == some Ordering.gt) = true) (w : World) : Calls Try.prog 13 #[.agg #[.float .f64 a, .float .f64 b]] w fun e w' => e = .returned (.float .f64 LO) ∧ Kp w w' := by
  go_enter Try.func13, Try.ntmps13
  go_wp2_with (first | (go_at_call 17; refine (hr _).mono ?_; rintro e w1 ⟨rfl, g1⟩; have q0 := Fq.H2.keep (Fq.H2.new w (.float .f64 a) (.float .f64 b) 29) g1; have kw : Kp w w1 := Kp.trans ((Kp.refl w).alloc _) g1; obtain ⟨x0, x1, x2, x3⟩ := id q0) | (go_at_call 20; refine (hv _).mono ?_; rintro e w2 ⟨rfl, g2⟩; have qx := Fq.H2.keep (Fq.H2.put q0 (.float .f64 LO) (.float .f64 HI)) g2; have kv : Kp w w2 := Kp.trans ((kw.setCell (Nat.le_refl _) _).setCell (Nat.le_refl _) _) g2; obtain ⟨u0, u1, u2, u3⟩ := id qx))
  exact bodyPost_ret (v := .float .f64 LO) (by simp [results, Try.results13, go_sem]) rfl ⟨rfl, kv⟩
set_option maxRecDepth 20000 in
set_option maxHeartbeats 1000000 in
theorem mig2_ (a b LO HI : Nat) (hr : ∀ w : World, Calls Try.prog 17 #[.agg #[.float .f64 a, .float .f64 b]] w fun e w' => e = .returned (.agg #[.float .f64 LO, .float .f64 HI]) ∧ Kp w w') (hv : ∀ w : World, Calls Try.prog 20 #[.agg #[.float .f64 LO, .float .f64 HI]] w fun e w' => e = .returned (.bool false) ∧ Kp w w') (G9 : Nat) (hg : ∀ w : World, (Op.unary .neg (.float .f64 HI)).run Try.prog w = .ok (.float .f64 G9) w) (t1 : (FloatKind.f64.format.order LO 0 == some Ordering.gt) = false) (t2 : (FloatKind.f64.format.order HI 0 == some Ordering.lt) = true) (w : World) : Calls Try.prog 13 #[.agg #[.float .f64 a, .float .f64 b]] w fun e w' => e = .returned (.float .f64 G9) ∧ Kp w w' := by
  go_enter Try.func13, Try.ntmps13
  go_wp2_with (first | (go_at_call 17; refine (hr _).mono ?_; rintro e w1 ⟨rfl, g1⟩; have q0 := Fq.H2.keep (Fq.H2.new w (.float .f64 a) (.float .f64 b) 29) g1; have kw : Kp w w1 := Kp.trans ((Kp.refl w).alloc _) g1; obtain ⟨x0, x1, x2, x3⟩ := id q0) | (go_at_call 20; refine (hv _).mono ?_; rintro e w2 ⟨rfl, g2⟩; have qx := Fq.H2.keep (Fq.H2.put q0 (.float .f64 LO) (.float .f64 HI)) g2; have kv : Kp w w2 := Kp.trans ((kw.setCell (Nat.le_refl _) _).setCell (Nat.le_refl _) _) g2; obtain ⟨u0, u1, u2, u3⟩ := id qx))
  exact bodyPost_ret (v := .float .f64 G9) (by simp [results, Try.results13, go_sem]) rfl ⟨rfl, kv⟩
set_option maxRecDepth 20000 in
set_option maxHeartbeats 1000000 in
theorem mig3_ (a b LO HI : Nat) (hr : ∀ w : World, Calls Try.prog 17 #[.agg #[.float .f64 a, .float .f64 b]] w fun e w' => e = .returned (.agg #[.float .f64 LO, .float .f64 HI]) ∧ Kp w w') (hv : ∀ w : World, Calls Try.prog 20 #[.agg #[.float .f64 LO, .float .f64 HI]] w fun e w' => e = .returned (.bool false) ∧ Kp w w') (t1 : (FloatKind.f64.format.order LO 0 == some Ordering.gt) = false) (t2 : (FloatKind.f64.format.order HI 0 == some Ordering.lt) = false) (w : World) : Calls Try.prog 13 #[.agg #[.float .f64 a, .float .f64 b]] w fun e w' => e = .returned (.float .f64 0) ∧ Kp w w' := by
  go_enter Try.func13, Try.ntmps13
  go_wp2_with (first | (go_at_call 17; refine (hr _).mono ?_; rintro e w1 ⟨rfl, g1⟩; have q0 := Fq.H2.keep (Fq.H2.new w (.float .f64 a) (.float .f64 b) 29) g1; have kw : Kp w w1 := Kp.trans ((Kp.refl w).alloc _) g1; obtain ⟨x0, x1, x2, x3⟩ := id q0) | (go_at_call 20; refine (hv _).mono ?_; rintro e w2 ⟨rfl, g2⟩; have qx := Fq.H2.keep (Fq.H2.put q0 (.float .f64 LO) (.float .f64 HI)) g2; have kv : Kp w w2 := Kp.trans ((kw.setCell (Nat.le_refl _) _).setCell (Nat.le_refl _) _) g2; obtain ⟨u0, u1, u2, u3⟩ := id qx))
  exact bodyPost_ret (v := .float .f64 0) (by simp [results, Try.results13, go_sem]) rfl ⟨rfl, kv⟩
end Go.Proofs.Ytlplidleeckefaa
