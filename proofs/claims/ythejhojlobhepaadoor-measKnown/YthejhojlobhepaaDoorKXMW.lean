import Derived.Test.YthejhojlobhepaaDoorProg
import Derived.Test.YthejhojlobhepaaDoorKXA0
import Derived.Test.YthejhojlobhepaaDoorKXM
import Derived.Test.YthejhojlobhepaaDoorKXY
import Derived.Test.YthejhojlobhepaaDoorKXQF
import Derived.Test.YthejhojlobhepaaDoorKQA
import Derived.Test.YthejhojlobhepaaDoorKQP
import Derived.Test.YthejhojlobhepaaDoorKXQU
import Derived.Test.YthejhojlobhepaaDoorKQB
import Derived.Test.YthejhojlobhepaaDoorKQBT
import Derived.Test.YthejhojlobhepaaDoorKQJd
import Derived.Test.YthejhojlobhepaaDoorKXEA
import Derived.Test.YthejhojlobhepaaDoorKXEE
import Derived.Test.YthejhojlobhepaaDoorKMR7Q
import Derived.Test.YthejhojlobhepaaDoorKXMR
import Derived.Test.YthejhojlobhepaaDoorKXM3
import Derived.Test.YthejhojlobhepaaDoorKXO
import Derived.Test.YthejhojlobhepaaDoorKXH2Q
import Derived.Test.YthejhojlobhepaaDoorKXT
import Derived.Test.YthejhojlobhepaaDoorKHB
import Derived.Test.YthejhojlobhepaaDoorKLX
import Derived.Test.YthejhojlobhepaaDoorKLN
import Derived.Test.YthejhojlobhepaaDoorKW4
import Derived.Test.YthejhojlobhepaaDoorKXBY
import Derived.Test.YthejhojlobhepaaDoorKXTZ
import Derived.Test.YthejhojlobhepaaDoorKXG1
import Derived.Test.YthejhojlobhepaaDoorKNSm
import Derived.Test.YthejhojlobhepaaDoorKXS1
import Derived.Test.YthejhojlobhepaaDoorKXET
import Derived.Test.YthejhojlobhepaaDoorKXS4
import Derived.Test.YthejhojlobhepaaDoorKXS8
import Derived.WalkKit
import Derived.ProofKit
import Derived.RowKit3
import Derived.WalkSpells
import Derived.StillTactics
import Derived.Deep.QuietTactic
import Derived.BigQuiet
import Derived.Below
import Derived.Deep.OwnRows
import Derived.OwnWalk
import Derived.Laws.BitsAllLaws
import Derived.Laws.Slices
import Derived.Laws.Bits64b
import Derived.Laws.FloatArith
import Derived.Deep.RegionHeld3
namespace Go.Proofs.YthejhojlobhepaaDoor
open Go.RowKit
set_option maxRecDepth 20000 in
set_option maxHeartbeats 1000000 in
theorem is8_ (n : Bool) (m : Nat) (hm : m ≤ 9218868437227405312) (w : World) : Calls Tryd.prog 13 #[.float .f64 (Fq.wD n m), .int .u64 ((Fq.wD n m : Nat) : Int)] w fun e w' => e = .returned (.bool true) ∧ w' = w := by
  have hn := Fq.isnan6_ n m (by omega)
  rw [decide_eq_false (by omega)] at hn
  have hf := Fq.fb64 (Fq.wD n m)
  generalize Fq.wD n m = X at hn hf ⊢
  clear hm
  go_enter Tryd.func13, Tryd.ntmps13
  go_wp2_with (first | (go_at_call 25; refine (hn _).mono ?_; rintro e w' ⟨rfl, rfl⟩))
  exact bodyPost_ret (v := .bool true) (by simp [results, Tryd.results13, go_sem]) rfl ⟨rfl, rfl⟩
set_option maxRecDepth 20000 in
set_option maxHeartbeats 1000000 in
theorem isN8_ (w : World) : Calls Tryd.prog 13 #[.float .f64 9221120237041090561, .int .u64 9221120237041090561] w fun e w' => e = .returned (.bool true) ∧ w' = w := by
  have hn : ∀ w : World, Calls Tryd.prog 25 #[.int .u64 9221120237041090561] w fun e w' => e = .returned (.bool true) ∧ w' = w := Fq.isnan6_ false 9221120237041090561 (by decide)
  have hq : (FloatKind.f64.format.order 9221120237041090561 9221120237041090561 == some Ordering.eq) = false := by
    have h := Fq.feq false false 9221120237041090561 9221120237041090561 (by decide) (by decide)
    rw [decide_eq_false (by omega)] at h
    exact h
  obtain ⟨X, hX⟩ : ∃ X : Nat, X = 9221120237041090561 := ⟨_, rfl⟩
  rw [← hX] at hq ⊢
  clear hX
  go_enter Tryd.func13, Tryd.ntmps13
  go_wp2_with (first | (go_at_call 25; refine (hn _).mono ?_; rintro e w' ⟨rfl, rfl⟩))
  exact bodyPost_ret (v := .bool true) (by simp [results, Tryd.results13, go_sem] <;> simpa using hq) rfl ⟨rfl, rfl⟩
theorem snd_read8 (a b : Nat) (ha : a < 18446744073709551616) (hb : b < 18446744073709551616) (s1 : Fq.snd a b = true) : Fq.snd (Fq.rlo a b) (Fq.rhi a b) = true := by
  obtain ⟨n, m, hm, rfl⟩ := Fq.exD a ha
  obtain ⟨g, r, hr, rfl⟩ := Fq.exD b hb
  have e1 : Fq.rlo (Fq.wD n m) (Fq.wD g r) = Fq.wD (if n = true ∧ m = 0 then false else n) m := by
    simp only [Fq.rlo, s1, if_true]
    unfold Fq.pla Fq.wD
    cases n <;> by_cases z : m = 0 <;> simp [z] <;> omega
  have e2 : Fq.rhi (Fq.wD n m) (Fq.wD g r) = Fq.wD (if g = true ∧ r = 0 then false else g) r := by
    simp only [Fq.rhi, s1, if_true]
    unfold Fq.pla Fq.wD
    cases g <;> by_cases z : r = 0 <;> simp [z] <;> omega
  rw [e1, e2, Fq.snd_w _ _ _ _ hm hr]
  rw [Fq.snd_w _ _ _ _ hm hr] at s1
  have h := of_decide_eq_true s1
  apply decide_eq_true
  have p1 : Fq.plz (if n = true ∧ m = 0 then false else n) m = Fq.plz n m := by
    unfold Fq.plz; cases n <;> by_cases z : m = 0 <;> simp [z]
  have p2 : Fq.plz (if g = true ∧ r = 0 then false else g) r = Fq.plz g r := by
    unfold Fq.plz; cases g <;> by_cases z : r = 0 <;> simp [z]
  rw [p1, p2]
  refine ⟨h.1, h.2.1, h.2.2.1, ?_, ?_⟩
  · rintro ⟨h1, h2⟩
    rw [if_neg (by omega)] at h1
    exact h.2.2.2.1 ⟨h1, h2⟩
  · rintro ⟨h1, h2⟩
    rw [if_neg (by omega)] at h1
    exact h.2.2.2.2 ⟨h1, h2⟩
theorem pla_pla8 (x : Nat) : Fq.pla (Fq.pla x) = Fq.pla x := by unfold Fq.pla; split <;> simp_all
theorem rlo_read8 (a b : Nat) (ha : a < 18446744073709551616) (hb : b < 18446744073709551616) (s1 : Fq.snd a b = true) : Fq.rlo (Fq.rlo a b) (Fq.rhi a b) = Fq.rlo a b := by
  have h := snd_read8 a b ha hb s1
  rw [Fq.rlo, if_pos h]
  simp only [Fq.rlo, s1, if_true, pla_pla8]
theorem rhi_read8 (a b : Nat) (ha : a < 18446744073709551616) (hb : b < 18446744073709551616) (s1 : Fq.snd a b = true) : Fq.rhi (Fq.rlo a b) (Fq.rhi a b) = Fq.rhi a b := by
  have h := snd_read8 a b ha hb s1
  rw [Fq.rhi, if_pos h]
  simp only [Fq.rhi, s1, if_true, pla_pla8]
theorem isZ8_ (Z : Nat) (h : Z ≤ 9218868437227405312 ∨ Z = 9221120237041090561) (w : World) : Calls Tryd.prog 13 #[.float .f64 Z, .int .u64 (Z : Int)] w fun e w' => e = .returned (.bool true) ∧ Kp w w' := by
  rcases h with h | h
  · exact (is8_ false Z h w).mono (fun e w' h => ⟨h.1, by rw [h.2]; exact Kp.refl _⟩)
  · subst h
    exact (isN8_ w).mono (fun e w' h => ⟨h.1, by rw [h.2]; exact Kp.refl _⟩)
namespace Fq
theorem eqInM (a c : Nat) (w : World) : (Op.equalIn 9999 22 (.float .f64 a) (.float .f64 c)).run Tryd.prog w = .ok (FloatKind.f64.format.order a c == some Ordering.eq) w := by kernel_rfl
set_option maxRecDepth 20000 in
set_option maxHeartbeats 1000000 in
theorem voidM_ (a b : Nat) (ha : a < 18446744073709551616) (hb : b < 18446744073709551616) (w : World) : Calls Tryd.prog 17 #[.agg #[.float .f64 a, .float .f64 b]] w fun e w' => e = .returned (.bool (decide (a = 9218868437227405312 ∧ b = 18442240474082181120))) ∧ Grown w w' := by
  have t2 := feqI a ha
  have t3 := feqM b hb
  have e1 : (decide (a = 9218868437227405312 ∧ b = 18442240474082181120)) = ((FloatKind.f64.format.order a 9218868437227405312 == some Ordering.eq) && (FloatKind.f64.format.order b 18442240474082181120 == some Ordering.eq)) := by
    rw [t2, t3]; by_cases c1 : a = 9218868437227405312 <;> by_cases c2 : b = 18442240474082181120 <;> simp [c1, c2]
  rw [e1]
  clear e1 t2 t3 ha hb
  have h0 := eqInM a 9218868437227405312
  have h1 := eqInM b 18442240474082181120
  generalize g1 : (FloatKind.f64.format.order a 9218868437227405312 == some Ordering.eq) = B1 at h0 ⊢
  generalize g2 : (FloatKind.f64.format.order b 18442240474082181120 == some Ordering.eq) = B2 at h1 ⊢
  cases B1 <;> cases B2
  · go_enter Tryd.func17, Tryd.ntmps17
    go_wp2
    go_region_held3 (fun w' => w'.cell? ⟨w.heap.size, 0, none⟩ = some (.float .f64 a) ∧ w'.cell? ⟨w.heap.size, 1, none⟩ = some (.float .f64 b)) (simp [go_sem, World.cell?_alloc_past]) (first | (go_at_call 27; refine (empty6_ _).mono ?_; rintro e w' ⟨rfl, rfl⟩))
    go_wp2
    exact bodyPost_ret (v := .bool false) (by simp [results, Tryd.results17, go_sem] <;> simp only [*]) rfl ⟨rfl, (by repeat (with_reducible (first | assumption | exact Grown.refl _ | apply Grown.drew | apply Grown.alloc | apply gdrewN | (refine Grown.setCell ?_ (by simp <;> omega) _) | (refine gtrans ?_ (by assumption)))))⟩
  · go_enter Tryd.func17, Tryd.ntmps17
    go_wp2
    go_region_held3 (fun w' => w'.cell? ⟨w.heap.size, 0, none⟩ = some (.float .f64 a) ∧ w'.cell? ⟨w.heap.size, 1, none⟩ = some (.float .f64 b)) (simp [go_sem, World.cell?_alloc_past]) (first | (go_at_call 27; refine (empty6_ _).mono ?_; rintro e w' ⟨rfl, rfl⟩))
    go_wp2
    exact bodyPost_ret (v := .bool false) (by simp [results, Tryd.results17, go_sem] <;> simp only [*]) rfl ⟨rfl, (by repeat (with_reducible (first | assumption | exact Grown.refl _ | apply Grown.drew | apply Grown.alloc | apply gdrewN | (refine Grown.setCell ?_ (by simp <;> omega) _) | (refine gtrans ?_ (by assumption)))))⟩
  · go_enter Tryd.func17, Tryd.ntmps17
    go_wp2
    go_region_held3 (fun w' => w'.cell? ⟨w.heap.size, 0, none⟩ = some (.float .f64 a) ∧ w'.cell? ⟨w.heap.size, 1, none⟩ = some (.float .f64 b)) (simp [go_sem, World.cell?_alloc_past]) (first | (go_at_call 27; refine (empty6_ _).mono ?_; rintro e w' ⟨rfl, rfl⟩))
    go_wp2
    exact bodyPost_ret (v := .bool false) (by simp [results, Tryd.results17, go_sem] <;> simp only [*]) rfl ⟨rfl, (by repeat (with_reducible (first | assumption | exact Grown.refl _ | apply Grown.drew | apply Grown.alloc | apply gdrewN | (refine Grown.setCell ?_ (by simp <;> omega) _) | (refine gtrans ?_ (by assumption)))))⟩
  · go_enter Tryd.func17, Tryd.ntmps17
    go_wp2
    go_region_held3 (fun w' => w'.cell? ⟨w.heap.size, 0, none⟩ = some (.float .f64 a) ∧ w'.cell? ⟨w.heap.size, 1, none⟩ = some (.float .f64 b)) (simp [go_sem, World.cell?_alloc_past]) (first | (go_at_call 27; refine (empty6_ _).mono ?_; rintro e w' ⟨rfl, rfl⟩))
    go_wp2
    exact bodyPost_ret (v := .bool true) (by simp [results, Tryd.results17, go_sem] <;> simp only [*]) rfl ⟨rfl, (by repeat (with_reducible (first | assumption | exact Grown.refl _ | apply Grown.drew | apply Grown.alloc | apply gdrewN | (refine Grown.setCell ?_ (by simp <;> omega) _) | (refine gtrans ?_ (by assumption)))))⟩
end Fq

theorem iv_lt8 (n n' : Bool) (m m' : Nat) : Iv n m < Iv n' m' ↔ Fq.plz n m < Fq.plz n' m' := by
  have h1 := Fq.vV_lt_iff Ieee.double m m'
  have h2 := Fq.vV_lt_iff Ieee.double m' m
  have h3 := vV_zero_iff m
  have h4 := vV_zero_iff m'
  unfold Iv Fq.plz
  cases n <;> cases n' <;> simp <;> omega
open Ieee in
theorem fgt8 (n n' : Bool) (m m' : Nat) (h : m < 9223372036854775808) (h' : m' < 9223372036854775808) : (FloatKind.f64.format.order (Fq.wD n m) (Fq.wD n' m') == some Ordering.gt) = decide (m ≤ 9218868437227405312 ∧ m' ≤ 9218868437227405312 ∧ Fq.plz n' m' < Fq.plz n m) := by
  by_cases c : 9218868437227405312 < m
  · rw [Fq.ordD_nanl n m _ c h, decide_eq_false (by omega)]; rfl
  by_cases c' : 9218868437227405312 < m'
  · rw [Fq.ordD_nanr n' m' _ c' h', decide_eq_false (by omega)]; rfl
  rw [Fq.ordD n n' m m' (by omega) (by omega)]
  rcases Int.lt_trichotomy (Fq.plz n m) (Fq.plz n' m') with g | g | g
  · rw [Fq.cmp_lt g, decide_eq_false (by omega)]; rfl
  · rw [Fq.cmp_eq g, decide_eq_false (by omega)]; rfl
  · rw [Fq.cmp_gt g, decide_eq_true ⟨by omega, by omega, by omega⟩]; rfl
theorem flip8 (n : Bool) (m : Nat) (hm : m < 9223372036854775808) : Fq.wD n m ^^^ 9223372036854775808 = Fq.wD (!n) m := by
  obtain ⟨x, hx⟩ : ∃ x, x = Fq.wD n m := ⟨_, rfl⟩
  have h1 : (x ^^^ 9223372036854775808) % 2 ^ 63 = x % 2 ^ 63 := by
    rw [Nat.xor_mod_two_pow, show (9223372036854775808 : Nat) % 2 ^ 63 = 0 from by decide, Nat.xor_zero]
  have h2 : (x ^^^ 9223372036854775808) / 2 ^ 63 = x / 2 ^ 63 ^^^ 1 := by
    rw [← Nat.shiftRight_eq_div_pow, ← Nat.shiftRight_eq_div_pow, Nat.shiftRight_xor_distrib, show (9223372036854775808 : Nat) >>> 63 = 1 from by decide]
  rw [show (2 : Nat) ^ 63 = 9223372036854775808 from by decide] at h1 h2
  rw [← hx]
  generalize hz : x ^^^ 9223372036854775808 = z at h1 h2 ⊢
  clear hz
  cases n
  · have e : x = m := by rw [hx]; unfold Fq.wD; simp
    rw [e, Nat.div_eq_of_lt hm, show (0 : Nat) ^^^ 1 = 1 from by decide] at h2
    rw [e, Nat.mod_eq_of_lt hm] at h1
    unfold Fq.wD
    simp
    omega
  · have e : x = 9223372036854775808 + m := by rw [hx]; unfold Fq.wD; simp
    have e2 : x / 9223372036854775808 = 1 := by omega
    have e3 : x % 9223372036854775808 = m := by omega
    rw [e2, show (1 : Nat) ^^^ 1 = 0 from by decide] at h2
    rw [e3] at h1
    unfold Fq.wD
    simp
    omega
theorem negW8 (n : Bool) (m : Nat) (hm : m < 9223372036854775808) (w : World) : (Op.unary .neg (.float .f64 (Fq.wD n m))).run Tryd.prog w = .ok (.float .f64 (Fq.wD (!n) m)) w := by
  have h : Op.negFloat .f64 (Fq.wD n m) = Fq.wD (!n) m := by
    unfold Op.negFloat
    exact flip8 n m hm
  rw [← h]; rfl
set_option maxRecDepth 20000 in
set_option maxHeartbeats 400000 in
theorem nan8_ (w : World) : Calls Tryd.prog 18 #[] w fun e w' => e = .returned (.float .f64 9221120237041090561) ∧ Kp w w' := by
  have h1 : ∀ w : World, (callFunc 15 #[.int .u64 9221120237041090561]).run Tryd.prog w = .ok (.value (.float .f64 9221120237041090561)) w := Fq.ff64 9221120237041090561
  go_enter Tryd.func18, Tryd.ntmps18
  go_wp2
  exact bodyPost_ret (v := .float .f64 9221120237041090561) (by simp [results, Tryd.results18, go_sem]) rfl ⟨rfl, (by repeat (with_reducible (first | assumption | exact Kp.refl _ | apply Kp.drew | apply Kp.alloc | apply Kp.drewN | (refine Kp.setCell ?_ (by first | omega | (simp <;> omega)) _) | (refine Kp.trans ?_ (by assumption)))))⟩
set_option maxRecDepth 20000 in
set_option maxHeartbeats 400000 in
theorem greater8t_ (X Y : Nat) (t : (FloatKind.f64.format.order X Y == some Ordering.gt) = true) (w : World) : Calls Tryd.prog 23 #[.float .f64 X, .float .f64 Y] w fun e w' => e = .returned (.float .f64 X) ∧ w' = w := by
  go_enter Tryd.func23, Tryd.ntmps23
  go_wp2
  exact bodyPost_ret (v := .float .f64 X) (by simp [results, Tryd.results23, go_sem]) rfl ⟨rfl, rfl⟩
set_option maxRecDepth 20000 in
set_option maxHeartbeats 400000 in
theorem greater8f_ (X Y : Nat) (t : (FloatKind.f64.format.order X Y == some Ordering.gt) = false) (w : World) : Calls Tryd.prog 23 #[.float .f64 X, .float .f64 Y] w fun e w' => e = .returned (.float .f64 Y) ∧ w' = w := by
  go_enter Tryd.func23, Tryd.ntmps23
  go_wp2
  exact bodyPost_ret (v := .float .f64 Y) (by simp [results, Tryd.results23, go_sem]) rfl ⟨rfl, rfl⟩
theorem greater8_ (m m' : Nat) (h : m ≤ 9218868437227405312) (h' : m' ≤ 9218868437227405312) (w : World) : Calls Tryd.prog 23 #[.float .f64 m, .float .f64 m'] w fun e w' => e = .returned (.float .f64 (if m' < m then m else m')) ∧ w' = w := by
  have t := fgt8 false false m m' (by omega) (by omega)
  rw [show Fq.wD false m = m from rfl, show Fq.wD false m' = m' from rfl] at t
  by_cases c : m' < m
  · rw [if_pos c]
    exact greater8t_ m m' (by rw [t]; exact decide_eq_true ⟨h, h', by unfold Fq.plz; simp; omega⟩) w
  · rw [if_neg c]
    exact greater8f_ m m' (by rw [t]; exact decide_eq_false (fun x => c (by have := x.2.2; unfold Fq.plz at this; simp at this; omega))) w
theorem void8_ (a b : Nat) (ha : a < 18446744073709551616) (hb : b < 18446744073709551616) (V : Bool) (hs : Fq.snd a b = !V) (w : World) : Calls Tryd.prog 17 #[.agg #[.float .f64 (Fq.rlo a b), .float .f64 (Fq.rhi a b)]] w fun e w' => e = .returned (.bool V) ∧ Kp w w' := by
  have h := Fq.voidM_ (Fq.rlo a b) (Fq.rhi a b) (Fq.rlo_lt a b ha) (Fq.rhi_lt a b hb) w
  rw [Fq.void_read, hs, Bool.not_not] at h
  exact h
set_option maxRecDepth 20000 in
set_option maxHeartbeats 400000 in
theorem psubA_ (X Y V R : Nat) (d : Int) (h2 : ∀ w : World, (Op.unary .neg (.float .f64 Y)).run Tryd.prog w = .ok (.float .f64 V) w) (w : World) (h1 : Calls Tryd.prog 32 #[.int .i64 d, .float .f64 X, .float .f64 V] w fun e w' => e = .returned (.float .f64 R) ∧ Kp w w') : Calls Tryd.prog 31 #[.int .i64 d, .float .f64 X, .float .f64 Y] w fun e w' => e = .returned (.float .f64 R) ∧ Kp w w' := by
  go_enter Tryd.func31, Tryd.ntmps31
  go_wp2_with (first | (go_at_call 32; refine h1.mono ?_; rintro e w1 ⟨rfl, g1⟩))
  exact bodyPost_ret (v := .float .f64 R) (by simp [results, Tryd.results31, go_sem]) rfl ⟨rfl, g1⟩
set_option maxRecDepth 20000 in
set_option maxHeartbeats 400000 in
theorem apL_ (X Y R : Nat) (t1 : (FloatKind.f64.format.order X Y == some Ordering.lt) = true) (w : World) (h1 : Calls Tryd.prog 31 #[.int .i64 1, .float .f64 Y, .float .f64 X] w fun e w' => e = .returned (.float .f64 R) ∧ Kp w w') : Calls Tryd.prog 22 #[.float .f64 X, .float .f64 Y] w fun e w' => e = .returned (.float .f64 R) ∧ Kp w w' := by
  go_enter Tryd.func22, Tryd.ntmps22
  go_wp2_with (first | (go_at_call 31; refine h1.mono ?_; rintro e w1 ⟨rfl, g1⟩))
  exact bodyPost_ret (v := .float .f64 R) (by simp [results, Tryd.results22, go_sem]) rfl ⟨rfl, g1⟩
set_option maxRecDepth 20000 in
set_option maxHeartbeats 400000 in
theorem apG_ (X Y R : Nat) (t1 : (FloatKind.f64.format.order X Y == some Ordering.lt) = false) (t2 : (FloatKind.f64.format.order X Y == some Ordering.gt) = true) (w : World) (h1 : Calls Tryd.prog 31 #[.int .i64 1, .float .f64 X, .float .f64 Y] w fun e w' => e = .returned (.float .f64 R) ∧ Kp w w') : Calls Tryd.prog 22 #[.float .f64 X, .float .f64 Y] w fun e w' => e = .returned (.float .f64 R) ∧ Kp w w' := by
  go_enter Tryd.func22, Tryd.ntmps22
  go_wp2_with (first | (go_at_call 31; refine h1.mono ?_; rintro e w1 ⟨rfl, g1⟩))
  exact bodyPost_ret (v := .float .f64 R) (by simp [results, Tryd.results22, go_sem]) rfl ⟨rfl, g1⟩
set_option maxRecDepth 20000 in
set_option maxHeartbeats 400000 in
theorem apE_ (X Y : Nat) (t1 : (FloatKind.f64.format.order X Y == some Ordering.lt) = false) (t2 : (FloatKind.f64.format.order X Y == some Ordering.gt) = false) (w : World) : Calls Tryd.prog 22 #[.float .f64 X, .float .f64 Y] w fun e w' => e = .returned (.float .f64 0) ∧ Kp w w' := by
  go_enter Tryd.func22, Tryd.ntmps22
  go_wp2
  exact bodyPost_ret (v := .float .f64 0) (by simp [results, Tryd.results22, go_sem]) rfl ⟨rfl, (by repeat (with_reducible (first | assumption | exact Kp.refl _ | apply Kp.drew | apply Kp.alloc | apply Kp.drewN | (refine Kp.setCell ?_ (by first | omega | (simp <;> omega)) _) | (refine Kp.trans ?_ (by assumption)))))⟩
/-- how far two ends lie apart, rounded up -/
def apW (n : Bool) (m : Nat) (n' : Bool) (m' : Nat) : Nat := if Fq.plz n m = Fq.plz n' m' then 0 else if m = 9218868437227405312 ∨ m' = 9218868437227405312 then 9218868437227405312 else sumW 1 (if Fq.plz n m < Fq.plz n' m' then Iv n' m' - Iv n m else Iv n m - Iv n' m')
theorem fin_le8 (d : Int) (U : Nat) : finU 53 2098 9218868437227405311 9218868437227405312 d U ≤ 9218868437227405312 := by
  unfold finU
  split
  · next h =>
    unfold rgU
    by_cases c : U = 0
    · rw [c, blen_zero]; simp
    · obtain ⟨h1, h2, h3⟩ := blen_spec U c
      have h4 : U / 2 ^ (blen U - 53) < 9007199254740992 := by
        have := blen_shr U (blen U - 53)
        have h5 : blen (U / 2 ^ (blen U - 53)) ≤ 53 := by omega
        rw [blen_le_iff, show (2 : Nat) ^ 53 = 9007199254740992 from by decide] at h5
        exact h5
      rw [show (2 : Nat) ^ (53 - 1) = 4503599627370496 from by decide]
      omega
  · split <;> omega
theorem sumW_le8 (d V : Int) (h : 0 ≤ V) : sumW d V ≤ 9218868437227405312 := by
  unfold sumW
  by_cases c : V = 0
  · rw [if_pos c]; omega
  · rw [if_neg c, decide_eq_false (by omega)]
    unfold mdW
    split
    · omega
    · rw [if_neg (by decide)]
      exact fin_le8 _ _
theorem apW_le (n n' : Bool) (m m' : Nat) : apW n m n' m' ≤ 9218868437227405312 := by
  unfold apW
  by_cases c1 : Fq.plz n m = Fq.plz n' m'
  · rw [if_pos c1]; omega
  · rw [if_neg c1]
    by_cases c2 : m = 9218868437227405312 ∨ m' = 9218868437227405312
    · rw [if_pos c2]; omega
    · rw [if_neg c2]
      apply sumW_le8
      by_cases c3 : Fq.plz n m < Fq.plz n' m'
      · rw [if_pos c3]; have := (iv_lt8 n n' m m').2 c3; omega
      · rw [if_neg c3]; have := (iv_lt8 n' n m' m).2 (by omega); omega
theorem psub8_ (n n' : Bool) (m m' : Nat) (hm : m ≤ 9218868437227405312) (hm' : m' ≤ 9218868437227405312) (hlt : Fq.plz n' m' < Fq.plz n m) (w : World) (hT : Tab w) (hQ : Fq.Tab w) : Calls Tryd.prog 31 #[.int .i64 1, .float .f64 (Fq.wD n m), .float .f64 (Fq.wD n' m')] w fun e w' => e = .returned (.float .f64 (if m = 9218868437227405312 ∨ m' = 9218868437227405312 then 9218868437227405312 else sumW 1 (Iv n m - Iv n' m'))) ∧ Kp w w' := by
  have P1 : Fq.plz n m = if n then -(m : Int) else m := by unfold Fq.plz; cases n <;> rfl
  have P2 : Fq.plz n' m' = if n' then -(m' : Int) else m' := by unfold Fq.plz; cases n' <;> rfl
  by_cases c : m = 9218868437227405312 ∨ m' = 9218868437227405312
  · rw [if_pos c]
    have i1 : m = 9218868437227405312 → n = false := fun h => by
      cases n
      · rfl
      · rw [P1, P2, h] at hlt; cases n' <;> simp at hlt <;> omega
    have i2 : m' = 9218868437227405312 → n' = true := fun h => by
      cases n'
      · rw [P1, P2, h] at hlt; cases n <;> simp at hlt <;> omega
      · rfl
    have h := paddI_ 1 n (!n') m m' (by omega) (by omega) (by omega) (fun h => by
      rcases h with h | h | h
      · omega
      · omega
      · exact h.2.2 (by rw [i1 h.1, i2 h.2.1]; rfl)) w
    have e : Fq.wD (if m = 9218868437227405312 then n else !n') 9218868437227405312 = 9218868437227405312 := by
      by_cases c1 : m = 9218868437227405312
      · rw [if_pos c1, i1 c1]; rfl
      · rw [if_neg c1, i2 (by omega)]; rfl
    rw [e] at h
    exact psubA_ _ _ _ _ 1 (negW8 n' m' (by omega)) w h
  · rw [if_neg c, show Iv n m - Iv n' m' = Iv n m + Iv (!n') m' from by rw [iv_not]; omega]
    exact psubA_ _ _ _ _ 1 (negW8 n' m' (by omega)) w (paddF_ 1 n (!n') m m' (by omega) (by omega) w hT hQ (by decide) (by decide))
theorem apart8_ (n n' : Bool) (m m' : Nat) (hm : m ≤ 9218868437227405312) (hm' : m' ≤ 9218868437227405312) (w : World) (hT : Tab w) (hQ : Fq.Tab w) : Calls Tryd.prog 22 #[.float .f64 (Fq.wD n m), .float .f64 (Fq.wD n' m')] w fun e w' => e = .returned (.float .f64 (apW n m n' m')) ∧ Kp w w' := by
  have f1 := Fq.flt n n' m m' (by omega) (by omega)
  have f2 := fgt8 n n' m m' (by omega) (by omega)
  unfold apW
  rcases Int.lt_trichotomy (Fq.plz n m) (Fq.plz n' m') with g | g | g
  · rw [decide_eq_true ⟨hm, hm', g⟩] at f1
    rw [if_neg (by omega), if_pos g]
    have h := psub8_ n' n m' m hm' hm g w hT hQ
    have e9 : (if m' = 9218868437227405312 ∨ m = 9218868437227405312 then 9218868437227405312 else sumW 1 (Iv n' m' - Iv n m)) = (if m = 9218868437227405312 ∨ m' = 9218868437227405312 then 9218868437227405312 else sumW 1 (Iv n' m' - Iv n m)) := by
      by_cases c : m = 9218868437227405312 ∨ m' = 9218868437227405312
      · rw [if_pos c, if_pos c.symm]
      · rw [if_neg c, if_neg (fun h => c h.symm)]
    rw [e9] at h
    exact apL_ _ _ _ f1 w h
  · rw [decide_eq_false (by omega)] at f1 f2
    rw [if_pos g]
    exact apE_ _ _ f1 f2 w
  · rw [decide_eq_false (by omega)] at f1
    rw [decide_eq_true ⟨hm, hm', g⟩] at f2
    rw [if_neg (show ¬ Fq.plz n m = Fq.plz n' m' by omega), if_neg (show ¬ Fq.plz n m < Fq.plz n' m' by omega)]
    exact apG_ _ _ _ f1 f2 w (psub8_ n n' m m' hm hm' g w hT hQ)
set_option maxRecDepth 20000 in
set_option maxHeartbeats 1000000 in
theorem widN_ (a b LO HI : Nat) (hr : ∀ w : World, Calls Tryd.prog 16 #[.agg #[.float .f64 a, .float .f64 b]] w fun e w' => e = .returned (.agg #[.float .f64 LO, .float .f64 HI]) ∧ Kp w w') (hv : ∀ w : World, Calls Tryd.prog 17 #[.agg #[.float .f64 LO, .float .f64 HI]] w fun e w' => e = .returned (.bool true) ∧ Kp w w') (w : World) : Calls Tryd.prog 10 #[.agg #[.float .f64 a, .float .f64 b]] w fun e w' => e = .returned (.float .f64 9221120237041090561) ∧ Kp w w' := by
  go_enter Tryd.func10, Tryd.ntmps10
  go_wp2_with (first | (go_at_call 16; refine (hr _).mono ?_; rintro e w1 ⟨rfl, g1⟩; have q0 := Fq.H2.keep (Fq.H2.new w (.float .f64 a) (.float .f64 b) 25) g1; have kw : Kp w w1 := Kp.trans ((Kp.refl w).alloc _) g1; obtain ⟨x0, x1, x2, x3⟩ := id q0) | (go_at_call 17; refine (hv _).mono ?_; rintro e w2 ⟨rfl, g2⟩; have qx := Fq.H2.keep (Fq.H2.put q0 (.float .f64 LO) (.float .f64 HI)) g2; have kv : Kp w w2 := Kp.trans ((kw.setCell (Nat.le_refl _) _).setCell (Nat.le_refl _) _) g2; obtain ⟨u0, u1, u2, u3⟩ := id qx) | (go_at_call 18; refine (nan8_ _).mono ?_; rintro e w3 ⟨rfl, g3⟩; have kn : Kp w w3 := Kp.trans kv g3))
  exact bodyPost_ret (v := .float .f64 9221120237041090561) (by simp [results, Tryd.results10, go_sem]) rfl ⟨rfl, kn⟩
set_option maxRecDepth 20000 in
set_option maxHeartbeats 1000000 in
theorem widS_ (a b LO HI : Nat) (hr : ∀ w : World, Calls Tryd.prog 16 #[.agg #[.float .f64 a, .float .f64 b]] w fun e w' => e = .returned (.agg #[.float .f64 LO, .float .f64 HI]) ∧ Kp w w') (hv : ∀ w : World, Calls Tryd.prog 17 #[.agg #[.float .f64 LO, .float .f64 HI]] w fun e w' => e = .returned (.bool false) ∧ Kp w w') (G9 : Nat) (w : World) (h1 : ∀ W : World, Kp w W → Calls Tryd.prog 22 #[.float .f64 LO, .float .f64 HI] W fun e w' => e = .returned (.float .f64 G9) ∧ Kp W w') : Calls Tryd.prog 10 #[.agg #[.float .f64 a, .float .f64 b]] w fun e w' => e = .returned (.float .f64 G9) ∧ Kp w w' := by
  go_enter Tryd.func10, Tryd.ntmps10
  go_wp2_with (first | (go_at_call 16; refine (hr _).mono ?_; rintro e w1 ⟨rfl, g1⟩; have q0 := Fq.H2.keep (Fq.H2.new w (.float .f64 a) (.float .f64 b) 25) g1; have kw : Kp w w1 := Kp.trans ((Kp.refl w).alloc _) g1; obtain ⟨x0, x1, x2, x3⟩ := id q0) | (go_at_call 17; refine (hv _).mono ?_; rintro e w2 ⟨rfl, g2⟩; have qx := Fq.H2.keep (Fq.H2.put q0 (.float .f64 LO) (.float .f64 HI)) g2; have kv : Kp w w2 := Kp.trans ((kw.setCell (Nat.le_refl _) _).setCell (Nat.le_refl _) _) g2; obtain ⟨u0, u1, u2, u3⟩ := id qx) | (go_at_call 22; refine (h1 _ kv).mono ?_; rintro e w3 ⟨rfl, g3⟩; have k3 : Kp w w3 := Kp.trans kv g3))
  exact bodyPost_ret (v := .float .f64 G9) (by simp [results, Tryd.results10, go_sem]) rfl ⟨rfl, k3⟩
theorem rlo_inf (a b : Nat) (hs : Fq.snd a b = true) (n : Bool) (m : Nat) (e1 : Fq.rlo a b = Fq.wD n m) (c : m = 9218868437227405312) : n = true := by
  have h2 : a ≠ 9218868437227405312 := by intro h; rw [h] at hs; simp [Fq.snd] at hs
  have h1 : Fq.rlo a b ≠ 9218868437227405312 := by simp only [Fq.rlo, hs, if_true, Fq.pla]; split <;> omega
  rw [e1, c] at h1
  cases n
  · exact absurd rfl h1
  · rfl
theorem rhi_inf (a b : Nat) (hs : Fq.snd a b = true) (n : Bool) (m : Nat) (e1 : Fq.rhi a b = Fq.wD n m) (c : m = 9218868437227405312) : n = false := by
  have h2 : b ≠ 18442240474082181120 := by intro h; rw [h] at hs; simp [Fq.snd] at hs
  have h1 : Fq.rhi a b ≠ 18442240474082181120 := by simp only [Fq.rhi, hs, if_true, Fq.pla]; split <;> omega
  rw [e1, c] at h1
  cases n
  · rfl
  · exact absurd rfl h1
theorem wD_inj6 (n n' : Bool) (m m' : Nat) (h : m < 9223372036854775808) (h' : m' < 9223372036854775808) (e : Fq.wD n m = Fq.wD n' m') : n = n' ∧ m = m' := by
  unfold Fq.wD at e
  cases n <;> cases n' <;> simp at e ⊢ <;> omega
theorem pla_ne (x : Nat) : Fq.pla x ≠ 9223372036854775808 := by unfold Fq.pla; split <;> omega
theorem rlo_ne (a b : Nat) : Fq.rlo a b ≠ 9223372036854775808 := by
  unfold Fq.rlo
  split
  · exact pla_ne a
  · decide
theorem rhi_ne (a b : Nat) : Fq.rhi a b ≠ 9223372036854775808 := by
  unfold Fq.rhi
  split
  · exact pla_ne b
  · decide

theorem lo_inf8 (a b : Nat) (s1 : Fq.snd a b = true) (n : Bool) (m : Nat) (l1 : m ≤ 9218868437227405312) (e1 : Fq.rlo a b = Fq.wD n m) : ((((Fq.wD n m : Nat) : Int)) == 9218868437227405312) = false := by
  have i1 := rlo_inf a b s1 n m e1
  have h2 : Fq.wD n m ≠ 9218868437227405312 := by
    intro h
    have hh := wD_inj6 n false m 9218868437227405312 (by omega) (by decide) (h.trans rfl)
    have := i1 hh.2
    rw [hh.1] at this; cases this
  simp; omega
theorem rempty8 (a b : Nat) (s1 : Fq.snd a b = false) : Fq.rlo a b = 9218868437227405312 ∧ Fq.rhi a b = 18442240474082181120 := by
  constructor
  · rw [Fq.rlo, if_neg (by rw [s1]; decide)]
  · rw [Fq.rhi, if_neg (by rw [s1]; decide)]
theorem le_read8 (a b : Nat) (ha : a < 18446744073709551616) (hb : b < 18446744073709551616) (s1 : Fq.snd a b = true) (n g : Bool) (m r : Nat) (l1 : m ≤ 9218868437227405312) (l2 : r ≤ 9218868437227405312) (e1 : Fq.rlo a b = Fq.wD n m) (e2 : Fq.rhi a b = Fq.wD g r) : Fq.plz n m ≤ Fq.plz g r := by
  have h := snd_read8 a b ha hb s1
  rw [e1, e2, Fq.snd_w n g m r (by omega) (by omega)] at h
  exact (of_decide_eq_true h).2.2.1
set_option maxRecDepth 20000 in
set_option maxHeartbeats 400000 in
theorem isInfA_ (X R : Nat) (V : Bool) (h1 : ∀ w : World, Calls Tryd.prog 24 #[.float .f64 X] w fun e w' => e = .returned (.float .f64 R) ∧ w' = w) (t : (FloatKind.f64.format.order R 9218868437227405311 == some Ordering.gt) = V) (w : World) : Calls Tryd.prog 29 #[.float .f64 X, .int .i64 0] w fun e w' => e = .returned (.bool V) ∧ w' = w := by
  go_enter Tryd.func29, Tryd.ntmps29
  go_wp2_with (first | (go_at_call 24; refine (h1 _).mono ?_; rintro e w' ⟨rfl, hw'⟩; obtain rfl := hw'.symm; clear hw'))
  exact bodyPost_ret (v := .bool V) (by simp [results, Tryd.results29, go_sem] <;> simpa using t) rfl ⟨rfl, rfl⟩
theorem isInf8_ (n : Bool) (m : Nat) (hm : m ≤ 9218868437227405312) (w : World) : Calls Tryd.prog 29 #[.float .f64 (Fq.wD n m), .int .i64 0] w fun e w' => e = .returned (.bool (decide (m = 9218868437227405312))) ∧ w' = w := by
  have t := fgt8 false false m 9218868437227405311 (by omega) (by decide)
  rw [show Fq.wD false m = m from rfl, show Fq.wD false 9218868437227405311 = 9218868437227405311 from rfl, show decide (m ≤ 9218868437227405312 ∧ 9218868437227405311 ≤ 9218868437227405312 ∧ Fq.plz false 9218868437227405311 < Fq.plz false m) = decide (m = 9218868437227405312) from by congr 1; apply propext; unfold Fq.plz; simp; omega] at t
  exact isInfA_ _ m _ (abs_ n m (by omega)) t w
set_option maxRecDepth 20000 in
set_option maxHeartbeats 400000 in
theorem halfQ_ (X Y S H R : Nat) (h1 : ∀ w : World, (binOp .add 22 (.float .f64 X) (.float .f64 Y)).run Tryd.prog w = .ok (.float .f64 S) w) (h2 : ∀ w : World, Calls Tryd.prog 29 #[.float .f64 S, .int .i64 0] w fun e w' => e = .returned (.bool false) ∧ w' = w) (h3 : ∀ w : World, (binOp .quo 22 (.float .f64 S) (.float .f64 4611686018427387904)).run Tryd.prog w = .ok (.float .f64 H) w) (h4 : ∀ w : World, Calls Tryd.prog 30 #[.float .f64 H] w fun e w' => e = .returned (.float .f64 R) ∧ w' = w) (w : World) : Calls Tryd.prog 20 #[.float .f64 X, .float .f64 Y] w fun e w' => e = .returned (.float .f64 R) ∧ Kp w w' := by
  go_enter Tryd.func20, Tryd.ntmps20
  go_wp2_with (first | (go_at_call 29; refine (h2 _).mono ?_; rintro e w' ⟨rfl, hw'⟩; obtain rfl := hw'.symm; clear hw') | (go_at_call 30; refine (h4 _).mono ?_; rintro e w' ⟨rfl, hw'⟩; obtain rfl := hw'.symm; clear hw'))
  exact bodyPost_ret (v := .float .f64 R) (by simp [results, Tryd.results20, go_sem]) rfl ⟨rfl, (by repeat (with_reducible (first | assumption | exact Kp.refl _ | apply Kp.drew | apply Kp.alloc | apply Kp.drewN | (refine Kp.setCell ?_ (by first | omega | (simp <;> omega)) _) | (refine Kp.trans ?_ (by assumption)))))⟩
set_option maxRecDepth 20000 in
set_option maxHeartbeats 400000 in
theorem halfI_ (X Y S H J R : Nat) (h1 : ∀ w : World, (binOp .add 22 (.float .f64 X) (.float .f64 Y)).run Tryd.prog w = .ok (.float .f64 S) w) (h2 : ∀ w : World, Calls Tryd.prog 29 #[.float .f64 S, .int .i64 0] w fun e w' => e = .returned (.bool true) ∧ w' = w) (h3 : ∀ w : World, (binOp .quo 22 (.float .f64 X) (.float .f64 4611686018427387904)).run Tryd.prog w = .ok (.float .f64 H) w) (h4 : ∀ w : World, (binOp .quo 22 (.float .f64 Y) (.float .f64 4611686018427387904)).run Tryd.prog w = .ok (.float .f64 J) w) (h5 : ∀ w : World, (binOp .add 22 (.float .f64 H) (.float .f64 J)).run Tryd.prog w = .ok (.float .f64 R) w) (w : World) : Calls Tryd.prog 20 #[.float .f64 X, .float .f64 Y] w fun e w' => e = .returned (.float .f64 R) ∧ Kp w w' := by
  go_enter Tryd.func20, Tryd.ntmps20
  go_wp2_with (first | (go_at_call 29; refine (h2 _).mono ?_; rintro e w' ⟨rfl, hw'⟩; obtain rfl := hw'.symm; clear hw'))
  exact bodyPost_ret (v := .float .f64 R) (by simp [results, Tryd.results20, go_sem]) rfl ⟨rfl, (by repeat (with_reducible (first | assumption | exact Kp.refl _ | apply Kp.drew | apply Kp.alloc | apply Kp.drewN | (refine Kp.setCell ?_ (by first | omega | (simp <;> omega)) _) | (refine Kp.trans ?_ (by assumption)))))⟩
theorem half8_ (n n' : Bool) (m m' : Nat) (hm : m < 9218868437227405312) (hm' : m' < 9218868437227405312) (w : World) : Calls Tryd.prog 20 #[.float .f64 (Fq.wD n m), .float .f64 (Fq.wD n' m')] w fun e w' => e = .returned (.float .f64 (hfW (Iv n m + Iv n' m'))) ∧ Kp w w' := by
  obtain ⟨s, r, l1, ha, hq, hi⟩ := half_math n n' m m' hm hm' _ rfl
  have h1 : ∀ w : World, (binOp .add 22 (.float .f64 (Fq.wD n m)) (.float .f64 (Fq.wD n' m'))).run Tryd.prog w = .ok (.float .f64 (Fq.wD s r)) w := fun w => run_float_arith w .add 22 .f64 _ _ _ ha
  have h2 := isInf8_ s r l1
  by_cases c : r = 9218868437227405312
  · obtain ⟨x, y, e1, e2, e3⟩ := hi c
    rw [decide_eq_true c] at h2
    exact halfI_ _ _ _ x y _ h1 h2 (fun w => run_float_arith w .quo 22 .f64 _ _ _ e1) (fun w => run_float_arith w .quo 22 .f64 _ _ _ e2) (fun w => run_float_arith w .add 22 .f64 _ _ _ e3) w
  · obtain ⟨r2, l2, e1, e2⟩ := hq c
    rw [decide_eq_false c] at h2
    have hp := Fq.plain_d s r2 l2
    rw [e2] at hp
    exact halfQ_ _ _ _ _ _ h1 h2 (fun w => run_float_arith w .quo 22 .f64 _ _ _ e1) hp w
set_option maxRecDepth 20000 in
set_option maxHeartbeats 1000000 in
theorem midN_ (a b LO HI : Nat) (hr : ∀ w : World, Calls Tryd.prog 16 #[.agg #[.float .f64 a, .float .f64 b]] w fun e w' => e = .returned (.agg #[.float .f64 LO, .float .f64 HI]) ∧ Kp w w') (hv : ∀ w : World, Calls Tryd.prog 17 #[.agg #[.float .f64 LO, .float .f64 HI]] w fun e w' => e = .returned (.bool true) ∧ Kp w w') (w : World) : Calls Tryd.prog 8 #[.agg #[.float .f64 a, .float .f64 b]] w fun e w' => e = .returned (.float .f64 9221120237041090561) ∧ Kp w w' := by
  go_enter Tryd.func8, Tryd.ntmps8
  go_wp2_with (first | (go_at_call 16; refine (hr _).mono ?_; rintro e w1 ⟨rfl, g1⟩; have q0 := Fq.H2.keep (Fq.H2.new w (.float .f64 a) (.float .f64 b) 25) g1; have kw : Kp w w1 := Kp.trans ((Kp.refl w).alloc _) g1; obtain ⟨x0, x1, x2, x3⟩ := id q0) | (go_at_call 17; refine (hv _).mono ?_; rintro e w2 ⟨rfl, g2⟩; have qx := Fq.H2.keep (Fq.H2.put q0 (.float .f64 LO) (.float .f64 HI)) g2; have kv : Kp w w2 := Kp.trans ((kw.setCell (Nat.le_refl _) _).setCell (Nat.le_refl _) _) g2; obtain ⟨u0, u1, u2, u3⟩ := id qx) | (go_at_call 18; refine (nan8_ _).mono ?_; rintro e w3 ⟨rfl, g3⟩; have kn : Kp w w3 := Kp.trans kv g3))
  exact bodyPost_ret (v := .float .f64 9221120237041090561) (by simp [results, Tryd.results8, go_sem]) rfl ⟨rfl, kn⟩
set_option maxRecDepth 20000 in
set_option maxHeartbeats 1000000 in
theorem midE_ (a b LO HI : Nat) (hr : ∀ w : World, Calls Tryd.prog 16 #[.agg #[.float .f64 a, .float .f64 b]] w fun e w' => e = .returned (.agg #[.float .f64 LO, .float .f64 HI]) ∧ Kp w w') (hv : ∀ w : World, Calls Tryd.prog 17 #[.agg #[.float .f64 LO, .float .f64 HI]] w fun e w' => e = .returned (.bool false) ∧ Kp w w') (q1 : (FloatKind.f64.format.order LO 18442240474082181120 == some Ordering.eq) = true) (q2 : (FloatKind.f64.format.order HI 9218868437227405312 == some Ordering.eq) = true) (w : World) : Calls Tryd.prog 8 #[.agg #[.float .f64 a, .float .f64 b]] w fun e w' => e = .returned (.float .f64 0) ∧ Kp w w' := by
  have k0 := Fq.eqInM LO 18442240474082181120
  have k1 := Fq.eqInM HI 9218868437227405312
  rw [q1] at k0
  rw [q2] at k1
  go_enter Tryd.func8, Tryd.ntmps8
  go_wp2_with (first | (go_at_call 16; refine (hr _).mono ?_; rintro e w1 ⟨rfl, g1⟩; have q0 := Fq.H2.keep (Fq.H2.new w (.float .f64 a) (.float .f64 b) 25) g1; have kw : Kp w w1 := Kp.trans ((Kp.refl w).alloc _) g1; obtain ⟨x0, x1, x2, x3⟩ := id q0) | (go_at_call 17; refine (hv _).mono ?_; rintro e w2 ⟨rfl, g2⟩; have qx := Fq.H2.keep (Fq.H2.put q0 (.float .f64 LO) (.float .f64 HI)) g2; have kv : Kp w w2 := Kp.trans ((kw.setCell (Nat.le_refl _) _).setCell (Nat.le_refl _) _) g2; obtain ⟨u0, u1, u2, u3⟩ := id qx))
  have d0 : w2.drew.cell? ⟨w.heap.size, 0, none⟩ = some (.float .f64 LO) := u0
  have d1 : w2.drew.cell? ⟨w.heap.size, 1, none⟩ = some (.float .f64 HI) := u1
  refine Fq.wp_region_grow (by kernel_rfl) (by kernel_rfl) (fun ι _ G hG hall => ?_)
  have c0 : ∀ n, (G n).cell? ⟨w.heap.size, 0, none⟩ = some (.float .f64 LO) := fun n => Fq.gkeep (hG n) u0
  have c1 : ∀ n, (G n).cell? ⟨w.heap.size, 1, none⟩ = some (.float .f64 HI) := fun n => Fq.gkeep (hG n) u1
  have kG : ∀ n, Kp w (G n) := fun n => Kp.trans kv (hG n)
  repeat (go_big_quiet_step (first | (go_at_call 19; exact (Fq.entire6_ _).mono (fun e w' h => ⟨h.1, hall _ (by rw [h.2]; exact (hG _).alloc _ _)⟩))))
  refine wpQuiet_nil ?_
  rintro _ ⟨nq, rfl⟩
  have y0 := c0 nq
  have y1 := c1 nq
  have kW := kG nq
  clear c0 c1 kG hall
  generalize G nq = W at y0 y1 kW ⊢
  clear hG
  go_wp2_with (first | fail)
  exact bodyPost_ret (v := .float .f64 0) (by simp [results, Tryd.results8, go_sem]) rfl ⟨rfl, kW⟩
set_option maxRecDepth 20000 in
set_option maxHeartbeats 1000000 in
theorem midL_ (a b LO HI : Nat) (hr : ∀ w : World, Calls Tryd.prog 16 #[.agg #[.float .f64 a, .float .f64 b]] w fun e w' => e = .returned (.agg #[.float .f64 LO, .float .f64 HI]) ∧ Kp w w') (hv : ∀ w : World, Calls Tryd.prog 17 #[.agg #[.float .f64 LO, .float .f64 HI]] w fun e w' => e = .returned (.bool false) ∧ Kp w w') (q1 : (FloatKind.f64.format.order LO 18442240474082181120 == some Ordering.eq) = true) (q2 : (FloatKind.f64.format.order HI 9218868437227405312 == some Ordering.eq) = false) (t1 : (FloatKind.f64.format.order LO 18442240474082181119 == some Ordering.lt) = true) (w : World) : Calls Tryd.prog 8 #[.agg #[.float .f64 a, .float .f64 b]] w fun e w' => e = .returned (.float .f64 18442240474082181119) ∧ Kp w w' := by
  have k0 := Fq.eqInM LO 18442240474082181120
  have k1 := Fq.eqInM HI 9218868437227405312
  rw [q1] at k0
  rw [q2] at k1
  go_enter Tryd.func8, Tryd.ntmps8
  go_wp2_with (first | (go_at_call 16; refine (hr _).mono ?_; rintro e w1 ⟨rfl, g1⟩; have q0 := Fq.H2.keep (Fq.H2.new w (.float .f64 a) (.float .f64 b) 25) g1; have kw : Kp w w1 := Kp.trans ((Kp.refl w).alloc _) g1; obtain ⟨x0, x1, x2, x3⟩ := id q0) | (go_at_call 17; refine (hv _).mono ?_; rintro e w2 ⟨rfl, g2⟩; have qx := Fq.H2.keep (Fq.H2.put q0 (.float .f64 LO) (.float .f64 HI)) g2; have kv : Kp w w2 := Kp.trans ((kw.setCell (Nat.le_refl _) _).setCell (Nat.le_refl _) _) g2; obtain ⟨u0, u1, u2, u3⟩ := id qx))
  have d0 : w2.drew.cell? ⟨w.heap.size, 0, none⟩ = some (.float .f64 LO) := u0
  have d1 : w2.drew.cell? ⟨w.heap.size, 1, none⟩ = some (.float .f64 HI) := u1
  refine Fq.wp_region_grow (by kernel_rfl) (by kernel_rfl) (fun ι _ G hG hall => ?_)
  have c0 : ∀ n, (G n).cell? ⟨w.heap.size, 0, none⟩ = some (.float .f64 LO) := fun n => Fq.gkeep (hG n) u0
  have c1 : ∀ n, (G n).cell? ⟨w.heap.size, 1, none⟩ = some (.float .f64 HI) := fun n => Fq.gkeep (hG n) u1
  have kG : ∀ n, Kp w (G n) := fun n => Kp.trans kv (hG n)
  repeat (go_big_quiet_step (first | (go_at_call 19; exact (Fq.entire6_ _).mono (fun e w' h => ⟨h.1, hall _ (by rw [h.2]; exact (hG _).alloc _ _)⟩))))
  refine wpQuiet_nil ?_
  rintro _ ⟨nq, rfl⟩
  have y0 := c0 nq
  have y1 := c1 nq
  have kW := kG nq
  clear c0 c1 kG hall
  generalize G nq = W at y0 y1 kW ⊢
  clear hG
  go_wp2_with (first | fail)
  exact bodyPost_ret (v := .float .f64 18442240474082181119) (by simp [results, Tryd.results8, go_sem]) rfl ⟨rfl, kW⟩
set_option maxRecDepth 20000 in
set_option maxHeartbeats 1000000 in
theorem midH_ (a b LO HI : Nat) (hr : ∀ w : World, Calls Tryd.prog 16 #[.agg #[.float .f64 a, .float .f64 b]] w fun e w' => e = .returned (.agg #[.float .f64 LO, .float .f64 HI]) ∧ Kp w w') (hv : ∀ w : World, Calls Tryd.prog 17 #[.agg #[.float .f64 LO, .float .f64 HI]] w fun e w' => e = .returned (.bool false) ∧ Kp w w') (q1 : (FloatKind.f64.format.order LO 18442240474082181120 == some Ordering.eq) = false) (t1 : (FloatKind.f64.format.order LO 18442240474082181119 == some Ordering.lt) = false) (t2 : (FloatKind.f64.format.order HI 9218868437227405311 == some Ordering.gt) = true) (w : World) : Calls Tryd.prog 8 #[.agg #[.float .f64 a, .float .f64 b]] w fun e w' => e = .returned (.float .f64 9218868437227405311) ∧ Kp w w' := by
  have k0 := Fq.eqInM LO 18442240474082181120
  rw [q1] at k0
  go_enter Tryd.func8, Tryd.ntmps8
  go_wp2_with (first | (go_at_call 16; refine (hr _).mono ?_; rintro e w1 ⟨rfl, g1⟩; have q0 := Fq.H2.keep (Fq.H2.new w (.float .f64 a) (.float .f64 b) 25) g1; have kw : Kp w w1 := Kp.trans ((Kp.refl w).alloc _) g1; obtain ⟨x0, x1, x2, x3⟩ := id q0) | (go_at_call 17; refine (hv _).mono ?_; rintro e w2 ⟨rfl, g2⟩; have qx := Fq.H2.keep (Fq.H2.put q0 (.float .f64 LO) (.float .f64 HI)) g2; have kv : Kp w w2 := Kp.trans ((kw.setCell (Nat.le_refl _) _).setCell (Nat.le_refl _) _) g2; obtain ⟨u0, u1, u2, u3⟩ := id qx))
  have d0 : w2.drew.cell? ⟨w.heap.size, 0, none⟩ = some (.float .f64 LO) := u0
  have d1 : w2.drew.cell? ⟨w.heap.size, 1, none⟩ = some (.float .f64 HI) := u1
  refine Fq.wp_region_grow (by kernel_rfl) (by kernel_rfl) (fun ι _ G hG hall => ?_)
  have c0 : ∀ n, (G n).cell? ⟨w.heap.size, 0, none⟩ = some (.float .f64 LO) := fun n => Fq.gkeep (hG n) u0
  have c1 : ∀ n, (G n).cell? ⟨w.heap.size, 1, none⟩ = some (.float .f64 HI) := fun n => Fq.gkeep (hG n) u1
  have kG : ∀ n, Kp w (G n) := fun n => Kp.trans kv (hG n)
  repeat (go_big_quiet_step (first | (go_at_call 19; exact (Fq.entire6_ _).mono (fun e w' h => ⟨h.1, hall _ (by rw [h.2]; exact (hG _).alloc _ _)⟩))))
  refine wpQuiet_nil ?_
  rintro _ ⟨nq, rfl⟩
  have y0 := c0 nq
  have y1 := c1 nq
  have kW := kG nq
  clear c0 c1 kG hall
  generalize G nq = W at y0 y1 kW ⊢
  clear hG
  go_wp2_with (first | fail)
  exact bodyPost_ret (v := .float .f64 9218868437227405311) (by simp [results, Tryd.results8, go_sem]) rfl ⟨rfl, kW⟩
set_option maxRecDepth 20000 in
set_option maxHeartbeats 1000000 in
theorem midF_ (a b LO HI : Nat) (hr : ∀ w : World, Calls Tryd.prog 16 #[.agg #[.float .f64 a, .float .f64 b]] w fun e w' => e = .returned (.agg #[.float .f64 LO, .float .f64 HI]) ∧ Kp w w') (hv : ∀ w : World, Calls Tryd.prog 17 #[.agg #[.float .f64 LO, .float .f64 HI]] w fun e w' => e = .returned (.bool false) ∧ Kp w w') (q1 : (FloatKind.f64.format.order LO 18442240474082181120 == some Ordering.eq) = false) (t1 : (FloatKind.f64.format.order LO 18442240474082181119 == some Ordering.lt) = false) (t2 : (FloatKind.f64.format.order HI 9218868437227405311 == some Ordering.gt) = false) (G9 : Nat) (h1 : ∀ w : World, Calls Tryd.prog 20 #[.float .f64 LO, .float .f64 HI] w fun e w' => e = .returned (.float .f64 G9) ∧ Kp w w') (w : World) : Calls Tryd.prog 8 #[.agg #[.float .f64 a, .float .f64 b]] w fun e w' => e = .returned (.float .f64 G9) ∧ Kp w w' := by
  have k0 := Fq.eqInM LO 18442240474082181120
  rw [q1] at k0
  go_enter Tryd.func8, Tryd.ntmps8
  go_wp2_with (first | (go_at_call 16; refine (hr _).mono ?_; rintro e w1 ⟨rfl, g1⟩; have q0 := Fq.H2.keep (Fq.H2.new w (.float .f64 a) (.float .f64 b) 25) g1; have kw : Kp w w1 := Kp.trans ((Kp.refl w).alloc _) g1; obtain ⟨x0, x1, x2, x3⟩ := id q0) | (go_at_call 17; refine (hv _).mono ?_; rintro e w2 ⟨rfl, g2⟩; have qx := Fq.H2.keep (Fq.H2.put q0 (.float .f64 LO) (.float .f64 HI)) g2; have kv : Kp w w2 := Kp.trans ((kw.setCell (Nat.le_refl _) _).setCell (Nat.le_refl _) _) g2; obtain ⟨u0, u1, u2, u3⟩ := id qx))
  have d0 : w2.drew.cell? ⟨w.heap.size, 0, none⟩ = some (.float .f64 LO) := u0
  have d1 : w2.drew.cell? ⟨w.heap.size, 1, none⟩ = some (.float .f64 HI) := u1
  refine Fq.wp_region_grow (by kernel_rfl) (by kernel_rfl) (fun ι _ G hG hall => ?_)
  have c0 : ∀ n, (G n).cell? ⟨w.heap.size, 0, none⟩ = some (.float .f64 LO) := fun n => Fq.gkeep (hG n) u0
  have c1 : ∀ n, (G n).cell? ⟨w.heap.size, 1, none⟩ = some (.float .f64 HI) := fun n => Fq.gkeep (hG n) u1
  have kG : ∀ n, Kp w (G n) := fun n => Kp.trans kv (hG n)
  repeat (go_big_quiet_step (first | (go_at_call 19; exact (Fq.entire6_ _).mono (fun e w' h => ⟨h.1, hall _ (by rw [h.2]; exact (hG _).alloc _ _)⟩))))
  refine wpQuiet_nil ?_
  rintro _ ⟨nq, rfl⟩
  have y0 := c0 nq
  have y1 := c1 nq
  have kW := kG nq
  clear c0 c1 kG hall
  generalize G nq = W at y0 y1 kW ⊢
  clear hG
  go_wp2_with (first | (go_at_call 20; refine (h1 _).mono ?_; rintro e w7 ⟨rfl, g7⟩))
  exact bodyPost_ret (v := .float .f64 G9) (by simp [results, Tryd.results8, go_sem]) rfl ⟨rfl, Kp.trans kW g7⟩

theorem hfW_pat (V : Int) : ∃ s r, r ≤ 9218868437227405312 ∧ hfW V = Fq.wD s r ∧ (r = 0 → s = false) := by
  unfold hfW
  by_cases c : V = 0
  · exact ⟨false, 0, by decide, by rw [if_pos c]; rfl, fun _ => rfl⟩
  · rw [if_neg c]
    have h := fin_leH 0 (rU 0 53 V.natAbs 2)
    generalize finU 53 2098 9218868437227405311 9218868437227405312 0 (rU 0 53 V.natAbs 2) = x at h ⊢
    by_cases z : x = 0
    · exact ⟨false, 0, by decide, by rw [z]; rfl, fun _ => rfl⟩
    · exact ⟨decide (V < 0), x, h, by unfold mdW Fq.wD; rw [if_neg z], fun h0 => absurd h0 z⟩
/-- the middle, by the ends -/
def mdP (n : Bool) (m : Nat) (g : Bool) (r : Nat) : Nat := if m = 9218868437227405312 then (if r = 9218868437227405312 then 0 else 18442240474082181119) else if r = 9218868437227405312 then 9218868437227405311 else hfW (Iv n m + Iv g r)
theorem mdP_pat (n : Bool) (m : Nat) (g : Bool) (r : Nat) : ∃ s x, x ≤ 9218868437227405312 ∧ mdP n m g r = Fq.wD s x ∧ (x = 0 → s = false) := by
  unfold mdP
  by_cases c1 : m = 9218868437227405312
  · rw [if_pos c1]
    by_cases c2 : r = 9218868437227405312
    · rw [if_pos c2]; exact ⟨false, 0, by decide, rfl, fun _ => rfl⟩
    · rw [if_neg c2]; exact ⟨true, 9218868437227405311, by decide, rfl, fun h => absurd h (by decide)⟩
  · rw [if_neg c1]
    by_cases c2 : r = 9218868437227405312
    · rw [if_pos c2]; exact ⟨false, 9218868437227405311, by decide, rfl, fun _ => rfl⟩
    · rw [if_neg c2]; exact hfW_pat _
theorem midS8_ (a b : Nat) (ha : a < 18446744073709551616) (hb : b < 18446744073709551616) (s1 : Fq.snd a b = true) (n g : Bool) (m r : Nat) (l1 : m ≤ 9218868437227405312) (l2 : r ≤ 9218868437227405312) (e1 : Fq.rlo a b = Fq.wD n m) (e2 : Fq.rhi a b = Fq.wD g r) (w : World) : Calls Tryd.prog 8 #[.agg #[.float .f64 a, .float .f64 b]] w fun e w' => e = .returned (.float .f64 (mdP n m g r)) ∧ Kp w w' := by
  have hp := Fq.read_ a b ha hb
  have hv := void8_ a b ha hb false (by simpa using s1)
  have i1 := rlo_inf a b s1 n m e1
  have i2 := rhi_inf a b s1 g r e2
  rw [e1, e2] at hp hv
  have q1 := Fq.feq n true m 9218868437227405312 (by omega) (by decide)
  have q2 := Fq.feq g false r 9218868437227405312 (by omega) (by decide)
  have t1 := Fq.flt n true m 9218868437227405311 (by omega) (by decide)
  have t2 := fgt8 g false r 9218868437227405311 (by omega) (by decide)
  rw [show Fq.wD true 9218868437227405312 = 18442240474082181120 from rfl] at q1
  rw [show Fq.wD false 9218868437227405312 = 9218868437227405312 from rfl] at q2
  rw [show Fq.wD true 9218868437227405311 = 18442240474082181119 from rfl] at t1
  rw [show Fq.wD false 9218868437227405311 = 9218868437227405311 from rfl] at t2
  have P1 : Fq.plz n m = if n then -(m : Int) else m := by unfold Fq.plz; cases n <;> rfl
  have P2 : Fq.plz g r = if g then -(r : Int) else r := by unfold Fq.plz; cases g <;> rfl
  have P3 : Fq.plz true 9218868437227405312 = -9218868437227405312 := rfl
  have P4 : Fq.plz false 9218868437227405312 = 9218868437227405312 := rfl
  have P5 : Fq.plz true 9218868437227405311 = -9218868437227405311 := rfl
  have P6 : Fq.plz false 9218868437227405311 = 9218868437227405311 := rfl
  rw [P1, P3] at q1
  rw [P2, P4] at q2
  rw [P1, P5] at t1
  rw [P2, P6] at t2
  unfold mdP
  by_cases c1 : m = 9218868437227405312
  · have nn := i1 c1
    rw [decide_eq_true ⟨l1, by decide, by rw [nn, c1]; rfl⟩] at q1
    rw [decide_eq_true ⟨l1, by decide, by rw [nn, c1]; decide⟩] at t1
    rw [if_pos c1]
    by_cases c2 : r = 9218868437227405312
    · have gg := i2 c2
      rw [decide_eq_true ⟨l2, by decide, by rw [gg, c2]; rfl⟩] at q2
      rw [if_pos c2]
      exact midE_ a b _ _ hp hv q1 q2 w
    · rw [decide_eq_false (by cases g <;> simp <;> omega)] at q2
      rw [if_neg c2]
      exact midL_ a b _ _ hp hv q1 q2 t1 w
  · rw [decide_eq_false (by cases n <;> simp <;> omega)] at q1
    rw [decide_eq_false (by cases n <;> simp <;> omega)] at t1
    rw [if_neg c1]
    by_cases c2 : r = 9218868437227405312
    · have gg := i2 c2
      rw [decide_eq_true ⟨l2, by decide, by rw [gg, c2]; decide⟩] at t2
      rw [if_pos c2]
      exact midH_ a b _ _ hp hv q1 t1 t2 w
    · rw [decide_eq_false (by cases g <;> simp <;> omega)] at t2
      rw [if_neg c2]
      exact midF_ a b _ _ hp hv q1 t1 t2 _ (half8_ n g m r (by omega) (by omega)) w
theorem isW8_ (s : Bool) (x : Nat) (h : x ≤ 9218868437227405312 ∨ (s = false ∧ x = 9221120237041090561)) (w : World) : Calls Tryd.prog 13 #[.float .f64 (Fq.wD s x), .int .u64 ((Fq.wD s x : Nat) : Int)] w fun e w' => e = .returned (.bool true) ∧ Kp w w' := by
  rcases h with h | ⟨h1, h2⟩
  · exact (is8_ s x h w).mono (fun e w' h => ⟨h.1, by rw [h.2]; exact Kp.refl _⟩)
  · subst h1 h2
    exact (isN8_ w).mono (fun e w' h => ⟨h.1, by rw [h.2]; exact Kp.refl _⟩)
set_option maxRecDepth 20000 in
set_option maxHeartbeats 1000000 in
theorem magN_ (a b LO HI : Nat) (hr : ∀ w : World, Calls Tryd.prog 16 #[.agg #[.float .f64 a, .float .f64 b]] w fun e w' => e = .returned (.agg #[.float .f64 LO, .float .f64 HI]) ∧ Kp w w') (hv : ∀ w : World, Calls Tryd.prog 17 #[.agg #[.float .f64 LO, .float .f64 HI]] w fun e w' => e = .returned (.bool true) ∧ Kp w w') (w : World) : Calls Tryd.prog 11 #[.agg #[.float .f64 a, .float .f64 b]] w fun e w' => e = .returned (.float .f64 9221120237041090561) ∧ Kp w w' := by
  go_enter Tryd.func11, Tryd.ntmps11
  go_wp2_with (first | (go_at_call 16; refine (hr _).mono ?_; rintro e w1 ⟨rfl, g1⟩; have q0 := Fq.H2.keep (Fq.H2.new w (.float .f64 a) (.float .f64 b) 25) g1; have kw : Kp w w1 := Kp.trans ((Kp.refl w).alloc _) g1; obtain ⟨x0, x1, x2, x3⟩ := id q0) | (go_at_call 17; refine (hv _).mono ?_; rintro e w2 ⟨rfl, g2⟩; have qx := Fq.H2.keep (Fq.H2.put q0 (.float .f64 LO) (.float .f64 HI)) g2; have kv : Kp w w2 := Kp.trans ((kw.setCell (Nat.le_refl _) _).setCell (Nat.le_refl _) _) g2; obtain ⟨u0, u1, u2, u3⟩ := id qx) | (go_at_call 18; refine (nan8_ _).mono ?_; rintro e w3 ⟨rfl, g3⟩; have kn : Kp w w3 := Kp.trans kv g3))
  exact bodyPost_ret (v := .float .f64 9221120237041090561) (by simp [results, Tryd.results11, go_sem]) rfl ⟨rfl, kn⟩
set_option maxRecDepth 20000 in
set_option maxHeartbeats 1000000 in
theorem migN_ (a b LO HI : Nat) (hr : ∀ w : World, Calls Tryd.prog 16 #[.agg #[.float .f64 a, .float .f64 b]] w fun e w' => e = .returned (.agg #[.float .f64 LO, .float .f64 HI]) ∧ Kp w w') (hv : ∀ w : World, Calls Tryd.prog 17 #[.agg #[.float .f64 LO, .float .f64 HI]] w fun e w' => e = .returned (.bool true) ∧ Kp w w') (w : World) : Calls Tryd.prog 12 #[.agg #[.float .f64 a, .float .f64 b]] w fun e w' => e = .returned (.float .f64 9221120237041090561) ∧ Kp w w' := by
  go_enter Tryd.func12, Tryd.ntmps12
  go_wp2_with (first | (go_at_call 16; refine (hr _).mono ?_; rintro e w1 ⟨rfl, g1⟩; have q0 := Fq.H2.keep (Fq.H2.new w (.float .f64 a) (.float .f64 b) 25) g1; have kw : Kp w w1 := Kp.trans ((Kp.refl w).alloc _) g1; obtain ⟨x0, x1, x2, x3⟩ := id q0) | (go_at_call 17; refine (hv _).mono ?_; rintro e w2 ⟨rfl, g2⟩; have qx := Fq.H2.keep (Fq.H2.put q0 (.float .f64 LO) (.float .f64 HI)) g2; have kv : Kp w w2 := Kp.trans ((kw.setCell (Nat.le_refl _) _).setCell (Nat.le_refl _) _) g2; obtain ⟨u0, u1, u2, u3⟩ := id qx) | (go_at_call 18; refine (nan8_ _).mono ?_; rintro e w3 ⟨rfl, g3⟩; have kn : Kp w w3 := Kp.trans kv g3))
  exact bodyPost_ret (v := .float .f64 9221120237041090561) (by simp [results, Tryd.results12, go_sem]) rfl ⟨rfl, kn⟩
set_option maxRecDepth 20000 in
set_option maxHeartbeats 1000000 in
theorem magS_ (a b LO HI : Nat) (hr : ∀ w : World, Calls Tryd.prog 16 #[.agg #[.float .f64 a, .float .f64 b]] w fun e w' => e = .returned (.agg #[.float .f64 LO, .float .f64 HI]) ∧ Kp w w') (hv : ∀ w : World, Calls Tryd.prog 17 #[.agg #[.float .f64 LO, .float .f64 HI]] w fun e w' => e = .returned (.bool false) ∧ Kp w w') (A9 B9 G9 : Nat) (h1 : ∀ w : World, Calls Tryd.prog 24 #[.float .f64 LO] w fun e w' => e = .returned (.float .f64 A9) ∧ w' = w) (h2 : ∀ w : World, Calls Tryd.prog 24 #[.float .f64 HI] w fun e w' => e = .returned (.float .f64 B9) ∧ w' = w) (h3 : ∀ w : World, Calls Tryd.prog 23 #[.float .f64 A9, .float .f64 B9] w fun e w' => e = .returned (.float .f64 G9) ∧ w' = w) (w : World) : Calls Tryd.prog 11 #[.agg #[.float .f64 a, .float .f64 b]] w fun e w' => e = .returned (.float .f64 G9) ∧ Kp w w' := by
  go_enter Tryd.func11, Tryd.ntmps11
  go_wp2_with (first | (go_at_call 16; refine (hr _).mono ?_; rintro e w1 ⟨rfl, g1⟩; have q0 := Fq.H2.keep (Fq.H2.new w (.float .f64 a) (.float .f64 b) 25) g1; have kw : Kp w w1 := Kp.trans ((Kp.refl w).alloc _) g1; obtain ⟨x0, x1, x2, x3⟩ := id q0) | (go_at_call 17; refine (hv _).mono ?_; rintro e w2 ⟨rfl, g2⟩; have qx := Fq.H2.keep (Fq.H2.put q0 (.float .f64 LO) (.float .f64 HI)) g2; have kv : Kp w w2 := Kp.trans ((kw.setCell (Nat.le_refl _) _).setCell (Nat.le_refl _) _) g2; obtain ⟨u0, u1, u2, u3⟩ := id qx))
  go_quiet (first | (go_at_call_of 24 (Value.float .f64 LO); exact Calls.quiet_of_same (h1 _)) | (go_at_call_of 24 (Value.float .f64 HI); exact Calls.quiet_of_same (h2 _)) | (go_at_call 23; exact Calls.quiet_of_same (h3 _)))
  go_wp2
  exact bodyPost_ret (v := .float .f64 G9) (by simp [results, Tryd.results11, go_sem]) rfl ⟨rfl, (by repeat (with_reducible (first | assumption | exact Kp.refl _ | apply Kp.drew | apply Kp.alloc | apply Kp.drewN | (refine Kp.setCell ?_ (by first | omega | (simp <;> omega)) _) | (refine Kp.trans ?_ (by assumption)))))⟩
set_option maxRecDepth 20000 in
set_option maxHeartbeats 1000000 in
theorem mig1_ (a b LO HI : Nat) (hr : ∀ w : World, Calls Tryd.prog 16 #[.agg #[.float .f64 a, .float .f64 b]] w fun e w' => e = .returned (.agg #[.float .f64 LO, .float .f64 HI]) ∧ Kp w w') (hv : ∀ w : World, Calls Tryd.prog 17 #[.agg #[.float .f64 LO, .float .f64 HI]] w fun e w' => e = .returned (.bool false) ∧ Kp w w') (t1 : (FloatKind.f64.format.order LO 0 == some Ordering.gt) = true) (w : World) : Calls Tryd.prog 12 #[.agg #[.float .f64 a, .float .f64 b]] w fun e w' => e = .returned (.float .f64 LO) ∧ Kp w w' := by
  go_enter Tryd.func12, Tryd.ntmps12
  go_wp2_with (first | (go_at_call 16; refine (hr _).mono ?_; rintro e w1 ⟨rfl, g1⟩; have q0 := Fq.H2.keep (Fq.H2.new w (.float .f64 a) (.float .f64 b) 25) g1; have kw : Kp w w1 := Kp.trans ((Kp.refl w).alloc _) g1; obtain ⟨x0, x1, x2, x3⟩ := id q0) | (go_at_call 17; refine (hv _).mono ?_; rintro e w2 ⟨rfl, g2⟩; have qx := Fq.H2.keep (Fq.H2.put q0 (.float .f64 LO) (.float .f64 HI)) g2; have kv : Kp w w2 := Kp.trans ((kw.setCell (Nat.le_refl _) _).setCell (Nat.le_refl _) _) g2; obtain ⟨u0, u1, u2, u3⟩ := id qx))
  exact bodyPost_ret (v := .float .f64 LO) (by simp [results, Tryd.results12, go_sem]) rfl ⟨rfl, kv⟩
set_option maxRecDepth 20000 in
set_option maxHeartbeats 1000000 in
theorem mig2_ (a b LO HI : Nat) (hr : ∀ w : World, Calls Tryd.prog 16 #[.agg #[.float .f64 a, .float .f64 b]] w fun e w' => e = .returned (.agg #[.float .f64 LO, .float .f64 HI]) ∧ Kp w w') (hv : ∀ w : World, Calls Tryd.prog 17 #[.agg #[.float .f64 LO, .float .f64 HI]] w fun e w' => e = .returned (.bool false) ∧ Kp w w') (G9 : Nat) (hg : ∀ w : World, (Op.unary .neg (.float .f64 HI)).run Tryd.prog w = .ok (.float .f64 G9) w) (t1 : (FloatKind.f64.format.order LO 0 == some Ordering.gt) = false) (t2 : (FloatKind.f64.format.order HI 0 == some Ordering.lt) = true) (w : World) : Calls Tryd.prog 12 #[.agg #[.float .f64 a, .float .f64 b]] w fun e w' => e = .returned (.float .f64 G9) ∧ Kp w w' := by
  go_enter Tryd.func12, Tryd.ntmps12
  go_wp2_with (first | (go_at_call 16; refine (hr _).mono ?_; rintro e w1 ⟨rfl, g1⟩; have q0 := Fq.H2.keep (Fq.H2.new w (.float .f64 a) (.float .f64 b) 25) g1; have kw : Kp w w1 := Kp.trans ((Kp.refl w).alloc _) g1; obtain ⟨x0, x1, x2, x3⟩ := id q0) | (go_at_call 17; refine (hv _).mono ?_; rintro e w2 ⟨rfl, g2⟩; have qx := Fq.H2.keep (Fq.H2.put q0 (.float .f64 LO) (.float .f64 HI)) g2; have kv : Kp w w2 := Kp.trans ((kw.setCell (Nat.le_refl _) _).setCell (Nat.le_refl _) _) g2; obtain ⟨u0, u1, u2, u3⟩ := id qx))
  exact bodyPost_ret (v := .float .f64 G9) (by simp [results, Tryd.results12, go_sem]) rfl ⟨rfl, kv⟩
set_option maxRecDepth 20000 in
set_option maxHeartbeats 1000000 in
theorem mig3_ (a b LO HI : Nat) (hr : ∀ w : World, Calls Tryd.prog 16 #[.agg #[.float .f64 a, .float .f64 b]] w fun e w' => e = .returned (.agg #[.float .f64 LO, .float .f64 HI]) ∧ Kp w w') (hv : ∀ w : World, Calls Tryd.prog 17 #[.agg #[.float .f64 LO, .float .f64 HI]] w fun e w' => e = .returned (.bool false) ∧ Kp w w') (t1 : (FloatKind.f64.format.order LO 0 == some Ordering.gt) = false) (t2 : (FloatKind.f64.format.order HI 0 == some Ordering.lt) = false) (w : World) : Calls Tryd.prog 12 #[.agg #[.float .f64 a, .float .f64 b]] w fun e w' => e = .returned (.float .f64 0) ∧ Kp w w' := by
  go_enter Tryd.func12, Tryd.ntmps12
  go_wp2_with (first | (go_at_call 16; refine (hr _).mono ?_; rintro e w1 ⟨rfl, g1⟩; have q0 := Fq.H2.keep (Fq.H2.new w (.float .f64 a) (.float .f64 b) 25) g1; have kw : Kp w w1 := Kp.trans ((Kp.refl w).alloc _) g1; obtain ⟨x0, x1, x2, x3⟩ := id q0) | (go_at_call 17; refine (hv _).mono ?_; rintro e w2 ⟨rfl, g2⟩; have qx := Fq.H2.keep (Fq.H2.put q0 (.float .f64 LO) (.float .f64 HI)) g2; have kv : Kp w w2 := Kp.trans ((kw.setCell (Nat.le_refl _) _).setCell (Nat.le_refl _) _) g2; obtain ⟨u0, u1, u2, u3⟩ := id qx))
  exact bodyPost_ret (v := .float .f64 0) (by simp [results, Tryd.results12, go_sem]) rfl ⟨rfl, kv⟩
set_option maxRecDepth 20000 in
set_option maxHeartbeats 1000000 in
theorem mradN_ (a b LO HI M9 : Nat) (hr : ∀ w : World, Calls Tryd.prog 16 #[.agg #[.float .f64 a, .float .f64 b]] w fun e w' => e = .returned (.agg #[.float .f64 LO, .float .f64 HI]) ∧ Kp w w') (hm : ∀ w : World, Calls Tryd.prog 8 #[.agg #[.float .f64 LO, .float .f64 HI]] w fun e w' => e = .returned (.float .f64 M9) ∧ Kp w w') (hv : ∀ w : World, Calls Tryd.prog 17 #[.agg #[.float .f64 LO, .float .f64 HI]] w fun e w' => e = .returned (.bool true) ∧ Kp w w') (w : World) : Calls Tryd.prog 21 #[.agg #[.float .f64 a, .float .f64 b]] w fun e w' => e = .returned (.tuple #[.float .f64 M9, .float .f64 9221120237041090561]) ∧ Kp w w' := by
  go_enter Tryd.func21, Tryd.ntmps21
  go_wp2_with (first | (go_at_call 16; refine (hr _).mono ?_; rintro e w1 ⟨rfl, g1⟩; have q0 := Fq.H2.keep (Fq.H2.new w (.float .f64 a) (.float .f64 b) 25) g1; have kw : Kp w w1 := Kp.trans ((Kp.refl w).alloc _) g1; obtain ⟨x0, x1, x2, x3⟩ := id q0) | (go_at_call 8; refine (hm _).mono ?_; rintro e w2 ⟨rfl, g2⟩; have qx := Fq.H2.keep (Fq.H2.put q0 (.float .f64 LO) (.float .f64 HI)) g2; have km : Kp w w2 := Kp.trans ((kw.setCell (Nat.le_refl _) _).setCell (Nat.le_refl _) _) g2; obtain ⟨u0, u1, u2, u3⟩ := id qx) | (go_at_call 17; refine (hv _).mono ?_; rintro e w3 ⟨rfl, g3⟩; have qv := Fq.H2.keep qx g3; have kv : Kp w w3 := Kp.trans km g3; obtain ⟨v0, v1, v2, v3⟩ := id qv) | (go_at_call 18; refine (nan8_ _).mono ?_; rintro e w4 ⟨rfl, g4⟩; have kn : Kp w w4 := Kp.trans kv g4))
  exact bodyPost_ret (v := .tuple #[.float .f64 M9, .float .f64 9221120237041090561]) (by simp [results, Tryd.results21, go_sem]) rfl ⟨rfl, kn⟩
set_option maxRecDepth 20000 in
set_option maxHeartbeats 2000000 in
theorem mradS_ (a b LO HI M9 : Nat) (hr : ∀ w : World, Calls Tryd.prog 16 #[.agg #[.float .f64 a, .float .f64 b]] w fun e w' => e = .returned (.agg #[.float .f64 LO, .float .f64 HI]) ∧ Kp w w') (hm : ∀ w : World, Calls Tryd.prog 8 #[.agg #[.float .f64 LO, .float .f64 HI]] w fun e w' => e = .returned (.float .f64 M9) ∧ Kp w w') (hv : ∀ w : World, Calls Tryd.prog 17 #[.agg #[.float .f64 LO, .float .f64 HI]] w fun e w' => e = .returned (.bool false) ∧ Kp w w') (PL PH G9 : Nat) (w : World) (hA1 : ∀ W : World, Kp w W → Calls Tryd.prog 22 #[.float .f64 LO, .float .f64 M9] W fun e w' => e = .returned (.float .f64 PL) ∧ Kp W w') (hA2 : ∀ W : World, Kp w W → Calls Tryd.prog 22 #[.float .f64 M9, .float .f64 HI] W fun e w' => e = .returned (.float .f64 PH) ∧ Kp W w') (hg : ∀ w : World, Calls Tryd.prog 23 #[.float .f64 PL, .float .f64 PH] w fun e w' => e = .returned (.float .f64 G9) ∧ w' = w) : Calls Tryd.prog 21 #[.agg #[.float .f64 a, .float .f64 b]] w fun e w' => e = .returned (.tuple #[.float .f64 M9, .float .f64 G9]) ∧ Kp w w' := by
  go_enter Tryd.func21, Tryd.ntmps21
  go_wp2_with (first | (go_at_call 16; refine (hr _).mono ?_; rintro e w1 ⟨rfl, g1⟩; have q0 := Fq.H2.keep (Fq.H2.new w (.float .f64 a) (.float .f64 b) 25) g1; have kw : Kp w w1 := Kp.trans ((Kp.refl w).alloc _) g1; obtain ⟨x0, x1, x2, x3⟩ := id q0) | (go_at_call 8; refine (hm _).mono ?_; rintro e w2 ⟨rfl, g2⟩; have qx := Fq.H2.keep (Fq.H2.put q0 (.float .f64 LO) (.float .f64 HI)) g2; have km : Kp w w2 := Kp.trans ((kw.setCell (Nat.le_refl _) _).setCell (Nat.le_refl _) _) g2; obtain ⟨u0, u1, u2, u3⟩ := id qx) | (go_at_call 17; refine (hv _).mono ?_; rintro e w3 ⟨rfl, g3⟩; have qv := Fq.H2.keep qx g3; have kv : Kp w w3 := Kp.trans km g3; obtain ⟨v0, v1, v2, v3⟩ := id qv))
  refine Fq.wp_region_grow (by kernel_rfl) (by kernel_rfl) (fun ι _ G hG hall => ?_)
  have cc0 : ∀ n, (G n).cell? ⟨w.heap.size, 0, none⟩ = some (.float .f64 LO) := fun n => Fq.gkeep (hG n) v0
  have cc1 : ∀ n, (G n).cell? ⟨w.heap.size, 1, none⟩ = some (.float .f64 HI) := fun n => Fq.gkeep (hG n) v1
  have kG : ∀ n, Kp w (G n) := fun n => Kp.trans kv (hG n)
  repeat (go_big_quiet_step (first | (go_at_call_of 22 (Value.float .f64 LO); exact (hA1 _ (kG _)).mono (fun e w' h => ⟨h.1, hall _ (Fq.gtrans (hG _) h.2)⟩)) | (go_at_call_of 22 (Value.float .f64 HI); exact (hA2 _ (kG _)).mono (fun e w' h => ⟨h.1, hall _ (Fq.gtrans (hG _) h.2)⟩)) | (go_at_call 23; exact (hg _).mono (fun e w' h => ⟨h.1, hall _ (by rw [h.2]; exact hG _)⟩))))
  refine wpQuiet_nil ?_
  rintro _ ⟨nq, rfl⟩
  have gq := kG nq
  clear cc0 cc1 hall hG kG
  go_wp2
  exact bodyPost_ret (v := .tuple #[.float .f64 M9, .float .f64 G9]) (by simp [results, Tryd.results21, go_sem]) rfl ⟨rfl, gq⟩
set_option maxRecDepth 20000 in
set_option maxHeartbeats 1000000 in
theorem radP_ (a b M9 G9 : Nat) (w : World) (h1 : ∀ W : World, Kp w W → Calls Tryd.prog 21 #[.agg #[.float .f64 a, .float .f64 b]] W fun e w' => e = .returned (.tuple #[.float .f64 M9, .float .f64 G9]) ∧ Kp W w') : Calls Tryd.prog 9 #[.agg #[.float .f64 a, .float .f64 b]] w fun e w' => e = .returned (.float .f64 G9) ∧ Kp w w' := by
  go_enter Tryd.func9, Tryd.ntmps9
  go_wp2_with (first | (go_at_call 21; refine (h1 _ ((Kp.refl w).alloc _)).mono ?_; rintro e w1 ⟨rfl, g1⟩; have k1 : Kp w w1 := Kp.trans ((Kp.refl w).alloc _) g1))
  exact bodyPost_ret (v := .float .f64 G9) (by simp [results, Tryd.results9, go_sem]) rfl ⟨rfl, k1⟩
theorem magX_ (a b : Nat) (ha : a < 18446744073709551616) (hb : b < 18446744073709551616) (s1 : Fq.snd a b = true) (n g : Bool) (m r : Nat) (l1 : m ≤ 9218868437227405312) (l2 : r ≤ 9218868437227405312) (e1 : Fq.rlo a b = Fq.wD n m) (e2 : Fq.rhi a b = Fq.wD g r) (w : World) : Calls Tryd.prog 11 #[.agg #[.float .f64 a, .float .f64 b]] w fun e w' => e = .returned (.float .f64 (if r < m then m else r)) ∧ Kp w w' := by
  have hp := Fq.read_ a b ha hb
  have hv := void8_ a b ha hb false (by simpa using s1)
  rw [e1, e2] at hp hv
  exact magS_ a b _ _ hp hv m r _ (abs_ n m (by omega)) (abs_ g r (by omega)) (greater8_ m r l1 l2) w
/-- the least magnitude, by the ends -/
def miW (n : Bool) (m : Nat) (g : Bool) (r : Nat) : Nat := if 0 < Fq.plz n m then m else if Fq.plz g r < 0 then r else 0
theorem migX_ (a b : Nat) (ha : a < 18446744073709551616) (hb : b < 18446744073709551616) (s1 : Fq.snd a b = true) (n g : Bool) (m r : Nat) (l1 : m ≤ 9218868437227405312) (l2 : r ≤ 9218868437227405312) (e1 : Fq.rlo a b = Fq.wD n m) (e2 : Fq.rhi a b = Fq.wD g r) (w : World) : Calls Tryd.prog 12 #[.agg #[.float .f64 a, .float .f64 b]] w fun e w' => e = .returned (.float .f64 (miW n m g r)) ∧ Kp w w' := by
  have hp := Fq.read_ a b ha hb
  have hv := void8_ a b ha hb false (by simpa using s1)
  rw [e1, e2] at hp hv
  have f1 := fgt8 n false m 0 (by omega) (by decide)
  have f2 := Fq.flt g false r 0 (by omega) (by decide)
  rw [show Fq.wD false 0 = 0 from rfl, show Fq.plz false 0 = 0 from rfl] at f1 f2
  unfold miW
  by_cases c1 : 0 < Fq.plz n m
  · rw [decide_eq_true ⟨l1, by decide, c1⟩] at f1
    rw [if_pos c1]
    have nn : n = false := by cases n; rfl; unfold Fq.plz at c1; simp at c1; omega
    have h := mig1_ a b _ _ hp hv f1 w
    rw [nn] at h
    exact h
  · rw [decide_eq_false (fun h => c1 h.2.2)] at f1
    rw [if_neg c1]
    by_cases c2 : Fq.plz g r < 0
    · rw [decide_eq_true ⟨l2, by decide, c2⟩] at f2
      rw [if_pos c2]
      have gg : g = true := by cases g; unfold Fq.plz at c2; simp at c2; omega; rfl
      have hn := negW8 g r (by omega)
      rw [gg] at hn hp hv f2
      exact mig2_ a b _ _ hp hv r hn f1 f2 w
    · rw [decide_eq_false (fun h => c2 h.2.2)] at f2
      rw [if_neg c2]
      exact mig3_ a b _ _ hp hv f1 f2 w
theorem widX_ (a b : Nat) (ha : a < 18446744073709551616) (hb : b < 18446744073709551616) (s1 : Fq.snd a b = true) (n g : Bool) (m r : Nat) (l1 : m ≤ 9218868437227405312) (l2 : r ≤ 9218868437227405312) (e1 : Fq.rlo a b = Fq.wD n m) (e2 : Fq.rhi a b = Fq.wD g r) (w : World) (hT : Tab w) (hQ : Fq.Tab w) : Calls Tryd.prog 10 #[.agg #[.float .f64 a, .float .f64 b]] w fun e w' => e = .returned (.float .f64 (apW n m g r)) ∧ Kp w w' := by
  have hp := Fq.read_ a b ha hb
  have hv := void8_ a b ha hb false (by simpa using s1)
  rw [e1, e2] at hp hv
  exact widS_ a b _ _ hp hv _ w (fun W y => apart8_ n g m r l1 l2 W (Tab.grown hT y) (Fq.Tab.grown hQ y))
theorem mradX_ (a b : Nat) (ha : a < 18446744073709551616) (hb : b < 18446744073709551616) (s1 : Fq.snd a b = true) (n g : Bool) (m r : Nat) (l1 : m ≤ 9218868437227405312) (l2 : r ≤ 9218868437227405312) (e1 : Fq.rlo a b = Fq.wD n m) (e2 : Fq.rhi a b = Fq.wD g r) (s : Bool) (x : Nat) (lx : x ≤ 9218868437227405312) (ex : mdP n m g r = Fq.wD s x) (w : World) (hT : Tab w) (hQ : Fq.Tab w) : Calls Tryd.prog 21 #[.agg #[.float .f64 a, .float .f64 b]] w fun e w' => e = .returned (.tuple #[.float .f64 (Fq.wD s x), .float .f64 (if apW s x g r < apW n m s x then apW n m s x else apW s x g r)]) ∧ Kp w w' := by
  have hm2 := midS8_ (Fq.rlo a b) (Fq.rhi a b) (Fq.rlo_lt a b ha) (Fq.rhi_lt a b hb) (snd_read8 a b ha hb s1) n g m r l1 l2 ((rlo_read8 a b ha hb s1).trans e1) ((rhi_read8 a b ha hb s1).trans e2)
  have hp := Fq.read_ a b ha hb
  have hv := void8_ a b ha hb false (by simpa using s1)
  rw [e1, e2] at hp hv
  rw [e1, e2, ex] at hm2
  exact mradS_ a b _ _ _ hp hm2 hv _ _ _ w (fun W y => apart8_ n s m x l1 lx W (Tab.grown hT y) (Fq.Tab.grown hQ y)) (fun W y => apart8_ s g x r lx l2 W (Tab.grown hT y) (Fq.Tab.grown hQ y)) (greater8_ _ _ (apW_le _ _ _ _) (apW_le _ _ _ _))

theorem apW_neg (n1 n2 k1 k2 : Bool) (m1 m2 : Nat) (h1 : Fq.plz k1 m1 = -Fq.plz n1 m1) (h2 : Fq.plz k2 m2 = -Fq.plz n2 m2) : apW k1 m1 k2 m2 = apW n1 m1 n2 m2 := by
  have i : ∀ (k n : Bool) (m : Nat), Fq.plz k m = -Fq.plz n m → Iv k m = -Iv n m := fun k n m h => by
    have z := vV_zero_iff m
    unfold Fq.plz at h
    unfold Iv
    cases k <;> cases n <;> simp at h ⊢ <;> omega
  have i1 := i k1 n1 m1 h1
  have i2 := i k2 n2 m2 h2
  unfold apW
  rw [h1, h2, i1, i2]
  by_cases c : Fq.plz n1 m1 = Fq.plz n2 m2
  · rw [if_pos (show -Fq.plz n1 m1 = -Fq.plz n2 m2 by omega), if_pos c]
  · rw [if_neg (show ¬ -Fq.plz n1 m1 = -Fq.plz n2 m2 by omega), if_neg c]
    by_cases d : m1 = 9218868437227405312 ∨ m2 = 9218868437227405312
    · rw [if_pos d, if_pos d]
    · rw [if_neg d, if_neg d]
      congr 1
      by_cases e : Fq.plz n1 m1 < Fq.plz n2 m2
      · rw [if_pos e, if_neg (show ¬ -Fq.plz n1 m1 < -Fq.plz n2 m2 by omega)]; omega
      · rw [if_neg e, if_pos (show -Fq.plz n1 m1 < -Fq.plz n2 m2 by omega)]; omega
theorem hfW_neg (V : Int) : ∃ (s : Bool) (x : Nat), x ≤ 9218868437227405312 ∧ hfW V = Fq.wD s x ∧ (∃ s', hfW (-V) = Fq.wD s' x ∧ Fq.plz s' x = -Fq.plz s x) := by
  unfold hfW
  by_cases c : V = 0
  · refine ⟨false, 0, by decide, by rw [if_pos c]; rfl, false, by rw [if_pos (by omega)]; rfl, rfl⟩
  · rw [if_neg c, if_neg (show ¬ -V = 0 by omega), Int.natAbs_neg]
    have h := fin_leH 0 (rU 0 53 V.natAbs 2)
    generalize finU 53 2098 9218868437227405311 9218868437227405312 0 (rU 0 53 V.natAbs 2) = x at h ⊢
    by_cases z : x = 0
    · exact ⟨false, 0, by decide, by rw [z]; rfl, false, by rw [z]; rfl, rfl⟩
    · refine ⟨decide (V < 0), x, h, by unfold mdW Fq.wD; rw [if_neg z], decide (-V < 0), by unfold mdW Fq.wD; rw [if_neg z], ?_⟩
      unfold Fq.plz
      by_cases d : V < 0
      · rw [decide_eq_true d, decide_eq_false (by omega)]; simp
      · rw [decide_eq_false d, decide_eq_true (by omega)]; simp
theorem mdP_neg (n g n' g' : Bool) (m r : Nat) (h1 : Fq.plz n' m = -Fq.plz n m) (h2 : Fq.plz g' r = -Fq.plz g r) : ∃ (s : Bool) (x : Nat), x ≤ 9218868437227405312 ∧ mdP n m g r = Fq.wD s x ∧ (∃ s', mdP g' r n' m = Fq.wD s' x ∧ Fq.plz s' x = -Fq.plz s x) := by
  have i : ∀ (k n : Bool) (m : Nat), Fq.plz k m = -Fq.plz n m → Iv k m = -Iv n m := fun k n m h => by
    have z := vV_zero_iff m
    unfold Fq.plz at h
    unfold Iv
    cases k <;> cases n <;> simp at h ⊢ <;> omega
  unfold mdP
  by_cases c1 : m = 9218868437227405312
  · by_cases c2 : r = 9218868437227405312
    · rw [if_pos c1, if_pos c2, if_pos c2, if_pos c1]
      exact ⟨false, 0, by decide, rfl, false, rfl, rfl⟩
    · rw [if_pos c1, if_neg c2, if_neg c2, if_pos c1]
      exact ⟨true, 9218868437227405311, by decide, rfl, false, rfl, rfl⟩
  · by_cases c2 : r = 9218868437227405312
    · rw [if_neg c1, if_pos c2, if_pos c2, if_neg c1]
      exact ⟨false, 9218868437227405311, by decide, rfl, true, rfl, rfl⟩
    · rw [if_neg c1, if_neg c2, if_neg c2, if_neg c1, i n' n m h1, i g' g r h2, show -Iv g r + -Iv n m = -(Iv n m + Iv g r) from by omega]
      exact hfW_neg _

theorem plz_m (n n' : Bool) (m m' : Nat) (h : Fq.plz n m = Fq.plz n' m') : m = m' := by
  unfold Fq.plz at h
  cases n <;> cases n' <;> simp at h <;> omega
theorem apW_sym (n n' : Bool) (m m' : Nat) : apW n m n' m' = apW n' m' n m := by
  unfold apW
  by_cases c : Fq.plz n m = Fq.plz n' m'
  · rw [if_pos c, if_pos c.symm]
  · rw [if_neg c, if_neg (show ¬ Fq.plz n' m' = Fq.plz n m from fun h => c h.symm)]
    by_cases d : m = 9218868437227405312 ∨ m' = 9218868437227405312
    · rw [if_pos d, if_pos d.symm]
    · rw [if_neg d, if_neg (show ¬ (m' = 9218868437227405312 ∨ m = 9218868437227405312) from fun h => d h.symm)]
      by_cases e : Fq.plz n m < Fq.plz n' m'
      · rw [if_pos e, if_neg (show ¬ Fq.plz n' m' < Fq.plz n m by omega)]
      · rw [if_neg e, if_pos (show Fq.plz n' m' < Fq.plz n m by omega)]
theorem apW_fin (n n' : Bool) (m m' : Nat) (hm : m < 9218868437227405312) (hm' : m' < 9218868437227405312) : apW n m n' m' = sumW 1 (((Iv n m - Iv n' m').natAbs : Nat) : Int) := by
  have q1 := iv_lt8 n n' m m'
  have q2 := iv_lt8 n' n m' m
  unfold apW
  by_cases c : Fq.plz n m = Fq.plz n' m'
  · rw [if_pos c, show (((Iv n m - Iv n' m').natAbs : Nat) : Int) = 0 from by omega]; rfl
  · rw [if_neg c, if_neg (by omega)]
    congr 1
    by_cases e : Fq.plz n m < Fq.plz n' m'
    · rw [if_pos e]; have := q1.2 e; omega
    · rw [if_neg e]; have := q2.2 (by omega); omega
theorem apW_zero (n n' : Bool) (m m' : Nat) : apW n m n' m' = 0 ↔ Fq.plz n m = Fq.plz n' m' := by
  constructor
  · intro h
    by_cases c : Fq.plz n m = Fq.plz n' m'
    · exact c
    · exfalso
      by_cases d : m = 9218868437227405312 ∨ m' = 9218868437227405312
      · unfold apW at h; rw [if_neg c, if_pos d] at h; omega
      · unfold apW at h
        rw [if_neg c, if_neg d] at h
        have q1 := iv_lt8 n n' m m'
        have q2 := iv_lt8 n' n m' m
        by_cases e : Fq.plz n m < Fq.plz n' m'
        · rw [if_pos e] at h; have := sumW_pos (Iv n' m' - Iv n m) (by have := q1.2 e; omega); omega
        · rw [if_neg e] at h; have := sumW_pos (Iv n m - Iv n' m') (by have := q2.2 (by omega); omega); omega
  · intro h; unfold apW; rw [if_pos h]
theorem apW_cong (n n' g : Bool) (m m' r : Nat) (h : Fq.plz n m = Fq.plz n' m') : apW n m g r = apW n' m' g r := by
  have e := plz_m n n' m m' h
  have q1 := iv_lt8 n n' m m'
  have q2 := iv_lt8 n' n m' m
  have i : Iv n m = Iv n' m' := by omega
  unfold apW
  rw [h, i, e]
theorem adU_zero (q : Nat) (h : q ≤ 9218868437227405312) : adU 0 q = q ∧ adU q 0 = q := by
  have z : Iv false 0 = 0 := by unfold Iv; rw [if_neg (by decide), Fq.vV_zero]; rfl
  unfold adU
  by_cases c : q = 9218868437227405312
  · rw [if_pos (Or.inr c), if_pos (Or.inl c), c]; exact ⟨rfl, rfl⟩
  · rw [if_neg (by omega), if_neg (by omega), z, Int.zero_add, Int.add_zero]
    have e := sumW_exact 1 false q (by omega)
    have : Fq.pla (Fq.wD false q) = q := by unfold Fq.pla Fq.wD; simp; omega
    rw [this] at e
    exact ⟨e, e⟩
theorem apW_tri (n1 n2 n3 : Bool) (m1 m2 m3 : Nat) (h1 : m1 ≤ 9218868437227405312) (h2 : m2 ≤ 9218868437227405312) (h3 : m3 ≤ 9218868437227405312) : apW n1 m1 n3 m3 ≤ adU (apW n1 m1 n2 m2) (apW n2 m2 n3 m3) := by
  have l := apW_le n1 n3 m1 m3
  have l1 := apW_le n1 n2 m1 m2
  have l2 := apW_le n2 n3 m2 m3
  by_cases c1 : Fq.plz n1 m1 = Fq.plz n2 m2
  · rw [(apW_zero n1 n2 m1 m2).2 c1, (adU_zero _ l2).1, apW_cong n1 n2 n3 m1 m2 m3 c1]
    exact Nat.le_refl _
  by_cases c2 : Fq.plz n2 m2 = Fq.plz n3 m3
  · rw [(apW_zero n2 n3 m2 m3).2 c2, (adU_zero _ l1).2, apW_sym n1 n3 m1 m3, ← apW_cong n2 n3 n1 m2 m3 m1 c2, apW_sym n2 n1 m2 m1]
    exact Nat.le_refl _
  by_cases d1 : m1 = 9218868437227405312 ∨ m2 = 9218868437227405312
  · have : apW n1 m1 n2 m2 = 9218868437227405312 := by unfold apW; rw [if_neg c1, if_pos d1]
    unfold adU; rw [if_pos (Or.inl this)]; exact l
  by_cases d2 : m2 = 9218868437227405312 ∨ m3 = 9218868437227405312
  · have : apW n2 m2 n3 m3 = 9218868437227405312 := by unfold apW; rw [if_neg c2, if_pos d2]
    unfold adU; rw [if_pos (Or.inr this)]; exact l
  rw [apW_fin n1 n2 m1 m2 (by omega) (by omega), apW_fin n2 n3 m2 m3 (by omega) (by omega), apW_fin n1 n3 m1 m3 (by omega) (by omega)]
  unfold adU
  by_cases d3 : sumW 1 (((Iv n1 m1 - Iv n2 m2).natAbs : Nat) : Int) = 9218868437227405312 ∨ sumW 1 (((Iv n2 m2 - Iv n3 m3).natAbs : Nat) : Int) = 9218868437227405312
  · rw [if_pos d3]; rw [apW_fin n1 n3 m1 m3 (by omega) (by omega)] at l; exact l
  · rw [if_neg d3]
    rw [apW_fin n1 n2 m1 m2 (by omega) (by omega)] at l1
    rw [apW_fin n2 n3 m2 m3 (by omega) (by omega)] at l2
    have g1 := sumW_ge (((Iv n1 m1 - Iv n2 m2).natAbs : Nat) : Int) (by omega) (by omega)
    have g2 := sumW_ge (((Iv n2 m2 - Iv n3 m3).natAbs : Nat) : Int) (by omega) (by omega)
    exact sumW_mono _ _ (by omega) (by omega)
/-- the greater of two -/
def mxN (p q : Nat) : Nat := if q < p then p else q
theorem tri_ds (a b c a' b' c' p q : Nat) (h1 : a ≤ adU b c) (h2 : a' ≤ adU b' c') (l1 : b ≤ 9218868437227405312) (l2 : b' ≤ 9218868437227405312) (l3 : c ≤ 9218868437227405312) (l4 : c' ≤ 9218868437227405312) (hp : p = mxN b b') (hq : q = mxN c c') : mxN a a' ≤ adU p q := by
  have m1 : b ≤ p ∧ b' ≤ p ∧ p ≤ 9218868437227405312 := by rw [hp]; unfold mxN; split <;> omega
  have m2 : c ≤ q ∧ c' ≤ q ∧ q ≤ 9218868437227405312 := by rw [hq]; unfold mxN; split <;> omega
  have e1 := adU_mono b c p q m1.1 m2.1 m1.2.2 m2.2.2
  have e2 := adU_mono b' c' p q m1.2.1 m2.2.1 m1.2.2 m2.2.2
  unfold mxN
  split <;> omega
theorem padU_ (p q : Nat) (hp : p ≤ 9218868437227405312) (hq : q ≤ 9218868437227405312) (w : World) (hT : Tab w) (hQ : Fq.Tab w) : Calls Tryd.prog 32 #[.int .i64 1, .float .f64 p, .float .f64 q] w fun e w' => e = .returned (.float .f64 (adU p q)) ∧ Kp w w' := by
  unfold adU
  by_cases c : p = 9218868437227405312 ∨ q = 9218868437227405312
  · rw [if_pos c]
    have h := paddI_ 1 false false p q (by omega) (by omega) (by omega) (fun h => by
      rcases h with h | h | h
      · omega
      · omega
      · exact h.2.2 rfl) w
    have e : Fq.wD (if p = 9218868437227405312 then false else false) 9218868437227405312 = 9218868437227405312 := by split <;> rfl
    rw [e] at h
    exact h
  · rw [if_neg c]
    exact paddF_ 1 false false p q (by omega) (by omega) w hT hQ (by decide) (by decide)

/-- two blocks of two cells, one behind the other -/
def H48 (w : World) (B : Nat) (a b c d : Value) : Prop := Fq.H2 w B a b ∧ Fq.H2 w (B + 1) c d
theorem H48.keep {W w : World} {B : Nat} {a b c d : Value} (h : H48 W B a b c d) (g : Kp W w) : H48 w B a b c d := ⟨Fq.H2.keep h.1 g, Fq.H2.keep h.2 g⟩
theorem H48.new (w : World) (a b c d : Value) (s t : TypeId) : H48 ((w.alloc (.cells #[a, b] s)).alloc (.cells #[c, d] t)) w.heap.size a b c d := by
  refine ⟨?_, ?_⟩ <;> (unfold Fq.H2; simp [go_sem])
theorem H48.put {w : World} {B : Nat} {a b c d : Value} (h : H48 w B a b c d) (a' b' c' d' : Value) : H48 ((((w.setCell ⟨B, 0, none⟩ a').setCell ⟨B, 1, none⟩ b').setCell ⟨B + 1, 0, none⟩ c').setCell ⟨B + 1, 1, none⟩ d') B a' b' c' d' := by
  refine ⟨?_, ?_⟩
  · exact Fq.H2.far (Fq.H2.put h.1 a' b') (by omega) c' d'
  · exact Fq.H2.put (Fq.H2.far h.2 (by omega) a' b') c' d'
set_option maxRecDepth 20000 in
set_option maxHeartbeats 2000000 in
theorem dist1_ (a b c d L1 H1 L2 H2 : Nat) (hx : ∀ w : World, Calls Tryd.prog 16 #[.agg #[.float .f64 a, .float .f64 b]] w fun e w' => e = .returned (.agg #[.float .f64 L1, .float .f64 H1]) ∧ Kp w w') (hy : ∀ w : World, Calls Tryd.prog 16 #[.agg #[.float .f64 c, .float .f64 d]] w fun e w' => e = .returned (.agg #[.float .f64 L2, .float .f64 H2]) ∧ Kp w w') (hv1 : ∀ w : World, Calls Tryd.prog 17 #[.agg #[.float .f64 L1, .float .f64 H1]] w fun e w' => e = .returned (.bool true) ∧ Kp w w') (w : World) : Calls Tryd.prog 14 #[.agg #[.float .f64 a, .float .f64 b], .agg #[.float .f64 c, .float .f64 d]] w fun e w' => e = .returned (.float .f64 9221120237041090561) ∧ Kp w w' := by
    go_enter Tryd.func14, Tryd.ntmps14
    go_wp2
    go_region_with (first | (go_at_call_of 16 (Value.agg #[.float .f64 a, .float .f64 b]); refine (hx _).mono ?_; rintro e wx ⟨rfl, gx⟩; first | (have kx := Kp.trans ky gx; have sx := H48.keep sy gx; obtain ⟨⟨p0, p1, p2, p3⟩, ⟨p4, p5, p6, p7⟩⟩ := id sx) | (have kx : Kp w wx := Kp.trans (((Kp.refl w).alloc _).alloc _).drew gx; have sx := H48.keep (H48.new w (.float .f64 a) (.float .f64 b) (.float .f64 c) (.float .f64 d) 25 25) (Kp.trans (Kp.drew (Kp.refl _)) gx); obtain ⟨⟨p0, p1, p2, p3⟩, ⟨p4, p5, p6, p7⟩⟩ := id sx)) | (go_at_call_of 16 (Value.agg #[.float .f64 c, .float .f64 d]); refine (hy _).mono ?_; rintro e wy ⟨rfl, gy⟩; first | (have ky := Kp.trans kx gy; have sy := H48.keep sx gy; obtain ⟨⟨p0, p1, p2, p3⟩, ⟨p4, p5, p6, p7⟩⟩ := id sy) | (have ky : Kp w wy := Kp.trans (((Kp.refl w).alloc _).alloc _).drew gy; have sy := H48.keep (H48.new w (.float .f64 a) (.float .f64 b) (.float .f64 c) (.float .f64 d) 25 25) (Kp.trans (Kp.drew (Kp.refl _)) gy); obtain ⟨⟨p0, p1, p2, p3⟩, ⟨p4, p5, p6, p7⟩⟩ := id sy)))
    all_goals (first
      | skip
        have sw := H48.put (id sy : H48 wy w.heap.size (.float .f64 a) (.float .f64 b) (.float .f64 c) (.float .f64 d)) (.float .f64 L1) (.float .f64 H1) (.float .f64 L2) (.float .f64 H2)
        have kw : Kp w ((((wy.setCell ⟨w.heap.size, 0, none⟩ (.float .f64 L1)).setCell ⟨w.heap.size, 1, none⟩ (.float .f64 H1)).setCell ⟨w.heap.size + 1, 0, none⟩ (.float .f64 L2)).setCell ⟨w.heap.size + 1, 1, none⟩ (.float .f64 H2)) := (((ky.setCell (Nat.le_refl _) _).setCell (Nat.le_refl _) _).setCell (Nat.le_succ _) _).setCell (Nat.le_succ _) _
        generalize hW : ((((wy.setCell ⟨w.heap.size, 0, none⟩ (.float .f64 L1)).setCell ⟨w.heap.size, 1, none⟩ (.float .f64 H1)).setCell ⟨w.heap.size + 1, 0, none⟩ (.float .f64 L2)).setCell ⟨w.heap.size + 1, 1, none⟩ (.float .f64 H2)) = W at sw kw ⊢
        clear hW
      | skip
        have sw := H48.put (id sx : H48 wx w.heap.size (.float .f64 a) (.float .f64 b) (.float .f64 c) (.float .f64 d)) (.float .f64 L1) (.float .f64 H1) (.float .f64 L2) (.float .f64 H2)
        have kw : Kp w ((((wx.setCell ⟨w.heap.size, 0, none⟩ (.float .f64 L1)).setCell ⟨w.heap.size, 1, none⟩ (.float .f64 H1)).setCell ⟨w.heap.size + 1, 0, none⟩ (.float .f64 L2)).setCell ⟨w.heap.size + 1, 1, none⟩ (.float .f64 H2)) := (((kx.setCell (Nat.le_refl _) _).setCell (Nat.le_refl _) _).setCell (Nat.le_succ _) _).setCell (Nat.le_succ _) _
        generalize hW : ((((wx.setCell ⟨w.heap.size, 0, none⟩ (.float .f64 L1)).setCell ⟨w.heap.size, 1, none⟩ (.float .f64 H1)).setCell ⟨w.heap.size + 1, 0, none⟩ (.float .f64 L2)).setCell ⟨w.heap.size + 1, 1, none⟩ (.float .f64 H2)) = W at sw kw ⊢
        clear hW)
    all_goals (
      obtain ⟨⟨p0, p1, p2, p3⟩, ⟨p4, p5, p6, p7⟩⟩ := id sw
      go_wp2_with (first | (go_at_call_of 17 (Value.agg #[.float .f64 L1, .float .f64 H1]); refine (hv1 _).mono ?_; rintro e wv ⟨rfl, gv⟩; have kv := Kp.trans kw gv; have sv := H48.keep sw gv; obtain ⟨⟨u0, u1, u2, u3⟩, ⟨u4, u5, u6, u7⟩⟩ := id sv) | (go_at_call 18; refine (nan8_ _).mono ?_; rintro e w9 ⟨rfl, g9⟩; have k9 : Kp w w9 := Kp.trans kv g9))
      exact bodyPost_ret (v := .float .f64 9221120237041090561) (by simp [results, Tryd.results14, go_sem]) rfl ⟨rfl, k9⟩)
set_option maxRecDepth 20000 in
set_option maxHeartbeats 2000000 in
theorem dist2_ (a b c d L1 H1 L2 H2 : Nat) (hx : ∀ w : World, Calls Tryd.prog 16 #[.agg #[.float .f64 a, .float .f64 b]] w fun e w' => e = .returned (.agg #[.float .f64 L1, .float .f64 H1]) ∧ Kp w w') (hy : ∀ w : World, Calls Tryd.prog 16 #[.agg #[.float .f64 c, .float .f64 d]] w fun e w' => e = .returned (.agg #[.float .f64 L2, .float .f64 H2]) ∧ Kp w w') (hv1 : ∀ w : World, Calls Tryd.prog 17 #[.agg #[.float .f64 L1, .float .f64 H1]] w fun e w' => e = .returned (.bool false) ∧ Kp w w') (hv2 : ∀ w : World, Calls Tryd.prog 17 #[.agg #[.float .f64 L2, .float .f64 H2]] w fun e w' => e = .returned (.bool true) ∧ Kp w w') (w : World) : Calls Tryd.prog 14 #[.agg #[.float .f64 a, .float .f64 b], .agg #[.float .f64 c, .float .f64 d]] w fun e w' => e = .returned (.float .f64 9221120237041090561) ∧ Kp w w' := by
    go_enter Tryd.func14, Tryd.ntmps14
    go_wp2
    go_region_with (first | (go_at_call_of 16 (Value.agg #[.float .f64 a, .float .f64 b]); refine (hx _).mono ?_; rintro e wx ⟨rfl, gx⟩; first | (have kx := Kp.trans ky gx; have sx := H48.keep sy gx; obtain ⟨⟨p0, p1, p2, p3⟩, ⟨p4, p5, p6, p7⟩⟩ := id sx) | (have kx : Kp w wx := Kp.trans (((Kp.refl w).alloc _).alloc _).drew gx; have sx := H48.keep (H48.new w (.float .f64 a) (.float .f64 b) (.float .f64 c) (.float .f64 d) 25 25) (Kp.trans (Kp.drew (Kp.refl _)) gx); obtain ⟨⟨p0, p1, p2, p3⟩, ⟨p4, p5, p6, p7⟩⟩ := id sx)) | (go_at_call_of 16 (Value.agg #[.float .f64 c, .float .f64 d]); refine (hy _).mono ?_; rintro e wy ⟨rfl, gy⟩; first | (have ky := Kp.trans kx gy; have sy := H48.keep sx gy; obtain ⟨⟨p0, p1, p2, p3⟩, ⟨p4, p5, p6, p7⟩⟩ := id sy) | (have ky : Kp w wy := Kp.trans (((Kp.refl w).alloc _).alloc _).drew gy; have sy := H48.keep (H48.new w (.float .f64 a) (.float .f64 b) (.float .f64 c) (.float .f64 d) 25 25) (Kp.trans (Kp.drew (Kp.refl _)) gy); obtain ⟨⟨p0, p1, p2, p3⟩, ⟨p4, p5, p6, p7⟩⟩ := id sy)))
    all_goals (first
      | skip
        have sw := H48.put (id sy : H48 wy w.heap.size (.float .f64 a) (.float .f64 b) (.float .f64 c) (.float .f64 d)) (.float .f64 L1) (.float .f64 H1) (.float .f64 L2) (.float .f64 H2)
        have kw : Kp w ((((wy.setCell ⟨w.heap.size, 0, none⟩ (.float .f64 L1)).setCell ⟨w.heap.size, 1, none⟩ (.float .f64 H1)).setCell ⟨w.heap.size + 1, 0, none⟩ (.float .f64 L2)).setCell ⟨w.heap.size + 1, 1, none⟩ (.float .f64 H2)) := (((ky.setCell (Nat.le_refl _) _).setCell (Nat.le_refl _) _).setCell (Nat.le_succ _) _).setCell (Nat.le_succ _) _
        generalize hW : ((((wy.setCell ⟨w.heap.size, 0, none⟩ (.float .f64 L1)).setCell ⟨w.heap.size, 1, none⟩ (.float .f64 H1)).setCell ⟨w.heap.size + 1, 0, none⟩ (.float .f64 L2)).setCell ⟨w.heap.size + 1, 1, none⟩ (.float .f64 H2)) = W at sw kw ⊢
        clear hW
      | skip
        have sw := H48.put (id sx : H48 wx w.heap.size (.float .f64 a) (.float .f64 b) (.float .f64 c) (.float .f64 d)) (.float .f64 L1) (.float .f64 H1) (.float .f64 L2) (.float .f64 H2)
        have kw : Kp w ((((wx.setCell ⟨w.heap.size, 0, none⟩ (.float .f64 L1)).setCell ⟨w.heap.size, 1, none⟩ (.float .f64 H1)).setCell ⟨w.heap.size + 1, 0, none⟩ (.float .f64 L2)).setCell ⟨w.heap.size + 1, 1, none⟩ (.float .f64 H2)) := (((kx.setCell (Nat.le_refl _) _).setCell (Nat.le_refl _) _).setCell (Nat.le_succ _) _).setCell (Nat.le_succ _) _
        generalize hW : ((((wx.setCell ⟨w.heap.size, 0, none⟩ (.float .f64 L1)).setCell ⟨w.heap.size, 1, none⟩ (.float .f64 H1)).setCell ⟨w.heap.size + 1, 0, none⟩ (.float .f64 L2)).setCell ⟨w.heap.size + 1, 1, none⟩ (.float .f64 H2)) = W at sw kw ⊢
        clear hW)
    all_goals (
      obtain ⟨⟨p0, p1, p2, p3⟩, ⟨p4, p5, p6, p7⟩⟩ := id sw
      go_wp2_with (first | (go_at_call_of 17 (Value.agg #[.float .f64 L1, .float .f64 H1]); refine (hv1 _).mono ?_; rintro e wv ⟨rfl, gv⟩; have kv := Kp.trans kw gv; have sv := H48.keep sw gv; obtain ⟨⟨u0, u1, u2, u3⟩, ⟨u4, u5, u6, u7⟩⟩ := id sv) | (go_at_call_of 17 (Value.agg #[.float .f64 L2, .float .f64 H2]); refine (hv2 _).mono ?_; rintro e wz ⟨rfl, gz⟩; have kz := Kp.trans kv gz; have sz := H48.keep sv gz; obtain ⟨⟨t0, t1, t2, t3⟩, ⟨t4, t5, t6, t7⟩⟩ := id sz) | (go_at_call 18; refine (nan8_ _).mono ?_; rintro e w9 ⟨rfl, g9⟩; have k9 : Kp w w9 := Kp.trans kz g9))
      exact bodyPost_ret (v := .float .f64 9221120237041090561) (by simp [results, Tryd.results14, go_sem]) rfl ⟨rfl, k9⟩)
set_option maxRecDepth 20000 in
set_option maxHeartbeats 4000000 in
theorem dist3_ (a b c d L1 H1 L2 H2 : Nat) (hx : ∀ w : World, Calls Tryd.prog 16 #[.agg #[.float .f64 a, .float .f64 b]] w fun e w' => e = .returned (.agg #[.float .f64 L1, .float .f64 H1]) ∧ Kp w w') (hy : ∀ w : World, Calls Tryd.prog 16 #[.agg #[.float .f64 c, .float .f64 d]] w fun e w' => e = .returned (.agg #[.float .f64 L2, .float .f64 H2]) ∧ Kp w w') (hv1 : ∀ w : World, Calls Tryd.prog 17 #[.agg #[.float .f64 L1, .float .f64 H1]] w fun e w' => e = .returned (.bool false) ∧ Kp w w') (hv2 : ∀ w : World, Calls Tryd.prog 17 #[.agg #[.float .f64 L2, .float .f64 H2]] w fun e w' => e = .returned (.bool false) ∧ Kp w w') (PL PH G9 : Nat) (w : World) (hA1 : ∀ W : World, Kp w W → Calls Tryd.prog 22 #[.float .f64 L1, .float .f64 L2] W fun e w' => e = .returned (.float .f64 PL) ∧ Kp W w') (hA2 : ∀ W : World, Kp w W → Calls Tryd.prog 22 #[.float .f64 H1, .float .f64 H2] W fun e w' => e = .returned (.float .f64 PH) ∧ Kp W w') (hg : ∀ w : World, Calls Tryd.prog 23 #[.float .f64 PL, .float .f64 PH] w fun e w' => e = .returned (.float .f64 G9) ∧ w' = w) : Calls Tryd.prog 14 #[.agg #[.float .f64 a, .float .f64 b], .agg #[.float .f64 c, .float .f64 d]] w fun e w' => e = .returned (.float .f64 G9) ∧ Kp w w' := by
    go_enter Tryd.func14, Tryd.ntmps14
    go_wp2
    go_region_with (first | (go_at_call_of 16 (Value.agg #[.float .f64 a, .float .f64 b]); refine (hx _).mono ?_; rintro e wx ⟨rfl, gx⟩; first | (have kx := Kp.trans ky gx; have sx := H48.keep sy gx; obtain ⟨⟨p0, p1, p2, p3⟩, ⟨p4, p5, p6, p7⟩⟩ := id sx) | (have kx : Kp w wx := Kp.trans (((Kp.refl w).alloc _).alloc _).drew gx; have sx := H48.keep (H48.new w (.float .f64 a) (.float .f64 b) (.float .f64 c) (.float .f64 d) 25 25) (Kp.trans (Kp.drew (Kp.refl _)) gx); obtain ⟨⟨p0, p1, p2, p3⟩, ⟨p4, p5, p6, p7⟩⟩ := id sx)) | (go_at_call_of 16 (Value.agg #[.float .f64 c, .float .f64 d]); refine (hy _).mono ?_; rintro e wy ⟨rfl, gy⟩; first | (have ky := Kp.trans kx gy; have sy := H48.keep sx gy; obtain ⟨⟨p0, p1, p2, p3⟩, ⟨p4, p5, p6, p7⟩⟩ := id sy) | (have ky : Kp w wy := Kp.trans (((Kp.refl w).alloc _).alloc _).drew gy; have sy := H48.keep (H48.new w (.float .f64 a) (.float .f64 b) (.float .f64 c) (.float .f64 d) 25 25) (Kp.trans (Kp.drew (Kp.refl _)) gy); obtain ⟨⟨p0, p1, p2, p3⟩, ⟨p4, p5, p6, p7⟩⟩ := id sy)))
    all_goals (first
      | skip
        have sw := H48.put (id sy : H48 wy w.heap.size (.float .f64 a) (.float .f64 b) (.float .f64 c) (.float .f64 d)) (.float .f64 L1) (.float .f64 H1) (.float .f64 L2) (.float .f64 H2)
        have kw : Kp w ((((wy.setCell ⟨w.heap.size, 0, none⟩ (.float .f64 L1)).setCell ⟨w.heap.size, 1, none⟩ (.float .f64 H1)).setCell ⟨w.heap.size + 1, 0, none⟩ (.float .f64 L2)).setCell ⟨w.heap.size + 1, 1, none⟩ (.float .f64 H2)) := (((ky.setCell (Nat.le_refl _) _).setCell (Nat.le_refl _) _).setCell (Nat.le_succ _) _).setCell (Nat.le_succ _) _
        generalize hW : ((((wy.setCell ⟨w.heap.size, 0, none⟩ (.float .f64 L1)).setCell ⟨w.heap.size, 1, none⟩ (.float .f64 H1)).setCell ⟨w.heap.size + 1, 0, none⟩ (.float .f64 L2)).setCell ⟨w.heap.size + 1, 1, none⟩ (.float .f64 H2)) = W at sw kw ⊢
        clear hW
      | skip
        have sw := H48.put (id sx : H48 wx w.heap.size (.float .f64 a) (.float .f64 b) (.float .f64 c) (.float .f64 d)) (.float .f64 L1) (.float .f64 H1) (.float .f64 L2) (.float .f64 H2)
        have kw : Kp w ((((wx.setCell ⟨w.heap.size, 0, none⟩ (.float .f64 L1)).setCell ⟨w.heap.size, 1, none⟩ (.float .f64 H1)).setCell ⟨w.heap.size + 1, 0, none⟩ (.float .f64 L2)).setCell ⟨w.heap.size + 1, 1, none⟩ (.float .f64 H2)) := (((kx.setCell (Nat.le_refl _) _).setCell (Nat.le_refl _) _).setCell (Nat.le_succ _) _).setCell (Nat.le_succ _) _
        generalize hW : ((((wx.setCell ⟨w.heap.size, 0, none⟩ (.float .f64 L1)).setCell ⟨w.heap.size, 1, none⟩ (.float .f64 H1)).setCell ⟨w.heap.size + 1, 0, none⟩ (.float .f64 L2)).setCell ⟨w.heap.size + 1, 1, none⟩ (.float .f64 H2)) = W at sw kw ⊢
        clear hW)
    all_goals (
      obtain ⟨⟨p0, p1, p2, p3⟩, ⟨p4, p5, p6, p7⟩⟩ := id sw
      go_wp2_with (first | (go_at_call_of 17 (Value.agg #[.float .f64 L1, .float .f64 H1]); refine (hv1 _).mono ?_; rintro e wv ⟨rfl, gv⟩; have kv := Kp.trans kw gv; have sv := H48.keep sw gv; obtain ⟨⟨u0, u1, u2, u3⟩, ⟨u4, u5, u6, u7⟩⟩ := id sv) | (go_at_call_of 17 (Value.agg #[.float .f64 L2, .float .f64 H2]); refine (hv2 _).mono ?_; rintro e wz ⟨rfl, gz⟩; have kz := Kp.trans kv gz; have sz := H48.keep sv gz; obtain ⟨⟨t0, t1, t2, t3⟩, ⟨t4, t5, t6, t7⟩⟩ := id sz))
      refine Fq.wp_region_grow (by kernel_rfl) (by kernel_rfl) (fun ι _ G hG hall => ?_)
      have cc0 : ∀ n, (G n).cell? ⟨w.heap.size, 0, none⟩ = some (.float .f64 L1) := fun n => Fq.gkeep (hG n) t0
      have cc1 : ∀ n, (G n).cell? ⟨w.heap.size, 1, none⟩ = some (.float .f64 H1) := fun n => Fq.gkeep (hG n) t1
      have cc2 : ∀ n, (G n).cell? ⟨w.heap.size + 1, 0, none⟩ = some (.float .f64 L2) := fun n => Fq.gkeep (hG n) t4
      have cc3 : ∀ n, (G n).cell? ⟨w.heap.size + 1, 1, none⟩ = some (.float .f64 H2) := fun n => Fq.gkeep (hG n) t5
      have kG : ∀ n, Kp w (G n) := fun n => Kp.trans kz (hG n)
      repeat (go_big_quiet_step (first | (go_at_call_of 22 (Value.float .f64 L1); exact (hA1 _ (kG _)).mono (fun e w' h => ⟨h.1, hall _ (Fq.gtrans (hG _) h.2)⟩)) | (go_at_call_of 22 (Value.float .f64 H1); exact (hA2 _ (kG _)).mono (fun e w' h => ⟨h.1, hall _ (Fq.gtrans (hG _) h.2)⟩)) | (go_at_call 23; exact (hg _).mono (fun e w' h => ⟨h.1, hall _ (by rw [h.2]; exact hG _)⟩))))
      refine wpQuiet_nil ?_
      rintro _ ⟨nq, rfl⟩
      have gq := kG nq
      clear cc0 cc1 cc2 cc3 hall hG kG
      go_wp2
      exact bodyPost_ret (v := .float .f64 G9) (by simp [results, Tryd.results14, go_sem]) rfl ⟨rfl, gq⟩)
theorem distX_ (a b c d : Nat) (ha : a < 18446744073709551616) (hb : b < 18446744073709551616) (hc : c < 18446744073709551616) (hd : d < 18446744073709551616) (s1 : Fq.snd a b = true) (n g : Bool) (m r : Nat) (l1 : m ≤ 9218868437227405312) (j1 : r ≤ 9218868437227405312) (e1 : Fq.rlo a b = Fq.wD n m) (d1 : Fq.rhi a b = Fq.wD g r) (s2 : Fq.snd c d = true) (n' g' : Bool) (m' r' : Nat) (l2 : m' ≤ 9218868437227405312) (j2 : r' ≤ 9218868437227405312) (e2 : Fq.rlo c d = Fq.wD n' m') (d2 : Fq.rhi c d = Fq.wD g' r') (w : World) (hT : Tab w) (hQ : Fq.Tab w) : Calls Tryd.prog 14 #[.agg #[.float .f64 a, .float .f64 b], .agg #[.float .f64 c, .float .f64 d]] w fun e w' => e = .returned (.float .f64 (mxN (apW n m n' m') (apW g r g' r'))) ∧ Kp w w' := by
  have hp := Fq.read_ a b ha hb
  have hp2 := Fq.read_ c d hc hd
  have hv := void8_ a b ha hb false (by simpa using s1)
  have hv2 := void8_ c d hc hd false (by simpa using s2)
  rw [e1, d1] at hp hv
  rw [e2, d2] at hp2 hv2
  exact dist3_ a b c d _ _ _ _ hp hp2 hv hv2 _ _ _ w (fun W y => apart8_ n n' m m' l1 l2 W (Tab.grown hT y) (Fq.Tab.grown hQ y)) (fun W y => apart8_ g g' r r' j1 j2 W (Tab.grown hT y) (Fq.Tab.grown hQ y)) (greater8_ _ _ (apW_le _ _ _ _) (apW_le _ _ _ _))
theorem fldI0_ (x y : Value) (w : World) : (Instr.field 25 (.agg #[x, y]) 0).run Tryd.prog w = .ok x w := by kernel_rfl
theorem fldI1_ (x y : Value) (w : World) : (Instr.field 25 (.agg #[x, y]) 1).run Tryd.prog w = .ok y w := by kernel_rfl
set_option maxRecDepth 20000 in
set_option maxHeartbeats 1000000 in
theorem meinf_ (a b : Nat) (ha : a < 18446744073709551616) (hb : b < 18446744073709551616) (w : World) : Calls Tryd.prog 5 #[.agg #[.float .f64 a, .float .f64 b]] w fun e w' => e = .returned (.float .f64 (Fq.rlo a b)) ∧ Kp w w' := by
  have hr := Fq.read_ a b ha hb
  generalize Fq.rlo a b = LO at hr ⊢
  generalize Fq.rhi a b = HI at hr ⊢
  have hfl := fldI0_ (.float .f64 LO) (.float .f64 HI)
  clear ha hb
  go_enter Tryd.func5, Tryd.ntmps5
  go_wp2_with (first | (go_at_call 16; refine (hr _).mono ?_; rintro e w1 ⟨rfl, g1⟩; have k1 : Kp w w1 := Kp.trans ((Kp.refl w).alloc _) g1))
  exact bodyPost_ret (v := .float .f64 LO) (by simp [results, Tryd.results5, go_sem]) rfl ⟨rfl, k1⟩
set_option maxRecDepth 20000 in
set_option maxHeartbeats 1000000 in
theorem mesup_ (a b : Nat) (ha : a < 18446744073709551616) (hb : b < 18446744073709551616) (w : World) : Calls Tryd.prog 6 #[.agg #[.float .f64 a, .float .f64 b]] w fun e w' => e = .returned (.float .f64 (Fq.rhi a b)) ∧ Kp w w' := by
  have hr := Fq.read_ a b ha hb
  generalize Fq.rlo a b = LO at hr ⊢
  generalize Fq.rhi a b = HI at hr ⊢
  have hfl := fldI1_ (.float .f64 LO) (.float .f64 HI)
  clear ha hb
  go_enter Tryd.func6, Tryd.ntmps6
  go_wp2_with (first | (go_at_call 16; refine (hr _).mono ?_; rintro e w1 ⟨rfl, g1⟩; have k1 : Kp w w1 := Kp.trans ((Kp.refl w).alloc _) g1))
  exact bodyPost_ret (v := .float .f64 HI) (by simp [results, Tryd.results6, go_sem]) rfl ⟨rfl, k1⟩
theorem kMid_all (w : World) : Calls Tryd.prog 8 #[.agg #[.float .f64 18442240474082181120, .float .f64 9218868437227405312]] w fun e w' => e = .returned (.float .f64 0) ∧ Kp w w' := by
  have h := midS8_ 18442240474082181120 9218868437227405312 (by decide) (by decide) (by decide +kernel) true false 9218868437227405312 9218868437227405312 (by decide) (by decide) (by decide +kernel) (by decide +kernel) w
  rw [show mdP true 9218868437227405312 false 9218868437227405312 = 0 from by decide +kernel] at h
  exact h
theorem kMid_hal (w : World) : Calls Tryd.prog 8 #[.agg #[.float .f64 4607182418800017408, .float .f64 9218868437227405312]] w fun e w' => e = .returned (.float .f64 9218868437227405311) ∧ Kp w w' := by
  have h := midS8_ 4607182418800017408 9218868437227405312 (by decide) (by decide) (by decide +kernel) false false 4607182418800017408 9218868437227405312 (by decide) (by decide) (by decide +kernel) (by decide +kernel) w
  rw [show mdP false 4607182418800017408 false 9218868437227405312 = 9218868437227405311 from by decide +kernel] at h
  exact h
theorem kMid_low (w : World) : Calls Tryd.prog 8 #[.agg #[.float .f64 18442240474082181120, .float .f64 13830554455654793216]] w fun e w' => e = .returned (.float .f64 18442240474082181119) ∧ Kp w w' := by
  have h := midS8_ 18442240474082181120 13830554455654793216 (by decide) (by decide) (by decide +kernel) true true 9218868437227405312 4607182418800017408 (by decide) (by decide) (by decide +kernel) (by decide +kernel) w
  rw [show mdP true 9218868437227405312 true 4607182418800017408 = 18442240474082181119 from by decide +kernel] at h
  exact h
theorem kMid_x1 (w : World) : Calls Tryd.prog 8 #[.agg #[.float .f64 13830554455654793216, .float .f64 4613937818241073152]] w fun e w' => e = .returned (.float .f64 4607182418800017408) ∧ Kp w w' := by
  have h := midS8_ 13830554455654793216 4613937818241073152 (by decide) (by decide) (by decide +kernel) true false 4607182418800017408 4613937818241073152 (by decide) (by decide) (by decide +kernel) (by decide +kernel) w
  rw [show mdP true 4607182418800017408 false 4613937818241073152 = 4607182418800017408 from by decide +kernel] at h
  exact h
theorem kMid_gg (w : World) : Calls Tryd.prog 8 #[.agg #[.float .f64 18442240474082181119, .float .f64 9218868437227405311]] w fun e w' => e = .returned (.float .f64 0) ∧ Kp w w' := by
  have h := midS8_ 18442240474082181119 9218868437227405311 (by decide) (by decide) (by decide +kernel) true false 9218868437227405311 9218868437227405311 (by decide) (by decide) (by decide +kernel) (by decide +kernel) w
  rw [show mdP true 9218868437227405311 false 9218868437227405311 = 0 from by decide +kernel] at h
  exact h
theorem kMid_ot (w : World) : Calls Tryd.prog 8 #[.agg #[.float .f64 0, .float .f64 1]] w fun e w' => e = .returned (.float .f64 0) ∧ Kp w w' := by
  have h := midS8_ 0 1 (by decide) (by decide) (by decide +kernel) false false 0 1 (by decide) (by decide) (by decide +kernel) (by decide +kernel) w
  rw [show mdP false 0 false 1 = 0 from by decide +kernel] at h
  exact h
theorem kMid_tt (w : World) : Calls Tryd.prog 8 #[.agg #[.float .f64 1, .float .f64 2]] w fun e w' => e = .returned (.float .f64 2) ∧ Kp w w' := by
  have h := midS8_ 1 2 (by decide) (by decide) (by decide +kernel) false false 1 2 (by decide) (by decide) (by decide +kernel) (by decide +kernel) w
  rw [show mdP false 1 false 2 = 2 from by decide +kernel] at h
  exact h
theorem kMid_to (w : World) : Calls Tryd.prog 8 #[.agg #[.float .f64 9223372036854775809, .float .f64 4607182418800017408]] w fun e w' => e = .returned (.float .f64 4602678819172646912) ∧ Kp w w' := by
  have h := midS8_ 9223372036854775809 4607182418800017408 (by decide) (by decide) (by decide +kernel) true false 1 4607182418800017408 (by decide) (by decide) (by decide +kernel) (by decide +kernel) w
  rw [show mdP true 1 false 4607182418800017408 = 4602678819172646912 from by decide +kernel] at h
  exact h
theorem kRad_all (w : World) (hT : Tab w) (hQ : Fq.Tab w) : Calls Tryd.prog 9 #[.agg #[.float .f64 18442240474082181120, .float .f64 9218868437227405312]] w fun e w' => e = .returned (.float .f64 9218868437227405312) ∧ Kp w w' := by
  refine radP_ 18442240474082181120 9218868437227405312 (Fq.wD false 0) 9218868437227405312 w (fun W y => ?_)
  have h := mradX_ 18442240474082181120 9218868437227405312 (by decide) (by decide) (by decide +kernel) true false 9218868437227405312 9218868437227405312 (by decide) (by decide) (by decide +kernel) (by decide +kernel) false 0 (by decide) (by decide +kernel) W (Tab.grown hT y) (Fq.Tab.grown hQ y)
  rw [show (if apW false 0 false 9218868437227405312 < apW true 9218868437227405312 false 0 then apW true 9218868437227405312 false 0 else apW false 0 false 9218868437227405312) = 9218868437227405312 from by decide +kernel] at h
  exact h
theorem kRad_hal (w : World) (hT : Tab w) (hQ : Fq.Tab w) : Calls Tryd.prog 9 #[.agg #[.float .f64 4607182418800017408, .float .f64 9218868437227405312]] w fun e w' => e = .returned (.float .f64 9218868437227405312) ∧ Kp w w' := by
  refine radP_ 4607182418800017408 9218868437227405312 (Fq.wD false 9218868437227405311) 9218868437227405312 w (fun W y => ?_)
  have h := mradX_ 4607182418800017408 9218868437227405312 (by decide) (by decide) (by decide +kernel) false false 4607182418800017408 9218868437227405312 (by decide) (by decide) (by decide +kernel) (by decide +kernel) false 9218868437227405311 (by decide) (by decide +kernel) W (Tab.grown hT y) (Fq.Tab.grown hQ y)
  rw [show (if apW false 9218868437227405311 false 9218868437227405312 < apW false 4607182418800017408 false 9218868437227405311 then apW false 4607182418800017408 false 9218868437227405311 else apW false 9218868437227405311 false 9218868437227405312) = 9218868437227405312 from by decide +kernel] at h
  exact h
theorem kRad_x1 (w : World) (hT : Tab w) (hQ : Fq.Tab w) : Calls Tryd.prog 9 #[.agg #[.float .f64 13830554455654793216, .float .f64 4613937818241073152]] w fun e w' => e = .returned (.float .f64 4611686018427387904) ∧ Kp w w' := by
  refine radP_ 13830554455654793216 4613937818241073152 (Fq.wD false 4607182418800017408) 4611686018427387904 w (fun W y => ?_)
  have h := mradX_ 13830554455654793216 4613937818241073152 (by decide) (by decide) (by decide +kernel) true false 4607182418800017408 4613937818241073152 (by decide) (by decide) (by decide +kernel) (by decide +kernel) false 4607182418800017408 (by decide) (by decide +kernel) W (Tab.grown hT y) (Fq.Tab.grown hQ y)
  rw [show (if apW false 4607182418800017408 false 4613937818241073152 < apW true 4607182418800017408 false 4607182418800017408 then apW true 4607182418800017408 false 4607182418800017408 else apW false 4607182418800017408 false 4613937818241073152) = 4611686018427387904 from by decide +kernel] at h
  exact h
theorem kRad_gg (w : World) (hT : Tab w) (hQ : Fq.Tab w) : Calls Tryd.prog 9 #[.agg #[.float .f64 18442240474082181119, .float .f64 9218868437227405311]] w fun e w' => e = .returned (.float .f64 9218868437227405311) ∧ Kp w w' := by
  refine radP_ 18442240474082181119 9218868437227405311 (Fq.wD false 0) 9218868437227405311 w (fun W y => ?_)
  have h := mradX_ 18442240474082181119 9218868437227405311 (by decide) (by decide) (by decide +kernel) true false 9218868437227405311 9218868437227405311 (by decide) (by decide) (by decide +kernel) (by decide +kernel) false 0 (by decide) (by decide +kernel) W (Tab.grown hT y) (Fq.Tab.grown hQ y)
  rw [show (if apW false 0 false 9218868437227405311 < apW true 9218868437227405311 false 0 then apW true 9218868437227405311 false 0 else apW false 0 false 9218868437227405311) = 9218868437227405311 from by decide +kernel] at h
  exact h
theorem kRad_ot (w : World) (hT : Tab w) (hQ : Fq.Tab w) : Calls Tryd.prog 9 #[.agg #[.float .f64 0, .float .f64 1]] w fun e w' => e = .returned (.float .f64 1) ∧ Kp w w' := by
  refine radP_ 0 1 (Fq.wD false 0) 1 w (fun W y => ?_)
  have h := mradX_ 0 1 (by decide) (by decide) (by decide +kernel) false false 0 1 (by decide) (by decide) (by decide +kernel) (by decide +kernel) false 0 (by decide) (by decide +kernel) W (Tab.grown hT y) (Fq.Tab.grown hQ y)
  rw [show (if apW false 0 false 1 < apW false 0 false 0 then apW false 0 false 0 else apW false 0 false 1) = 1 from by decide +kernel] at h
  exact h
theorem kRad_tt (w : World) (hT : Tab w) (hQ : Fq.Tab w) : Calls Tryd.prog 9 #[.agg #[.float .f64 1, .float .f64 2]] w fun e w' => e = .returned (.float .f64 1) ∧ Kp w w' := by
  refine radP_ 1 2 (Fq.wD false 2) 1 w (fun W y => ?_)
  have h := mradX_ 1 2 (by decide) (by decide) (by decide +kernel) false false 1 2 (by decide) (by decide) (by decide +kernel) (by decide +kernel) false 2 (by decide) (by decide +kernel) W (Tab.grown hT y) (Fq.Tab.grown hQ y)
  rw [show (if apW false 2 false 2 < apW false 1 false 2 then apW false 1 false 2 else apW false 2 false 2) = 1 from by decide +kernel] at h
  exact h
theorem kRad_to (w : World) (hT : Tab w) (hQ : Fq.Tab w) : Calls Tryd.prog 9 #[.agg #[.float .f64 9223372036854775809, .float .f64 4607182418800017408]] w fun e w' => e = .returned (.float .f64 4602678819172646913) ∧ Kp w w' := by
  refine radP_ 9223372036854775809 4607182418800017408 (Fq.wD false 4602678819172646912) 4602678819172646913 w (fun W y => ?_)
  have h := mradX_ 9223372036854775809 4607182418800017408 (by decide) (by decide) (by decide +kernel) true false 1 4607182418800017408 (by decide) (by decide) (by decide +kernel) (by decide +kernel) false 4602678819172646912 (by decide) (by decide +kernel) W (Tab.grown hT y) (Fq.Tab.grown hQ y)
  rw [show (if apW false 4602678819172646912 false 4607182418800017408 < apW true 1 false 4602678819172646912 then apW true 1 false 4602678819172646912 else apW false 4602678819172646912 false 4607182418800017408) = 4602678819172646913 from by decide +kernel] at h
  exact h
theorem kWid_all (w : World) (hT : Tab w) (hQ : Fq.Tab w) : Calls Tryd.prog 10 #[.agg #[.float .f64 18442240474082181120, .float .f64 9218868437227405312]] w fun e w' => e = .returned (.float .f64 9218868437227405312) ∧ Kp w w' := by
  have h := widX_ 18442240474082181120 9218868437227405312 (by decide) (by decide) (by decide +kernel) true false 9218868437227405312 9218868437227405312 (by decide) (by decide) (by decide +kernel) (by decide +kernel) w hT hQ
  rw [show apW true 9218868437227405312 false 9218868437227405312 = 9218868437227405312 from by decide +kernel] at h
  exact h
theorem kWid_x1 (w : World) (hT : Tab w) (hQ : Fq.Tab w) : Calls Tryd.prog 10 #[.agg #[.float .f64 13830554455654793216, .float .f64 4613937818241073152]] w fun e w' => e = .returned (.float .f64 4616189618054758400) ∧ Kp w w' := by
  have h := widX_ 13830554455654793216 4613937818241073152 (by decide) (by decide) (by decide +kernel) true false 4607182418800017408 4613937818241073152 (by decide) (by decide) (by decide +kernel) (by decide +kernel) w hT hQ
  rw [show apW true 4607182418800017408 false 4613937818241073152 = 4616189618054758400 from by decide +kernel] at h
  exact h
theorem kWid_gg (w : World) (hT : Tab w) (hQ : Fq.Tab w) : Calls Tryd.prog 10 #[.agg #[.float .f64 18442240474082181119, .float .f64 9218868437227405311]] w fun e w' => e = .returned (.float .f64 9218868437227405312) ∧ Kp w w' := by
  have h := widX_ 18442240474082181119 9218868437227405311 (by decide) (by decide) (by decide +kernel) true false 9218868437227405311 9218868437227405311 (by decide) (by decide) (by decide +kernel) (by decide +kernel) w hT hQ
  rw [show apW true 9218868437227405311 false 9218868437227405311 = 9218868437227405312 from by decide +kernel] at h
  exact h
theorem kWid_ot (w : World) (hT : Tab w) (hQ : Fq.Tab w) : Calls Tryd.prog 10 #[.agg #[.float .f64 0, .float .f64 1]] w fun e w' => e = .returned (.float .f64 1) ∧ Kp w w' := by
  have h := widX_ 0 1 (by decide) (by decide) (by decide +kernel) false false 0 1 (by decide) (by decide) (by decide +kernel) (by decide +kernel) w hT hQ
  rw [show apW false 0 false 1 = 1 from by decide +kernel] at h
  exact h
theorem kWid_to (w : World) (hT : Tab w) (hQ : Fq.Tab w) : Calls Tryd.prog 10 #[.agg #[.float .f64 9223372036854775809, .float .f64 4607182418800017408]] w fun e w' => e = .returned (.float .f64 4607182418800017409) ∧ Kp w w' := by
  have h := widX_ 9223372036854775809 4607182418800017408 (by decide) (by decide) (by decide +kernel) true false 1 4607182418800017408 (by decide) (by decide) (by decide +kernel) (by decide +kernel) w hT hQ
  rw [show apW true 1 false 4607182418800017408 = 4607182418800017409 from by decide +kernel] at h
  exact h
theorem kMag_all (w : World) : Calls Tryd.prog 11 #[.agg #[.float .f64 18442240474082181120, .float .f64 9218868437227405312]] w fun e w' => e = .returned (.float .f64 9218868437227405312) ∧ Kp w w' := by
  have h := magX_ 18442240474082181120 9218868437227405312 (by decide) (by decide) (by decide +kernel) true false 9218868437227405312 9218868437227405312 (by decide) (by decide) (by decide +kernel) (by decide +kernel) w
  rw [show (if 9218868437227405312 < 9218868437227405312 then 9218868437227405312 else 9218868437227405312) = 9218868437227405312 from by decide +kernel] at h
  exact h
theorem kMag_hal (w : World) : Calls Tryd.prog 11 #[.agg #[.float .f64 4607182418800017408, .float .f64 9218868437227405312]] w fun e w' => e = .returned (.float .f64 9218868437227405312) ∧ Kp w w' := by
  have h := magX_ 4607182418800017408 9218868437227405312 (by decide) (by decide) (by decide +kernel) false false 4607182418800017408 9218868437227405312 (by decide) (by decide) (by decide +kernel) (by decide +kernel) w
  rw [show (if 9218868437227405312 < 4607182418800017408 then 4607182418800017408 else 9218868437227405312) = 9218868437227405312 from by decide +kernel] at h
  exact h
theorem kMag_x1 (w : World) : Calls Tryd.prog 11 #[.agg #[.float .f64 13830554455654793216, .float .f64 4613937818241073152]] w fun e w' => e = .returned (.float .f64 4613937818241073152) ∧ Kp w w' := by
  have h := magX_ 13830554455654793216 4613937818241073152 (by decide) (by decide) (by decide +kernel) true false 4607182418800017408 4613937818241073152 (by decide) (by decide) (by decide +kernel) (by decide +kernel) w
  rw [show (if 4613937818241073152 < 4607182418800017408 then 4607182418800017408 else 4613937818241073152) = 4613937818241073152 from by decide +kernel] at h
  exact h
theorem kMig_all (w : World) : Calls Tryd.prog 12 #[.agg #[.float .f64 18442240474082181120, .float .f64 9218868437227405312]] w fun e w' => e = .returned (.float .f64 0) ∧ Kp w w' := by
  have h := migX_ 18442240474082181120 9218868437227405312 (by decide) (by decide) (by decide +kernel) true false 9218868437227405312 9218868437227405312 (by decide) (by decide) (by decide +kernel) (by decide +kernel) w
  rw [show miW true 9218868437227405312 false 9218868437227405312 = 0 from by decide +kernel] at h
  exact h
theorem kMig_hal (w : World) : Calls Tryd.prog 12 #[.agg #[.float .f64 4607182418800017408, .float .f64 9218868437227405312]] w fun e w' => e = .returned (.float .f64 4607182418800017408) ∧ Kp w w' := by
  have h := migX_ 4607182418800017408 9218868437227405312 (by decide) (by decide) (by decide +kernel) false false 4607182418800017408 9218868437227405312 (by decide) (by decide) (by decide +kernel) (by decide +kernel) w
  rw [show miW false 4607182418800017408 false 9218868437227405312 = 4607182418800017408 from by decide +kernel] at h
  exact h
theorem kMig_low (w : World) : Calls Tryd.prog 12 #[.agg #[.float .f64 18442240474082181120, .float .f64 13830554455654793216]] w fun e w' => e = .returned (.float .f64 4607182418800017408) ∧ Kp w w' := by
  have h := migX_ 18442240474082181120 13830554455654793216 (by decide) (by decide) (by decide +kernel) true true 9218868437227405312 4607182418800017408 (by decide) (by decide) (by decide +kernel) (by decide +kernel) w
  rw [show miW true 9218868437227405312 true 4607182418800017408 = 4607182418800017408 from by decide +kernel] at h
  exact h
theorem kMig_x1 (w : World) : Calls Tryd.prog 12 #[.agg #[.float .f64 13830554455654793216, .float .f64 4613937818241073152]] w fun e w' => e = .returned (.float .f64 0) ∧ Kp w w' := by
  have h := migX_ 13830554455654793216 4613937818241073152 (by decide) (by decide) (by decide +kernel) true false 4607182418800017408 4613937818241073152 (by decide) (by decide) (by decide +kernel) (by decide +kernel) w
  rw [show miW true 4607182418800017408 false 4613937818241073152 = 0 from by decide +kernel] at h
  exact h
theorem kDist_a12_a154 (w : World) (hT : Tab w) (hQ : Fq.Tab w) : Calls Tryd.prog 14 #[.agg #[.float .f64 4607182418800017408, .float .f64 4611686018427387904], .agg #[.float .f64 4609434218613702656, .float .f64 4616189618054758400]] w fun e w' => e = .returned (.float .f64 4611686018427387904) ∧ Kp w w' := by
  have h := distX_ 4607182418800017408 4611686018427387904 4609434218613702656 4616189618054758400 (by decide) (by decide) (by decide) (by decide) (by decide +kernel) false false 4607182418800017408 4611686018427387904 (by decide) (by decide) (by decide +kernel) (by decide +kernel) (by decide +kernel) false false 4609434218613702656 4616189618054758400 (by decide) (by decide) (by decide +kernel) (by decide +kernel) w hT hQ
  rw [show mxN (apW false 4607182418800017408 false 4609434218613702656) (apW false 4611686018427387904 false 4616189618054758400) = 4611686018427387904 from by decide +kernel] at h
  exact h
theorem kDist_hal_a3i (w : World) (hT : Tab w) (hQ : Fq.Tab w) : Calls Tryd.prog 14 #[.agg #[.float .f64 4607182418800017408, .float .f64 9218868437227405312], .agg #[.float .f64 4613937818241073152, .float .f64 9218868437227405312]] w fun e w' => e = .returned (.float .f64 4611686018427387904) ∧ Kp w w' := by
  have h := distX_ 4607182418800017408 9218868437227405312 4613937818241073152 9218868437227405312 (by decide) (by decide) (by decide) (by decide) (by decide +kernel) false false 4607182418800017408 9218868437227405312 (by decide) (by decide) (by decide +kernel) (by decide +kernel) (by decide +kernel) false false 4613937818241073152 9218868437227405312 (by decide) (by decide) (by decide +kernel) (by decide +kernel) w hT hQ
  rw [show mxN (apW false 4607182418800017408 false 4613937818241073152) (apW false 9218868437227405312 false 9218868437227405312) = 4611686018427387904 from by decide +kernel] at h
  exact h
theorem kDist_a12_hal (w : World) (hT : Tab w) (hQ : Fq.Tab w) : Calls Tryd.prog 14 #[.agg #[.float .f64 4607182418800017408, .float .f64 4611686018427387904], .agg #[.float .f64 4607182418800017408, .float .f64 9218868437227405312]] w fun e w' => e = .returned (.float .f64 9218868437227405312) ∧ Kp w w' := by
  have h := distX_ 4607182418800017408 4611686018427387904 4607182418800017408 9218868437227405312 (by decide) (by decide) (by decide) (by decide) (by decide +kernel) false false 4607182418800017408 4611686018427387904 (by decide) (by decide) (by decide +kernel) (by decide +kernel) (by decide +kernel) false false 4607182418800017408 9218868437227405312 (by decide) (by decide) (by decide +kernel) (by decide +kernel) w hT hQ
  rw [show mxN (apW false 4607182418800017408 false 4607182418800017408) (apW false 4611686018427387904 false 9218868437227405312) = 9218868437227405312 from by decide +kernel] at h
  exact h
theorem kDist_all_all (w : World) (hT : Tab w) (hQ : Fq.Tab w) : Calls Tryd.prog 14 #[.agg #[.float .f64 18442240474082181120, .float .f64 9218868437227405312], .agg #[.float .f64 18442240474082181120, .float .f64 9218868437227405312]] w fun e w' => e = .returned (.float .f64 0) ∧ Kp w w' := by
  have h := distX_ 18442240474082181120 9218868437227405312 18442240474082181120 9218868437227405312 (by decide) (by decide) (by decide) (by decide) (by decide +kernel) true false 9218868437227405312 9218868437227405312 (by decide) (by decide) (by decide +kernel) (by decide +kernel) (by decide +kernel) true false 9218868437227405312 9218868437227405312 (by decide) (by decide) (by decide +kernel) (by decide +kernel) w hT hQ
  rw [show mxN (apW true 9218868437227405312 true 9218868437227405312) (apW false 9218868437227405312 false 9218868437227405312) = 0 from by decide +kernel] at h
  exact h
theorem kE_read (w : World) : Calls Tryd.prog 16 #[.agg #[.float .f64 9218868437227405312, .float .f64 18442240474082181120]] w fun e w' => e = .returned (.agg #[.float .f64 9218868437227405312, .float .f64 18442240474082181120]) ∧ Kp w w' := by
  have h := Fq.read_ 9218868437227405312 18442240474082181120 (by decide) (by decide) w
  rw [show Fq.rlo 9218868437227405312 18442240474082181120 = 9218868437227405312 from by decide +kernel, show Fq.rhi 9218868437227405312 18442240474082181120 = 18442240474082181120 from by decide +kernel] at h
  exact h
theorem kE_void (w : World) : Calls Tryd.prog 17 #[.agg #[.float .f64 9218868437227405312, .float .f64 18442240474082181120]] w fun e w' => e = .returned (.bool true) ∧ Kp w w' := by
  have h := void8_ 9218868437227405312 18442240474082181120 (by decide) (by decide) true (by decide +kernel) w
  rw [show Fq.rlo 9218868437227405312 18442240474082181120 = 9218868437227405312 from by decide +kernel, show Fq.rhi 9218868437227405312 18442240474082181120 = 18442240474082181120 from by decide +kernel] at h
  exact h
theorem kE_Mid (w : World) : Calls Tryd.prog 8 #[.agg #[.float .f64 9218868437227405312, .float .f64 18442240474082181120]] w fun e w' => e = .returned (.float .f64 9221120237041090561) ∧ Kp w w' := midN_ _ _ _ _ kE_read kE_void w
theorem kE_Wid (w : World) : Calls Tryd.prog 10 #[.agg #[.float .f64 9218868437227405312, .float .f64 18442240474082181120]] w fun e w' => e = .returned (.float .f64 9221120237041090561) ∧ Kp w w' := widN_ _ _ _ _ kE_read kE_void w
theorem kE_Mag (w : World) : Calls Tryd.prog 11 #[.agg #[.float .f64 9218868437227405312, .float .f64 18442240474082181120]] w fun e w' => e = .returned (.float .f64 9221120237041090561) ∧ Kp w w' := magN_ _ _ _ _ kE_read kE_void w
theorem kE_Mig (w : World) : Calls Tryd.prog 12 #[.agg #[.float .f64 9218868437227405312, .float .f64 18442240474082181120]] w fun e w' => e = .returned (.float .f64 9221120237041090561) ∧ Kp w w' := migN_ _ _ _ _ kE_read kE_void w
theorem kE_Rad (w : World) : Calls Tryd.prog 9 #[.agg #[.float .f64 9218868437227405312, .float .f64 18442240474082181120]] w fun e w' => e = .returned (.float .f64 9221120237041090561) ∧ Kp w w' := radP_ 9218868437227405312 18442240474082181120 9221120237041090561 9221120237041090561 w (fun W _ => mradN_ _ _ _ _ _ kE_read kE_Mid kE_void W)
theorem kE_Inf (w : World) : Calls Tryd.prog 5 #[.agg #[.float .f64 9218868437227405312, .float .f64 18442240474082181120]] w fun e w' => e = .returned (.float .f64 9218868437227405312) ∧ Kp w w' := by
  have h := meinf_ 9218868437227405312 18442240474082181120 (by decide) (by decide) w
  rw [show Fq.rlo 9218868437227405312 18442240474082181120 = 9218868437227405312 from by decide +kernel] at h
  exact h
theorem kE_Sup (w : World) : Calls Tryd.prog 6 #[.agg #[.float .f64 9218868437227405312, .float .f64 18442240474082181120]] w fun e w' => e = .returned (.float .f64 18442240474082181120) ∧ Kp w w' := by
  have h := mesup_ 9218868437227405312 18442240474082181120 (by decide) (by decide) w
  rw [show Fq.rhi 9218868437227405312 18442240474082181120 = 18442240474082181120 from by decide +kernel] at h
  exact h
set_option maxRecDepth 20000 in
set_option maxHeartbeats 400000 in
theorem isNaN8_ (w : World) : Calls Tryd.prog 7 #[.float .f64 9221120237041090561] w fun e w' => e = .returned (.bool true) ∧ w' = w := by
  have hq : (FloatKind.f64.format.order 9221120237041090561 9221120237041090561 == some Ordering.eq) = false := by
    have h := Fq.feq false false 9221120237041090561 9221120237041090561 (by decide) (by decide)
    rw [decide_eq_false (by omega)] at h
    exact h
  obtain ⟨X, hX⟩ : ∃ X : Nat, X = 9221120237041090561 := ⟨_, rfl⟩
  rw [← hX] at hq ⊢
  clear hX
  go_enter Tryd.func7, Tryd.ntmps7
  go_wp2
  exact bodyPost_ret (v := .bool true) (by simp [results, Tryd.results7, go_sem] <;> simpa using hq) rfl ⟨rfl, rfl⟩
theorem is0_ (w : World) : Calls Tryd.prog 13 #[.float .f64 0, .int .u64 0] w fun e w' => e = .returned (.bool true) ∧ w' = w := is8_ false 0 (by decide) w
set_option maxRecDepth 20000 in
set_option maxHeartbeats 8000000 in
theorem mknown_ (w : World) (hT : Tab w) (hQ : Fq.Tab w) : Calls Tryd.prog 3 #[] w fun e w' => e = .returned (.bool true) ∧ Kp w w' := by
  have HT : ∀ W : World, Kp w W → Tab W ∧ Fq.Tab W := fun W y => ⟨Tab.grown hT y, Fq.Tab.grown hQ y⟩
  clear hT hQ
  have ni : ∀ w : World, (Op.unary .neg (.float .f64 9218868437227405312)).run Tryd.prog w = .ok (.float .f64 18442240474082181120) w := negW8 false 9218868437227405312 (by decide)
  have ng : ∀ w : World, (Op.unary .neg (.float .f64 9218868437227405311)).run Tryd.prog w = .ok (.float .f64 18442240474082181119) w := negW8 false 9218868437227405311 (by decide)
  have n1 : ∀ w : World, (Op.unary .neg (.float .f64 1)).run Tryd.prog w = .ok (.float .f64 9223372036854775809) w := negW8 false 1 (by decide)
  have m2 : ∀ (t : TypeId) (w : World), (binOp .mul t (.float .f64 4611686018427387904) (.float .f64 1)).run Tryd.prog w = .ok (.float .f64 2) w := fun t w => run_float_arith w .mul t .f64 _ _ _ (by decide +kernel)
  go_enter Tryd.func3, Tryd.ntmps3
  go_wp2_with (first | (go_at_call 4; refine (Fq.inf1_ _).mono ?_; rintro e w' ⟨rfl, hw'⟩; obtain rfl := hw'.symm; clear hw') | (go_at_call 7; refine (isNaN8_ _).mono ?_; rintro e w' ⟨rfl, hw'⟩; obtain rfl := hw'.symm; clear hw') | (go_at_call 13; refine (is0_ _).mono ?_; rintro e w' ⟨rfl, hw'⟩; obtain rfl := hw'.symm; clear hw') | (go_at_call_of 5 (Value.agg #[.float .f64 9218868437227405312, .float .f64 18442240474082181120]); refine (kE_Inf _).mono ?_; rintro e w1 ⟨rfl, g1⟩; have K1 : Kp w w1 := Kp.trans (((((Kp.refl w).alloc _).alloc _).alloc _).alloc _) g1; have s10 : Fq.H2 w1 (w.heap.size) (.float .f64 9218868437227405312) (.float .f64 18442240474082181120) := Fq.H2.keep (by unfold Fq.H2; simp [go_sem]) g1; obtain ⟨p10a, p10b, p10c, p10d⟩ := id s10; have s11 : Fq.H2 w1 (w.heap.size + 1) (.float .f64 18442240474082181120) (.float .f64 9218868437227405312) := Fq.H2.keep (by unfold Fq.H2; simp [go_sem]) g1; obtain ⟨p11a, p11b, p11c, p11d⟩ := id s11; have s12 : Fq.H2 w1 (w.heap.size + 1 + 1) (.float .f64 4607182418800017408) (.float .f64 9218868437227405312) := Fq.H2.keep (by unfold Fq.H2; simp [go_sem]) g1; obtain ⟨p12a, p12b, p12c, p12d⟩ := id s12; have s13 : Fq.H2 w1 (w.heap.size + 1 + 1 + 1) (.float .f64 18442240474082181120) (.float .f64 13830554455654793216) := Fq.H2.keep (by unfold Fq.H2; simp [go_sem]) g1; obtain ⟨p13a, p13b, p13c, p13d⟩ := id s13) | (go_at_call_of 6 (Value.agg #[.float .f64 9218868437227405312, .float .f64 18442240474082181120]); refine (kE_Sup _).mono ?_; rintro e w2 ⟨rfl, g2⟩; have K2 : Kp w w2 := Kp.trans (K1) g2; have s20 := Fq.H2.keep s10 g2; obtain ⟨p20a, p20b, p20c, p20d⟩ := id s20; have s21 := Fq.H2.keep s11 g2; obtain ⟨p21a, p21b, p21c, p21d⟩ := id s21; have s22 := Fq.H2.keep s12 g2; obtain ⟨p22a, p22b, p22c, p22d⟩ := id s22; have s23 := Fq.H2.keep s13 g2; obtain ⟨p23a, p23b, p23c, p23d⟩ := id s23; clear p10a p10b p10c p10d p11a p11b p11c p11d p12a p12b p12c p12d p13a p13b p13c p13d) | (go_at_call_of 8 (Value.agg #[.float .f64 9218868437227405312, .float .f64 18442240474082181120]); refine (kE_Mid _).mono ?_; rintro e w3 ⟨rfl, g3⟩; have K3 : Kp w w3 := Kp.trans (K2) g3; have s30 := Fq.H2.keep s20 g3; obtain ⟨p30a, p30b, p30c, p30d⟩ := id s30; have s31 := Fq.H2.keep s21 g3; obtain ⟨p31a, p31b, p31c, p31d⟩ := id s31; have s32 := Fq.H2.keep s22 g3; obtain ⟨p32a, p32b, p32c, p32d⟩ := id s32; have s33 := Fq.H2.keep s23 g3; obtain ⟨p33a, p33b, p33c, p33d⟩ := id s33; clear p20a p20b p20c p20d p21a p21b p21c p21d p22a p22b p22c p22d p23a p23b p23c p23d) | (go_at_call_of 9 (Value.agg #[.float .f64 9218868437227405312, .float .f64 18442240474082181120]); refine (kE_Rad _).mono ?_; rintro e w4 ⟨rfl, g4⟩; have K4 : Kp w w4 := Kp.trans (K3) g4; have s40 := Fq.H2.keep s30 g4; obtain ⟨p40a, p40b, p40c, p40d⟩ := id s40; have s41 := Fq.H2.keep s31 g4; obtain ⟨p41a, p41b, p41c, p41d⟩ := id s41; have s42 := Fq.H2.keep s32 g4; obtain ⟨p42a, p42b, p42c, p42d⟩ := id s42; have s43 := Fq.H2.keep s33 g4; obtain ⟨p43a, p43b, p43c, p43d⟩ := id s43; clear p30a p30b p30c p30d p31a p31b p31c p31d p32a p32b p32c p32d p33a p33b p33c p33d) | (go_at_call_of 10 (Value.agg #[.float .f64 9218868437227405312, .float .f64 18442240474082181120]); refine (kE_Wid _).mono ?_; rintro e w5 ⟨rfl, g5⟩; have K5 : Kp w w5 := Kp.trans (K4) g5; have s50 := Fq.H2.keep s40 g5; obtain ⟨p50a, p50b, p50c, p50d⟩ := id s50; have s51 := Fq.H2.keep s41 g5; obtain ⟨p51a, p51b, p51c, p51d⟩ := id s51; have s52 := Fq.H2.keep s42 g5; obtain ⟨p52a, p52b, p52c, p52d⟩ := id s52; have s53 := Fq.H2.keep s43 g5; obtain ⟨p53a, p53b, p53c, p53d⟩ := id s53; clear p40a p40b p40c p40d p41a p41b p41c p41d p42a p42b p42c p42d p43a p43b p43c p43d) | (go_at_call_of 11 (Value.agg #[.float .f64 9218868437227405312, .float .f64 18442240474082181120]); refine (kE_Mag _).mono ?_; rintro e w6 ⟨rfl, g6⟩; have K6 : Kp w w6 := Kp.trans (K5) g6; have s60 := Fq.H2.keep s50 g6; obtain ⟨p60a, p60b, p60c, p60d⟩ := id s60; have s61 := Fq.H2.keep s51 g6; obtain ⟨p61a, p61b, p61c, p61d⟩ := id s61; have s62 := Fq.H2.keep s52 g6; obtain ⟨p62a, p62b, p62c, p62d⟩ := id s62; have s63 := Fq.H2.keep s53 g6; obtain ⟨p63a, p63b, p63c, p63d⟩ := id s63; clear p50a p50b p50c p50d p51a p51b p51c p51d p52a p52b p52c p52d p53a p53b p53c p53d) | (go_at_call_of 12 (Value.agg #[.float .f64 9218868437227405312, .float .f64 18442240474082181120]); refine (kE_Mig _).mono ?_; rintro e w7 ⟨rfl, g7⟩; have K7 : Kp w w7 := Kp.trans (K6) g7; have s70 := Fq.H2.keep s60 g7; obtain ⟨p70a, p70b, p70c, p70d⟩ := id s70; have s71 := Fq.H2.keep s61 g7; obtain ⟨p71a, p71b, p71c, p71d⟩ := id s71; have s72 := Fq.H2.keep s62 g7; obtain ⟨p72a, p72b, p72c, p72d⟩ := id s72; have s73 := Fq.H2.keep s63 g7; obtain ⟨p73a, p73b, p73c, p73d⟩ := id s73; clear p60a p60b p60c p60d p61a p61b p61c p61d p62a p62b p62c p62d p63a p63b p63c p63d) | (go_at_call_of 8 (Value.agg #[.float .f64 18442240474082181120, .float .f64 9218868437227405312]); refine (kMid_all _).mono ?_; rintro e w8 ⟨rfl, g8⟩; have K8 : Kp w w8 := Kp.trans (K7) g8; have s80 := Fq.H2.keep s70 g8; obtain ⟨p80a, p80b, p80c, p80d⟩ := id s80; have s81 := Fq.H2.keep s71 g8; obtain ⟨p81a, p81b, p81c, p81d⟩ := id s81; have s82 := Fq.H2.keep s72 g8; obtain ⟨p82a, p82b, p82c, p82d⟩ := id s82; have s83 := Fq.H2.keep s73 g8; obtain ⟨p83a, p83b, p83c, p83d⟩ := id s83; clear p70a p70b p70c p70d p71a p71b p71c p71d p72a p72b p72c p72d p73a p73b p73c p73d) | (go_at_call_of 9 (Value.agg #[.float .f64 18442240474082181120, .float .f64 9218868437227405312]); refine (kRad_all _ (HT _ (K8)).1 (HT _ (K8)).2).mono ?_; rintro e w9 ⟨rfl, g9⟩; have K9 : Kp w w9 := Kp.trans (K8) g9; have s90 := Fq.H2.keep s80 g9; obtain ⟨p90a, p90b, p90c, p90d⟩ := id s90; have s91 := Fq.H2.keep s81 g9; obtain ⟨p91a, p91b, p91c, p91d⟩ := id s91; have s92 := Fq.H2.keep s82 g9; obtain ⟨p92a, p92b, p92c, p92d⟩ := id s92; have s93 := Fq.H2.keep s83 g9; obtain ⟨p93a, p93b, p93c, p93d⟩ := id s93; clear p80a p80b p80c p80d p81a p81b p81c p81d p82a p82b p82c p82d p83a p83b p83c p83d) | (go_at_call_of 10 (Value.agg #[.float .f64 18442240474082181120, .float .f64 9218868437227405312]); refine (kWid_all _ (HT _ (K9)).1 (HT _ (K9)).2).mono ?_; rintro e w10 ⟨rfl, g10⟩; have K10 : Kp w w10 := Kp.trans (K9) g10; have s100 := Fq.H2.keep s90 g10; obtain ⟨p100a, p100b, p100c, p100d⟩ := id s100; have s101 := Fq.H2.keep s91 g10; obtain ⟨p101a, p101b, p101c, p101d⟩ := id s101; have s102 := Fq.H2.keep s92 g10; obtain ⟨p102a, p102b, p102c, p102d⟩ := id s102; have s103 := Fq.H2.keep s93 g10; obtain ⟨p103a, p103b, p103c, p103d⟩ := id s103; clear p90a p90b p90c p90d p91a p91b p91c p91d p92a p92b p92c p92d p93a p93b p93c p93d) | (go_at_call_of 11 (Value.agg #[.float .f64 18442240474082181120, .float .f64 9218868437227405312]); refine (kMag_all _).mono ?_; rintro e w11 ⟨rfl, g11⟩; have K11 : Kp w w11 := Kp.trans (K10) g11; have s110 := Fq.H2.keep s100 g11; obtain ⟨p110a, p110b, p110c, p110d⟩ := id s110; have s111 := Fq.H2.keep s101 g11; obtain ⟨p111a, p111b, p111c, p111d⟩ := id s111; have s112 := Fq.H2.keep s102 g11; obtain ⟨p112a, p112b, p112c, p112d⟩ := id s112; have s113 := Fq.H2.keep s103 g11; obtain ⟨p113a, p113b, p113c, p113d⟩ := id s113; clear p100a p100b p100c p100d p101a p101b p101c p101d p102a p102b p102c p102d p103a p103b p103c p103d) | (go_at_call_of 12 (Value.agg #[.float .f64 18442240474082181120, .float .f64 9218868437227405312]); refine (kMig_all _).mono ?_; rintro e w12 ⟨rfl, g12⟩; have K12 : Kp w w12 := Kp.trans (K11) g12; have s120 := Fq.H2.keep s110 g12; obtain ⟨p120a, p120b, p120c, p120d⟩ := id s120; have s121 := Fq.H2.keep s111 g12; obtain ⟨p121a, p121b, p121c, p121d⟩ := id s121; have s122 := Fq.H2.keep s112 g12; obtain ⟨p122a, p122b, p122c, p122d⟩ := id s122; have s123 := Fq.H2.keep s113 g12; obtain ⟨p123a, p123b, p123c, p123d⟩ := id s123; clear p110a p110b p110c p110d p111a p111b p111c p111d p112a p112b p112c p112d p113a p113b p113c p113d) | (go_at_call_of 8 (Value.agg #[.float .f64 4607182418800017408, .float .f64 9218868437227405312]); refine (kMid_hal _).mono ?_; rintro e w13 ⟨rfl, g13⟩; have K13 : Kp w w13 := Kp.trans (K12) g13; have s130 := Fq.H2.keep s120 g13; obtain ⟨p130a, p130b, p130c, p130d⟩ := id s130; have s131 := Fq.H2.keep s121 g13; obtain ⟨p131a, p131b, p131c, p131d⟩ := id s131; have s132 := Fq.H2.keep s122 g13; obtain ⟨p132a, p132b, p132c, p132d⟩ := id s132; have s133 := Fq.H2.keep s123 g13; obtain ⟨p133a, p133b, p133c, p133d⟩ := id s133; clear p120a p120b p120c p120d p121a p121b p121c p121d p122a p122b p122c p122d p123a p123b p123c p123d) | (go_at_call_of 9 (Value.agg #[.float .f64 4607182418800017408, .float .f64 9218868437227405312]); refine (kRad_hal _ (HT _ (K13)).1 (HT _ (K13)).2).mono ?_; rintro e w14 ⟨rfl, g14⟩; have K14 : Kp w w14 := Kp.trans (K13) g14; have s140 := Fq.H2.keep s130 g14; obtain ⟨p140a, p140b, p140c, p140d⟩ := id s140; have s141 := Fq.H2.keep s131 g14; obtain ⟨p141a, p141b, p141c, p141d⟩ := id s141; have s142 := Fq.H2.keep s132 g14; obtain ⟨p142a, p142b, p142c, p142d⟩ := id s142; have s143 := Fq.H2.keep s133 g14; obtain ⟨p143a, p143b, p143c, p143d⟩ := id s143; clear p130a p130b p130c p130d p131a p131b p131c p131d p132a p132b p132c p132d p133a p133b p133c p133d) | (go_at_call_of 11 (Value.agg #[.float .f64 4607182418800017408, .float .f64 9218868437227405312]); refine (kMag_hal _).mono ?_; rintro e w15 ⟨rfl, g15⟩; have K15 : Kp w w15 := Kp.trans (K14) g15; have s150 := Fq.H2.keep s140 g15; obtain ⟨p150a, p150b, p150c, p150d⟩ := id s150; have s151 := Fq.H2.keep s141 g15; obtain ⟨p151a, p151b, p151c, p151d⟩ := id s151; have s152 := Fq.H2.keep s142 g15; obtain ⟨p152a, p152b, p152c, p152d⟩ := id s152; have s153 := Fq.H2.keep s143 g15; obtain ⟨p153a, p153b, p153c, p153d⟩ := id s153; clear p140a p140b p140c p140d p141a p141b p141c p141d p142a p142b p142c p142d p143a p143b p143c p143d) | (go_at_call_of 12 (Value.agg #[.float .f64 4607182418800017408, .float .f64 9218868437227405312]); refine (kMig_hal _).mono ?_; rintro e w16 ⟨rfl, g16⟩; have K16 : Kp w w16 := Kp.trans (K15) g16; have s160 := Fq.H2.keep s150 g16; obtain ⟨p160a, p160b, p160c, p160d⟩ := id s160; have s161 := Fq.H2.keep s151 g16; obtain ⟨p161a, p161b, p161c, p161d⟩ := id s161; have s162 := Fq.H2.keep s152 g16; obtain ⟨p162a, p162b, p162c, p162d⟩ := id s162; have s163 := Fq.H2.keep s153 g16; obtain ⟨p163a, p163b, p163c, p163d⟩ := id s163; clear p150a p150b p150c p150d p151a p151b p151c p151d p152a p152b p152c p152d p153a p153b p153c p153d) | (go_at_call_of 8 (Value.agg #[.float .f64 18442240474082181120, .float .f64 13830554455654793216]); refine (kMid_low _).mono ?_; rintro e w17 ⟨rfl, g17⟩; have K17 : Kp w w17 := Kp.trans (K16) g17; have s170 := Fq.H2.keep s160 g17; obtain ⟨p170a, p170b, p170c, p170d⟩ := id s170; have s171 := Fq.H2.keep s161 g17; obtain ⟨p171a, p171b, p171c, p171d⟩ := id s171; have s172 := Fq.H2.keep s162 g17; obtain ⟨p172a, p172b, p172c, p172d⟩ := id s172; have s173 := Fq.H2.keep s163 g17; obtain ⟨p173a, p173b, p173c, p173d⟩ := id s173; clear p160a p160b p160c p160d p161a p161b p161c p161d p162a p162b p162c p162d p163a p163b p163c p163d) | (go_at_call_of 12 (Value.agg #[.float .f64 18442240474082181120, .float .f64 13830554455654793216]); refine (kMig_low _).mono ?_; rintro e w18 ⟨rfl, g18⟩; have K18 : Kp w w18 := Kp.trans (K17) g18; have s180 := Fq.H2.keep s170 g18; obtain ⟨p180a, p180b, p180c, p180d⟩ := id s180; have s181 := Fq.H2.keep s171 g18; obtain ⟨p181a, p181b, p181c, p181d⟩ := id s181; have s182 := Fq.H2.keep s172 g18; obtain ⟨p182a, p182b, p182c, p182d⟩ := id s182; have s183 := Fq.H2.keep s173 g18; obtain ⟨p183a, p183b, p183c, p183d⟩ := id s183; clear p170a p170b p170c p170d p171a p171b p171c p171d p172a p172b p172c p172d p173a p173b p173c p173d) | (go_at_call_of 8 (Value.agg #[.float .f64 13830554455654793216, .float .f64 4613937818241073152]); refine (kMid_x1 _).mono ?_; rintro e w19 ⟨rfl, g19⟩; have K19 : Kp w w19 := Kp.trans ((K18).alloc _) g19; have s190 := Fq.H2.keep (Fq.H2.past s180 _ _) g19; obtain ⟨p190a, p190b, p190c, p190d⟩ := id s190; have s191 := Fq.H2.keep (Fq.H2.past s181 _ _) g19; obtain ⟨p191a, p191b, p191c, p191d⟩ := id s191; have s192 := Fq.H2.keep (Fq.H2.past s182 _ _) g19; obtain ⟨p192a, p192b, p192c, p192d⟩ := id s192; have s193 := Fq.H2.keep (Fq.H2.past s183 _ _) g19; obtain ⟨p193a, p193b, p193c, p193d⟩ := id s193; have HX : w.heap.size ≤ w18.heap.size := Below.size K18; have x19 := Fq.H2.keep (Fq.H2.new w18 (.float .f64 13830554455654793216) (.float .f64 4613937818241073152) 25) g19; obtain ⟨q19a, q19b, q19c, q19d⟩ := id x19; clear p180a p180b p180c p180d p181a p181b p181c p181d p182a p182b p182c p182d p183a p183b p183c p183d) | (go_at_call_of 9 (Value.agg #[.float .f64 13830554455654793216, .float .f64 4613937818241073152]); refine (kRad_x1 _ (HT _ (K19)).1 (HT _ (K19)).2).mono ?_; rintro e w20 ⟨rfl, g20⟩; have K20 : Kp w w20 := Kp.trans (K19) g20; have s200 := Fq.H2.keep s190 g20; obtain ⟨p200a, p200b, p200c, p200d⟩ := id s200; have s201 := Fq.H2.keep s191 g20; obtain ⟨p201a, p201b, p201c, p201d⟩ := id s201; have s202 := Fq.H2.keep s192 g20; obtain ⟨p202a, p202b, p202c, p202d⟩ := id s202; have s203 := Fq.H2.keep s193 g20; obtain ⟨p203a, p203b, p203c, p203d⟩ := id s203; have x20 := Fq.H2.keep x19 g20; obtain ⟨q20a, q20b, q20c, q20d⟩ := id x20; clear p190a p190b p190c p190d p191a p191b p191c p191d p192a p192b p192c p192d p193a p193b p193c p193d q19a q19b q19c q19d) | (go_at_call_of 10 (Value.agg #[.float .f64 13830554455654793216, .float .f64 4613937818241073152]); refine (kWid_x1 _ (HT _ (K20)).1 (HT _ (K20)).2).mono ?_; rintro e w21 ⟨rfl, g21⟩; have K21 : Kp w w21 := Kp.trans (K20) g21; have s210 := Fq.H2.keep s200 g21; obtain ⟨p210a, p210b, p210c, p210d⟩ := id s210; have s211 := Fq.H2.keep s201 g21; obtain ⟨p211a, p211b, p211c, p211d⟩ := id s211; have s212 := Fq.H2.keep s202 g21; obtain ⟨p212a, p212b, p212c, p212d⟩ := id s212; have s213 := Fq.H2.keep s203 g21; obtain ⟨p213a, p213b, p213c, p213d⟩ := id s213; have x21 := Fq.H2.keep x20 g21; obtain ⟨q21a, q21b, q21c, q21d⟩ := id x21; clear p200a p200b p200c p200d p201a p201b p201c p201d p202a p202b p202c p202d p203a p203b p203c p203d q20a q20b q20c q20d) | (go_at_call_of 11 (Value.agg #[.float .f64 13830554455654793216, .float .f64 4613937818241073152]); refine (kMag_x1 _).mono ?_; rintro e w22 ⟨rfl, g22⟩; have K22 : Kp w w22 := Kp.trans (K21) g22; have s220 := Fq.H2.keep s210 g22; obtain ⟨p220a, p220b, p220c, p220d⟩ := id s220; have s221 := Fq.H2.keep s211 g22; obtain ⟨p221a, p221b, p221c, p221d⟩ := id s221; have s222 := Fq.H2.keep s212 g22; obtain ⟨p222a, p222b, p222c, p222d⟩ := id s222; have s223 := Fq.H2.keep s213 g22; obtain ⟨p223a, p223b, p223c, p223d⟩ := id s223; have x22 := Fq.H2.keep x21 g22; obtain ⟨q22a, q22b, q22c, q22d⟩ := id x22; clear p210a p210b p210c p210d p211a p211b p211c p211d p212a p212b p212c p212d p213a p213b p213c p213d q21a q21b q21c q21d) | (go_at_call_of 12 (Value.agg #[.float .f64 13830554455654793216, .float .f64 4613937818241073152]); refine (kMig_x1 _).mono ?_; rintro e w23 ⟨rfl, g23⟩; have K23 : Kp w w23 := Kp.trans (K22) g23; have s230 := Fq.H2.keep s220 g23; obtain ⟨p230a, p230b, p230c, p230d⟩ := id s230; have s231 := Fq.H2.keep s221 g23; obtain ⟨p231a, p231b, p231c, p231d⟩ := id s231; have s232 := Fq.H2.keep s222 g23; obtain ⟨p232a, p232b, p232c, p232d⟩ := id s232; have s233 := Fq.H2.keep s223 g23; obtain ⟨p233a, p233b, p233c, p233d⟩ := id s233; have x23 := Fq.H2.keep x22 g23; obtain ⟨q23a, q23b, q23c, q23d⟩ := id x23; clear p220a p220b p220c p220d p221a p221b p221c p221d p222a p222b p222c p222d p223a p223b p223c p223d q22a q22b q22c q22d) | (go_at_call_of 8 (Value.agg #[.float .f64 18442240474082181119, .float .f64 9218868437227405311]); refine (kMid_gg _).mono ?_; rintro e w24 ⟨rfl, g24⟩; have K24 : Kp w w24 := Kp.trans (((K23).setCell HX _).setCell HX _) g24; have s240 := Fq.H2.keep (Fq.H2.far s230 (by have h1 := Fq.H2.lt s180; omega) _ _) g24; obtain ⟨p240a, p240b, p240c, p240d⟩ := id s240; have s241 := Fq.H2.keep (Fq.H2.far s231 (by have h1 := Fq.H2.lt s181; omega) _ _) g24; obtain ⟨p241a, p241b, p241c, p241d⟩ := id s241; have s242 := Fq.H2.keep (Fq.H2.far s232 (by have h1 := Fq.H2.lt s182; omega) _ _) g24; obtain ⟨p242a, p242b, p242c, p242d⟩ := id s242; have s243 := Fq.H2.keep (Fq.H2.far s233 (by have h1 := Fq.H2.lt s183; omega) _ _) g24; obtain ⟨p243a, p243b, p243c, p243d⟩ := id s243; have x24 := Fq.H2.keep (Fq.H2.put x23 (.float .f64 18442240474082181119) (.float .f64 9218868437227405311)) g24; obtain ⟨q24a, q24b, q24c, q24d⟩ := id x24; clear p230a p230b p230c p230d p231a p231b p231c p231d p232a p232b p232c p232d p233a p233b p233c p233d q23a q23b q23c q23d) | (go_at_call_of 9 (Value.agg #[.float .f64 18442240474082181119, .float .f64 9218868437227405311]); refine (kRad_gg _ (HT _ (K24)).1 (HT _ (K24)).2).mono ?_; rintro e w25 ⟨rfl, g25⟩; have K25 : Kp w w25 := Kp.trans (K24) g25; have s250 := Fq.H2.keep s240 g25; obtain ⟨p250a, p250b, p250c, p250d⟩ := id s250; have s251 := Fq.H2.keep s241 g25; obtain ⟨p251a, p251b, p251c, p251d⟩ := id s251; have s252 := Fq.H2.keep s242 g25; obtain ⟨p252a, p252b, p252c, p252d⟩ := id s252; have s253 := Fq.H2.keep s243 g25; obtain ⟨p253a, p253b, p253c, p253d⟩ := id s253; have x25 := Fq.H2.keep x24 g25; obtain ⟨q25a, q25b, q25c, q25d⟩ := id x25; clear p240a p240b p240c p240d p241a p241b p241c p241d p242a p242b p242c p242d p243a p243b p243c p243d q24a q24b q24c q24d) | (go_at_call_of 10 (Value.agg #[.float .f64 18442240474082181119, .float .f64 9218868437227405311]); refine (kWid_gg _ (HT _ (K25)).1 (HT _ (K25)).2).mono ?_; rintro e w26 ⟨rfl, g26⟩; have K26 : Kp w w26 := Kp.trans (K25) g26; have s260 := Fq.H2.keep s250 g26; obtain ⟨p260a, p260b, p260c, p260d⟩ := id s260; have s261 := Fq.H2.keep s251 g26; obtain ⟨p261a, p261b, p261c, p261d⟩ := id s261; have s262 := Fq.H2.keep s252 g26; obtain ⟨p262a, p262b, p262c, p262d⟩ := id s262; have s263 := Fq.H2.keep s253 g26; obtain ⟨p263a, p263b, p263c, p263d⟩ := id s263; have x26 := Fq.H2.keep x25 g26; obtain ⟨q26a, q26b, q26c, q26d⟩ := id x26; clear p250a p250b p250c p250d p251a p251b p251c p251d p252a p252b p252c p252d p253a p253b p253c p253d q25a q25b q25c q25d) | (go_at_call_of 8 (Value.agg #[.float .f64 0, .float .f64 1]); refine (kMid_ot _).mono ?_; rintro e w27 ⟨rfl, g27⟩; have K27 : Kp w w27 := Kp.trans (((K26).setCell HX _).setCell HX _) g27; have s270 := Fq.H2.keep (Fq.H2.far s260 (by have h1 := Fq.H2.lt s180; omega) _ _) g27; obtain ⟨p270a, p270b, p270c, p270d⟩ := id s270; have s271 := Fq.H2.keep (Fq.H2.far s261 (by have h1 := Fq.H2.lt s181; omega) _ _) g27; obtain ⟨p271a, p271b, p271c, p271d⟩ := id s271; have s272 := Fq.H2.keep (Fq.H2.far s262 (by have h1 := Fq.H2.lt s182; omega) _ _) g27; obtain ⟨p272a, p272b, p272c, p272d⟩ := id s272; have s273 := Fq.H2.keep (Fq.H2.far s263 (by have h1 := Fq.H2.lt s183; omega) _ _) g27; obtain ⟨p273a, p273b, p273c, p273d⟩ := id s273; have x27 := Fq.H2.keep (Fq.H2.put x26 (.float .f64 0) (.float .f64 1)) g27; obtain ⟨q27a, q27b, q27c, q27d⟩ := id x27; clear p260a p260b p260c p260d p261a p261b p261c p261d p262a p262b p262c p262d p263a p263b p263c p263d q26a q26b q26c q26d) | (go_at_call_of 9 (Value.agg #[.float .f64 0, .float .f64 1]); refine (kRad_ot _ (HT _ (K27)).1 (HT _ (K27)).2).mono ?_; rintro e w28 ⟨rfl, g28⟩; have K28 : Kp w w28 := Kp.trans (K27) g28; have s280 := Fq.H2.keep s270 g28; obtain ⟨p280a, p280b, p280c, p280d⟩ := id s280; have s281 := Fq.H2.keep s271 g28; obtain ⟨p281a, p281b, p281c, p281d⟩ := id s281; have s282 := Fq.H2.keep s272 g28; obtain ⟨p282a, p282b, p282c, p282d⟩ := id s282; have s283 := Fq.H2.keep s273 g28; obtain ⟨p283a, p283b, p283c, p283d⟩ := id s283; have x28 := Fq.H2.keep x27 g28; obtain ⟨q28a, q28b, q28c, q28d⟩ := id x28; clear p270a p270b p270c p270d p271a p271b p271c p271d p272a p272b p272c p272d p273a p273b p273c p273d q27a q27b q27c q27d) | (go_at_call_of 10 (Value.agg #[.float .f64 0, .float .f64 1]); refine (kWid_ot _ (HT _ (K28)).1 (HT _ (K28)).2).mono ?_; rintro e w29 ⟨rfl, g29⟩; have K29 : Kp w w29 := Kp.trans (K28) g29; have s290 := Fq.H2.keep s280 g29; obtain ⟨p290a, p290b, p290c, p290d⟩ := id s290; have s291 := Fq.H2.keep s281 g29; obtain ⟨p291a, p291b, p291c, p291d⟩ := id s291; have s292 := Fq.H2.keep s282 g29; obtain ⟨p292a, p292b, p292c, p292d⟩ := id s292; have s293 := Fq.H2.keep s283 g29; obtain ⟨p293a, p293b, p293c, p293d⟩ := id s293; have x29 := Fq.H2.keep x28 g29; obtain ⟨q29a, q29b, q29c, q29d⟩ := id x29; clear p280a p280b p280c p280d p281a p281b p281c p281d p282a p282b p282c p282d p283a p283b p283c p283d q28a q28b q28c q28d) | (go_at_call_of 8 (Value.agg #[.float .f64 1, .float .f64 2]); refine (kMid_tt _).mono ?_; rintro e w30 ⟨rfl, g30⟩; have K30 : Kp w w30 := Kp.trans (((K29).setCell HX _).setCell HX _) g30; have s300 := Fq.H2.keep (Fq.H2.far s290 (by have h1 := Fq.H2.lt s180; omega) _ _) g30; obtain ⟨p300a, p300b, p300c, p300d⟩ := id s300; have s301 := Fq.H2.keep (Fq.H2.far s291 (by have h1 := Fq.H2.lt s181; omega) _ _) g30; obtain ⟨p301a, p301b, p301c, p301d⟩ := id s301; have s302 := Fq.H2.keep (Fq.H2.far s292 (by have h1 := Fq.H2.lt s182; omega) _ _) g30; obtain ⟨p302a, p302b, p302c, p302d⟩ := id s302; have s303 := Fq.H2.keep (Fq.H2.far s293 (by have h1 := Fq.H2.lt s183; omega) _ _) g30; obtain ⟨p303a, p303b, p303c, p303d⟩ := id s303; have x30 := Fq.H2.keep (Fq.H2.put x29 (.float .f64 1) (.float .f64 2)) g30; obtain ⟨q30a, q30b, q30c, q30d⟩ := id x30; clear p290a p290b p290c p290d p291a p291b p291c p291d p292a p292b p292c p292d p293a p293b p293c p293d q29a q29b q29c q29d) | (go_at_call_of 9 (Value.agg #[.float .f64 1, .float .f64 2]); refine (kRad_tt _ (HT _ (K30)).1 (HT _ (K30)).2).mono ?_; rintro e w31 ⟨rfl, g31⟩; have K31 : Kp w w31 := Kp.trans (K30) g31; have s310 := Fq.H2.keep s300 g31; obtain ⟨p310a, p310b, p310c, p310d⟩ := id s310; have s311 := Fq.H2.keep s301 g31; obtain ⟨p311a, p311b, p311c, p311d⟩ := id s311; have s312 := Fq.H2.keep s302 g31; obtain ⟨p312a, p312b, p312c, p312d⟩ := id s312; have s313 := Fq.H2.keep s303 g31; obtain ⟨p313a, p313b, p313c, p313d⟩ := id s313; have x31 := Fq.H2.keep x30 g31; obtain ⟨q31a, q31b, q31c, q31d⟩ := id x31; clear p300a p300b p300c p300d p301a p301b p301c p301d p302a p302b p302c p302d p303a p303b p303c p303d q30a q30b q30c q30d) | (go_at_call_of 8 (Value.agg #[.float .f64 9223372036854775809, .float .f64 4607182418800017408]); refine (kMid_to _).mono ?_; rintro e w32 ⟨rfl, g32⟩; have K32 : Kp w w32 := Kp.trans (((K31).setCell HX _).setCell HX _) g32; have s320 := Fq.H2.keep (Fq.H2.far s310 (by have h1 := Fq.H2.lt s180; omega) _ _) g32; obtain ⟨p320a, p320b, p320c, p320d⟩ := id s320; have s321 := Fq.H2.keep (Fq.H2.far s311 (by have h1 := Fq.H2.lt s181; omega) _ _) g32; obtain ⟨p321a, p321b, p321c, p321d⟩ := id s321; have s322 := Fq.H2.keep (Fq.H2.far s312 (by have h1 := Fq.H2.lt s182; omega) _ _) g32; obtain ⟨p322a, p322b, p322c, p322d⟩ := id s322; have s323 := Fq.H2.keep (Fq.H2.far s313 (by have h1 := Fq.H2.lt s183; omega) _ _) g32; obtain ⟨p323a, p323b, p323c, p323d⟩ := id s323; have x32 := Fq.H2.keep (Fq.H2.put x31 (.float .f64 9223372036854775809) (.float .f64 4607182418800017408)) g32; obtain ⟨q32a, q32b, q32c, q32d⟩ := id x32; clear p310a p310b p310c p310d p311a p311b p311c p311d p312a p312b p312c p312d p313a p313b p313c p313d q31a q31b q31c q31d) | (go_at_call_of 9 (Value.agg #[.float .f64 9223372036854775809, .float .f64 4607182418800017408]); refine (kRad_to _ (HT _ (K32)).1 (HT _ (K32)).2).mono ?_; rintro e w33 ⟨rfl, g33⟩; have K33 : Kp w w33 := Kp.trans (K32) g33; have s330 := Fq.H2.keep s320 g33; obtain ⟨p330a, p330b, p330c, p330d⟩ := id s330; have s331 := Fq.H2.keep s321 g33; obtain ⟨p331a, p331b, p331c, p331d⟩ := id s331; have s332 := Fq.H2.keep s322 g33; obtain ⟨p332a, p332b, p332c, p332d⟩ := id s332; have s333 := Fq.H2.keep s323 g33; obtain ⟨p333a, p333b, p333c, p333d⟩ := id s333; have x33 := Fq.H2.keep x32 g33; obtain ⟨q33a, q33b, q33c, q33d⟩ := id x33; clear p320a p320b p320c p320d p321a p321b p321c p321d p322a p322b p322c p322d p323a p323b p323c p323d q32a q32b q32c q32d) | (go_at_call_of 10 (Value.agg #[.float .f64 9223372036854775809, .float .f64 4607182418800017408]); refine (kWid_to _ (HT _ (K33)).1 (HT _ (K33)).2).mono ?_; rintro e w34 ⟨rfl, g34⟩; have K34 : Kp w w34 := Kp.trans (K33) g34; have s340 := Fq.H2.keep s330 g34; obtain ⟨p340a, p340b, p340c, p340d⟩ := id s340; have s341 := Fq.H2.keep s331 g34; obtain ⟨p341a, p341b, p341c, p341d⟩ := id s341; have s342 := Fq.H2.keep s332 g34; obtain ⟨p342a, p342b, p342c, p342d⟩ := id s342; have s343 := Fq.H2.keep s333 g34; obtain ⟨p343a, p343b, p343c, p343d⟩ := id s343; have x34 := Fq.H2.keep x33 g34; obtain ⟨q34a, q34b, q34c, q34d⟩ := id x34; clear p330a p330b p330c p330d p331a p331b p331c p331d p332a p332b p332c p332d p333a p333b p333c p333d q33a q33b q33c q33d) | (go_at_call_of 14 (Value.agg #[.float .f64 4609434218613702656, .float .f64 4616189618054758400]); refine (kDist_a12_a154 _ (HT _ (K34)).1 (HT _ (K34)).2).mono ?_; rintro e w35 ⟨rfl, g35⟩; have K35 : Kp w w35 := Kp.trans (K34) g35; have s350 := Fq.H2.keep s340 g35; obtain ⟨p350a, p350b, p350c, p350d⟩ := id s350; have s351 := Fq.H2.keep s341 g35; obtain ⟨p351a, p351b, p351c, p351d⟩ := id s351; have s352 := Fq.H2.keep s342 g35; obtain ⟨p352a, p352b, p352c, p352d⟩ := id s352; have s353 := Fq.H2.keep s343 g35; obtain ⟨p353a, p353b, p353c, p353d⟩ := id s353; have x35 := Fq.H2.keep x34 g35; obtain ⟨q35a, q35b, q35c, q35d⟩ := id x35; clear p340a p340b p340c p340d p341a p341b p341c p341d p342a p342b p342c p342d p343a p343b p343c p343d q34a q34b q34c q34d) | (go_at_call_of 14 (Value.agg #[.float .f64 4613937818241073152, .float .f64 9218868437227405312]); refine (kDist_hal_a3i _ (HT _ (K35)).1 (HT _ (K35)).2).mono ?_; rintro e w36 ⟨rfl, g36⟩; have K36 : Kp w w36 := Kp.trans (K35) g36; have s360 := Fq.H2.keep s350 g36; obtain ⟨p360a, p360b, p360c, p360d⟩ := id s360; have s361 := Fq.H2.keep s351 g36; obtain ⟨p361a, p361b, p361c, p361d⟩ := id s361; have s362 := Fq.H2.keep s352 g36; obtain ⟨p362a, p362b, p362c, p362d⟩ := id s362; have s363 := Fq.H2.keep s353 g36; obtain ⟨p363a, p363b, p363c, p363d⟩ := id s363; have x36 := Fq.H2.keep x35 g36; obtain ⟨q36a, q36b, q36c, q36d⟩ := id x36; clear p350a p350b p350c p350d p351a p351b p351c p351d p352a p352b p352c p352d p353a p353b p353c p353d q35a q35b q35c q35d) | (go_at_call_of 14 (Value.agg #[.float .f64 4607182418800017408, .float .f64 9218868437227405312]); refine (kDist_a12_hal _ (HT _ (K36)).1 (HT _ (K36)).2).mono ?_; rintro e w37 ⟨rfl, g37⟩; have K37 : Kp w w37 := Kp.trans (K36) g37; have s370 := Fq.H2.keep s360 g37; obtain ⟨p370a, p370b, p370c, p370d⟩ := id s370; have s371 := Fq.H2.keep s361 g37; obtain ⟨p371a, p371b, p371c, p371d⟩ := id s371; have s372 := Fq.H2.keep s362 g37; obtain ⟨p372a, p372b, p372c, p372d⟩ := id s372; have s373 := Fq.H2.keep s363 g37; obtain ⟨p373a, p373b, p373c, p373d⟩ := id s373; have x37 := Fq.H2.keep x36 g37; obtain ⟨q37a, q37b, q37c, q37d⟩ := id x37; clear p360a p360b p360c p360d p361a p361b p361c p361d p362a p362b p362c p362d p363a p363b p363c p363d q36a q36b q36c q36d) | (go_at_call_of 14 (Value.agg #[.float .f64 18442240474082181120, .float .f64 9218868437227405312]); refine (kDist_all_all _ (HT _ (K37)).1 (HT _ (K37)).2).mono ?_; rintro e w38 ⟨rfl, g38⟩; have K38 : Kp w w38 := Kp.trans (K37) g38; have s380 := Fq.H2.keep s370 g38; obtain ⟨p380a, p380b, p380c, p380d⟩ := id s380; have s381 := Fq.H2.keep s371 g38; obtain ⟨p381a, p381b, p381c, p381d⟩ := id s381; have s382 := Fq.H2.keep s372 g38; obtain ⟨p382a, p382b, p382c, p382d⟩ := id s382; have s383 := Fq.H2.keep s373 g38; obtain ⟨p383a, p383b, p383c, p383d⟩ := id s383; have x38 := Fq.H2.keep x37 g38; obtain ⟨q38a, q38b, q38c, q38d⟩ := id x38; clear p370a p370b p370c p370d p371a p371b p371c p371d p372a p372b p372c p372d p373a p373b p373c p373d q37a q37b q37c q37d))
  exact bodyPost_ret (v := .bool true) (by simp [results, Tryd.results3, go_sem]) rfl ⟨rfl, K38⟩
end Go.Proofs.YthejhojlobhepaaDoor
