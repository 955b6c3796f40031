import Derived.Test.YtmcjjfkicpcfcaaGreatDoorProg
import Derived.Test.YtmcjjfkicpcfcaaGreatDoorKXA0
import Derived.Test.YtmcjjfkicpcfcaaGreatDoorKXM
import Derived.Test.YtmcjjfkicpcfcaaGreatDoorKXY
import Derived.Test.YtmcjjfkicpcfcaaGreatDoorKXQF
import Derived.Test.YtmcjjfkicpcfcaaGreatDoorKQA
import Derived.Test.YtmcjjfkicpcfcaaGreatDoorKQP
import Derived.Test.YtmcjjfkicpcfcaaGreatDoorKXQU
import Derived.Test.YtmcjjfkicpcfcaaGreatDoorKQB
import Derived.Test.YtmcjjfkicpcfcaaGreatDoorKQBT
import Derived.Test.YtmcjjfkicpcfcaaGreatDoorKQJd
import Derived.Test.YtmcjjfkicpcfcaaGreatDoorKXEA
import Derived.Test.YtmcjjfkicpcfcaaGreatDoorKXEE
import Derived.Test.YtmcjjfkicpcfcaaGreatDoorKMR7Q
import Derived.Test.YtmcjjfkicpcfcaaGreatDoorKXMR
import Derived.Test.YtmcjjfkicpcfcaaGreatDoorKXM3
import Derived.Test.YtmcjjfkicpcfcaaGreatDoorKXO
import Derived.Test.YtmcjjfkicpcfcaaGreatDoorKXO3
import Derived.Test.YtmcjjfkicpcfcaaGreatDoorKXH2Q
import Derived.Test.YtmcjjfkicpcfcaaGreatDoorKXT
import Derived.Test.YtmcjjfkicpcfcaaGreatDoorKHB
import Derived.Test.YtmcjjfkicpcfcaaGreatDoorKLX
import Derived.Test.YtmcjjfkicpcfcaaGreatDoorKRX
import Derived.Test.YtmcjjfkicpcfcaaGreatDoorKXRL
import Derived.Test.YtmcjjfkicpcfcaaGreatDoorKXCO
import Derived.Test.YtmcjjfkicpcfcaaGreatDoorKLN
import Derived.Test.YtmcjjfkicpcfcaaGreatDoorKXRN
import Derived.Test.YtmcjjfkicpcfcaaGreatDoorKW4
import Derived.Test.YtmcjjfkicpcfcaaGreatDoorKXBY
import Derived.Test.YtmcjjfkicpcfcaaGreatDoorKXTZ
import Derived.Test.YtmcjjfkicpcfcaaGreatDoorKXG1
import Derived.Test.YtmcjjfkicpcfcaaGreatDoorKNSm
import Derived.Test.YtmcjjfkicpcfcaaGreatDoorKXG4
import Derived.Test.YtmcjjfkicpcfcaaGreatDoorKXS1
import Derived.Test.YtmcjjfkicpcfcaaGreatDoorKXS6
import Derived.Test.YtmcjjfkicpcfcaaGreatDoorKXET
import Derived.Test.YtmcjjfkicpcfcaaGreatDoorKXEC
import Derived.Test.YtmcjjfkicpcfcaaGreatDoorKXS4
import Derived.Test.YtmcjjfkicpcfcaaGreatDoorKXS8
import Derived.Test.YtmcjjfkicpcfcaaGreatDoorKXMV
import Derived.Test.YtmcjjfkicpcfcaaGreatDoorKMR31
import Derived.WalkKit
import Derived.ProofKit
import Derived.RowKit3
import Derived.WalkSpells
import Derived.StillTactics
import Derived.Deep.QuietTactic
import Derived.BigQuiet
import Derived.Below
import Derived.Deep.OwnRows
import Derived.OwnWalk
import Derived.Laws.BitsAllLaws
import Derived.Laws.Slices
import Derived.Laws.Bits64b
import Derived.Laws.FloatArith
import Derived.Deep.RegionHeld3
namespace Go.Proofs.YtmcjjfkicpcfcaaGreatDoor
open Go.RowKit
set_option maxRecDepth 20000 in
set_option maxHeartbeats 1000000 in
theorem in8_ (a b : Nat) (w : World) : Calls Tryz.prog 7 #[.agg #[.int .u64 ((a : Nat) : Int), .int .u64 ((b : Nat) : Int)]] w fun e w' => e = .returned (.agg #[.float .f64 a, .float .f64 b]) ∧ Kp w w' := by
  have h1 := Fq.ff64 a
  have h2 := Fq.ff64 b
  generalize (a : Int) = X at h1 ⊢
  generalize (b : Int) = Y at h2 ⊢
  go_enter Tryz.func7, Tryz.ntmps7
  go_wp2
  go_region_held3 (fun w' => w'.cell? ⟨w.heap.size, 0, none⟩ = some (.int .u64 X) ∧ w'.cell? ⟨w.heap.size, 1, none⟩ = some (.int .u64 Y)) (simp [go_sem]) (fail)
  go_wp2
  exact bodyPost_ret (v := .agg #[.float .f64 a, .float .f64 b]) (by simp [results, Tryz.results7, go_sem]) rfl ⟨rfl, (by repeat (with_reducible (first | assumption | exact Kp.refl _ | apply Kp.drew | apply Kp.alloc | apply Kp.drewN | (refine Kp.setCell ?_ (by first | omega | (simp <;> omega)) _) | (refine Kp.trans ?_ (by assumption)))))⟩
set_option maxRecDepth 20000 in
set_option maxHeartbeats 1000000 in
theorem is8_ (n : Bool) (m : Nat) (hm : m ≤ 9218868437227405312) (w : World) : Calls Tryz.prog 8 #[.float .f64 (Fq.wD n m), .int .u64 ((Fq.wD n m : Nat) : Int)] w fun e w' => e = .returned (.bool true) ∧ w' = w := by
  have hn := Fq.isnan6_ n m (by omega)
  rw [decide_eq_false (by omega)] at hn
  have hf := Fq.fb64 (Fq.wD n m)
  generalize Fq.wD n m = X at hn hf ⊢
  clear hm
  go_enter Tryz.func8, Tryz.ntmps8
  go_wp2_with (first | (go_at_call 23; refine (hn _).mono ?_; rintro e w' ⟨rfl, rfl⟩))
  exact bodyPost_ret (v := .bool true) (by simp [results, Tryz.results8, go_sem]) rfl ⟨rfl, rfl⟩
set_option maxRecDepth 20000 in
set_option maxHeartbeats 1000000 in
theorem isN8_ (w : World) : Calls Tryz.prog 8 #[.float .f64 9221120237041090561, .int .u64 9221120237041090561] w fun e w' => e = .returned (.bool true) ∧ w' = w := by
  have hn : ∀ w : World, Calls Tryz.prog 23 #[.int .u64 9221120237041090561] w fun e w' => e = .returned (.bool true) ∧ w' = w := Fq.isnan6_ false 9221120237041090561 (by decide)
  have hq : (FloatKind.f64.format.order 9221120237041090561 9221120237041090561 == some Ordering.eq) = false := by
    have h := Fq.feq false false 9221120237041090561 9221120237041090561 (by decide) (by decide)
    rw [decide_eq_false (by omega)] at h
    exact h
  obtain ⟨X, hX⟩ : ∃ X : Nat, X = 9221120237041090561 := ⟨_, rfl⟩
  rw [← hX] at hq ⊢
  clear hX
  go_enter Tryz.func8, Tryz.ntmps8
  go_wp2_with (first | (go_at_call 23; refine (hn _).mono ?_; rintro e w' ⟨rfl, rfl⟩))
  exact bodyPost_ret (v := .bool true) (by simp [results, Tryz.results8, go_sem] <;> simpa using hq) rfl ⟨rfl, rfl⟩
theorem snd_read8 (a b : Nat) (ha : a < 18446744073709551616) (hb : b < 18446744073709551616) (s1 : Fq.snd a b = true) : Fq.snd (Fq.rlo a b) (Fq.rhi a b) = true := by
  obtain ⟨n, m, hm, rfl⟩ := Fq.exD a ha
  obtain ⟨g, r, hr, rfl⟩ := Fq.exD b hb
  have e1 : Fq.rlo (Fq.wD n m) (Fq.wD g r) = Fq.wD (if n = true ∧ m = 0 then false else n) m := by
    simp only [Fq.rlo, s1, if_true]
    unfold Fq.pla Fq.wD
    cases n <;> by_cases z : m = 0 <;> simp [z] <;> omega
  have e2 : Fq.rhi (Fq.wD n m) (Fq.wD g r) = Fq.wD (if g = true ∧ r = 0 then false else g) r := by
    simp only [Fq.rhi, s1, if_true]
    unfold Fq.pla Fq.wD
    cases g <;> by_cases z : r = 0 <;> simp [z] <;> omega
  rw [e1, e2, Fq.snd_w _ _ _ _ hm hr]
  rw [Fq.snd_w _ _ _ _ hm hr] at s1
  have h := of_decide_eq_true s1
  apply decide_eq_true
  have p1 : Fq.plz (if n = true ∧ m = 0 then false else n) m = Fq.plz n m := by
    unfold Fq.plz; cases n <;> by_cases z : m = 0 <;> simp [z]
  have p2 : Fq.plz (if g = true ∧ r = 0 then false else g) r = Fq.plz g r := by
    unfold Fq.plz; cases g <;> by_cases z : r = 0 <;> simp [z]
  rw [p1, p2]
  refine ⟨h.1, h.2.1, h.2.2.1, ?_, ?_⟩
  · rintro ⟨h1, h2⟩
    rw [if_neg (by omega)] at h1
    exact h.2.2.2.1 ⟨h1, h2⟩
  · rintro ⟨h1, h2⟩
    rw [if_neg (by omega)] at h1
    exact h.2.2.2.2 ⟨h1, h2⟩
theorem pla_pla8 (x : Nat) : Fq.pla (Fq.pla x) = Fq.pla x := by unfold Fq.pla; split <;> simp_all
theorem rlo_read8 (a b : Nat) (ha : a < 18446744073709551616) (hb : b < 18446744073709551616) (s1 : Fq.snd a b = true) : Fq.rlo (Fq.rlo a b) (Fq.rhi a b) = Fq.rlo a b := by
  have h := snd_read8 a b ha hb s1
  rw [Fq.rlo, if_pos h]
  simp only [Fq.rlo, s1, if_true, pla_pla8]
theorem rhi_read8 (a b : Nat) (ha : a < 18446744073709551616) (hb : b < 18446744073709551616) (s1 : Fq.snd a b = true) : Fq.rhi (Fq.rlo a b) (Fq.rhi a b) = Fq.rhi a b := by
  have h := snd_read8 a b ha hb s1
  rw [Fq.rhi, if_pos h]
  simp only [Fq.rhi, s1, if_true, pla_pla8]
theorem isZ8_ (Z : Nat) (h : Z ≤ 9218868437227405312 ∨ Z = 9221120237041090561) (w : World) : Calls Tryz.prog 8 #[.float .f64 Z, .int .u64 (Z : Int)] w fun e w' => e = .returned (.bool true) ∧ Kp w w' := by
  rcases h with h | h
  · exact (is8_ false Z h w).mono (fun e w' h => ⟨h.1, by rw [h.2]; exact Kp.refl _⟩)
  · subst h
    exact (isN8_ w).mono (fun e w' h => ⟨h.1, by rw [h.2]; exact Kp.refl _⟩)
namespace Fq
theorem eqInM (a c : Nat) (w : World) : (Op.equalIn 9999 25 (.float .f64 a) (.float .f64 c)).run Tryz.prog w = .ok (FloatKind.f64.format.order a c == some Ordering.eq) w := by kernel_rfl
set_option maxRecDepth 20000 in
set_option maxHeartbeats 1000000 in
theorem voidM_ (a b : Nat) (ha : a < 18446744073709551616) (hb : b < 18446744073709551616) (w : World) : Calls Tryz.prog 18 #[.agg #[.float .f64 a, .float .f64 b]] w fun e w' => e = .returned (.bool (decide (a = 9218868437227405312 ∧ b = 18442240474082181120))) ∧ Grown w w' := by
  have t2 := feqI a ha
  have t3 := feqM b hb
  have e1 : (decide (a = 9218868437227405312 ∧ b = 18442240474082181120)) = ((FloatKind.f64.format.order a 9218868437227405312 == some Ordering.eq) && (FloatKind.f64.format.order b 18442240474082181120 == some Ordering.eq)) := by
    rw [t2, t3]; by_cases c1 : a = 9218868437227405312 <;> by_cases c2 : b = 18442240474082181120 <;> simp [c1, c2]
  rw [e1]
  clear e1 t2 t3 ha hb
  have h0 := eqInM a 9218868437227405312
  have h1 := eqInM b 18442240474082181120
  generalize g1 : (FloatKind.f64.format.order a 9218868437227405312 == some Ordering.eq) = B1 at h0 ⊢
  generalize g2 : (FloatKind.f64.format.order b 18442240474082181120 == some Ordering.eq) = B2 at h1 ⊢
  cases B1 <;> cases B2
  · go_enter Tryz.func18, Tryz.ntmps18
    go_wp2
    go_region_held3 (fun w' => w'.cell? ⟨w.heap.size, 0, none⟩ = some (.float .f64 a) ∧ w'.cell? ⟨w.heap.size, 1, none⟩ = some (.float .f64 b)) (simp [go_sem, World.cell?_alloc_past]) (first | (go_at_call 39; refine (empty6_ _).mono ?_; rintro e w' ⟨rfl, rfl⟩))
    go_wp2
    exact bodyPost_ret (v := .bool false) (by simp [results, Tryz.results18, go_sem] <;> simp only [*]) rfl ⟨rfl, (by repeat (with_reducible (first | assumption | exact Grown.refl _ | apply Grown.drew | apply Grown.alloc | apply gdrewN | (refine Grown.setCell ?_ (by simp <;> omega) _) | (refine gtrans ?_ (by assumption)))))⟩
  · go_enter Tryz.func18, Tryz.ntmps18
    go_wp2
    go_region_held3 (fun w' => w'.cell? ⟨w.heap.size, 0, none⟩ = some (.float .f64 a) ∧ w'.cell? ⟨w.heap.size, 1, none⟩ = some (.float .f64 b)) (simp [go_sem, World.cell?_alloc_past]) (first | (go_at_call 39; refine (empty6_ _).mono ?_; rintro e w' ⟨rfl, rfl⟩))
    go_wp2
    exact bodyPost_ret (v := .bool false) (by simp [results, Tryz.results18, go_sem] <;> simp only [*]) rfl ⟨rfl, (by repeat (with_reducible (first | assumption | exact Grown.refl _ | apply Grown.drew | apply Grown.alloc | apply gdrewN | (refine Grown.setCell ?_ (by simp <;> omega) _) | (refine gtrans ?_ (by assumption)))))⟩
  · go_enter Tryz.func18, Tryz.ntmps18
    go_wp2
    go_region_held3 (fun w' => w'.cell? ⟨w.heap.size, 0, none⟩ = some (.float .f64 a) ∧ w'.cell? ⟨w.heap.size, 1, none⟩ = some (.float .f64 b)) (simp [go_sem, World.cell?_alloc_past]) (first | (go_at_call 39; refine (empty6_ _).mono ?_; rintro e w' ⟨rfl, rfl⟩))
    go_wp2
    exact bodyPost_ret (v := .bool false) (by simp [results, Tryz.results18, go_sem] <;> simp only [*]) rfl ⟨rfl, (by repeat (with_reducible (first | assumption | exact Grown.refl _ | apply Grown.drew | apply Grown.alloc | apply gdrewN | (refine Grown.setCell ?_ (by simp <;> omega) _) | (refine gtrans ?_ (by assumption)))))⟩
  · go_enter Tryz.func18, Tryz.ntmps18
    go_wp2
    go_region_held3 (fun w' => w'.cell? ⟨w.heap.size, 0, none⟩ = some (.float .f64 a) ∧ w'.cell? ⟨w.heap.size, 1, none⟩ = some (.float .f64 b)) (simp [go_sem, World.cell?_alloc_past]) (first | (go_at_call 39; refine (empty6_ _).mono ?_; rintro e w' ⟨rfl, rfl⟩))
    go_wp2
    exact bodyPost_ret (v := .bool true) (by simp [results, Tryz.results18, go_sem] <;> simp only [*]) rfl ⟨rfl, (by repeat (with_reducible (first | assumption | exact Grown.refl _ | apply Grown.drew | apply Grown.alloc | apply gdrewN | (refine Grown.setCell ?_ (by simp <;> omega) _) | (refine gtrans ?_ (by assumption)))))⟩
end Fq

open Ieee in
theorem fgt8 (n n' : Bool) (m m' : Nat) (h : m < 9223372036854775808) (h' : m' < 9223372036854775808) : (FloatKind.f64.format.order (Fq.wD n m) (Fq.wD n' m') == some Ordering.gt) = decide (m ≤ 9218868437227405312 ∧ m' ≤ 9218868437227405312 ∧ Fq.plz n' m' < Fq.plz n m) := by
  by_cases c : 9218868437227405312 < m
  · rw [Fq.ordD_nanl n m _ c h, decide_eq_false (by omega)]; rfl
  by_cases c' : 9218868437227405312 < m'
  · rw [Fq.ordD_nanr n' m' _ c' h', decide_eq_false (by omega)]; rfl
  rw [Fq.ordD n n' m m' (by omega) (by omega)]
  rcases Int.lt_trichotomy (Fq.plz n m) (Fq.plz n' m') with g | g | g
  · rw [Fq.cmp_lt g, decide_eq_false (by omega)]; rfl
  · rw [Fq.cmp_eq g, decide_eq_false (by omega)]; rfl
  · rw [Fq.cmp_gt g, decide_eq_true ⟨by omega, by omega, by omega⟩]; rfl
theorem flip8 (n : Bool) (m : Nat) (hm : m < 9223372036854775808) : Fq.wD n m ^^^ 9223372036854775808 = Fq.wD (!n) m := by
  obtain ⟨x, hx⟩ : ∃ x, x = Fq.wD n m := ⟨_, rfl⟩
  have h1 : (x ^^^ 9223372036854775808) % 2 ^ 63 = x % 2 ^ 63 := by
    rw [Nat.xor_mod_two_pow, show (9223372036854775808 : Nat) % 2 ^ 63 = 0 from by decide, Nat.xor_zero]
  have h2 : (x ^^^ 9223372036854775808) / 2 ^ 63 = x / 2 ^ 63 ^^^ 1 := by
    rw [← Nat.shiftRight_eq_div_pow, ← Nat.shiftRight_eq_div_pow, Nat.shiftRight_xor_distrib, show (9223372036854775808 : Nat) >>> 63 = 1 from by decide]
  rw [show (2 : Nat) ^ 63 = 9223372036854775808 from by decide] at h1 h2
  rw [← hx]
  generalize hz : x ^^^ 9223372036854775808 = z at h1 h2 ⊢
  clear hz
  cases n
  · have e : x = m := by rw [hx]; unfold Fq.wD; simp
    rw [e, Nat.div_eq_of_lt hm, show (0 : Nat) ^^^ 1 = 1 from by decide] at h2
    rw [e, Nat.mod_eq_of_lt hm] at h1
    unfold Fq.wD
    simp
    omega
  · have e : x = 9223372036854775808 + m := by rw [hx]; unfold Fq.wD; simp
    have e2 : x / 9223372036854775808 = 1 := by omega
    have e3 : x % 9223372036854775808 = m := by omega
    rw [e2, show (1 : Nat) ^^^ 1 = 0 from by decide] at h2
    rw [e3] at h1
    unfold Fq.wD
    simp
    omega
theorem negW8 (n : Bool) (m : Nat) (hm : m < 9223372036854775808) (w : World) : (Op.unary .neg (.float .f64 (Fq.wD n m))).run Tryz.prog w = .ok (.float .f64 (Fq.wD (!n) m)) w := by
  have h : Op.negFloat .f64 (Fq.wD n m) = Fq.wD (!n) m := by
    unfold Op.negFloat
    exact flip8 n m hm
  rw [← h]; rfl
set_option maxRecDepth 20000 in
set_option maxHeartbeats 400000 in
theorem nan8_ (w : World) : Calls Tryz.prog 19 #[] w fun e w' => e = .returned (.float .f64 9221120237041090561) ∧ Kp w w' := by
  have h1 : ∀ w : World, (callFunc 22 #[.int .u64 9221120237041090561]).run Tryz.prog w = .ok (.value (.float .f64 9221120237041090561)) w := Fq.ff64 9221120237041090561
  go_enter Tryz.func19, Tryz.ntmps19
  go_wp2
  exact bodyPost_ret (v := .float .f64 9221120237041090561) (by simp [results, Tryz.results19, go_sem]) rfl ⟨rfl, (by repeat (with_reducible (first | assumption | exact Kp.refl _ | apply Kp.drew | apply Kp.alloc | apply Kp.drewN | (refine Kp.setCell ?_ (by first | omega | (simp <;> omega)) _) | (refine Kp.trans ?_ (by assumption)))))⟩
set_option maxRecDepth 20000 in
set_option maxHeartbeats 400000 in
theorem greater8t_ (X Y : Nat) (t : (FloatKind.f64.format.order X Y == some Ordering.gt) = true) (w : World) : Calls Tryz.prog 20 #[.float .f64 X, .float .f64 Y] w fun e w' => e = .returned (.float .f64 X) ∧ w' = w := by
  go_enter Tryz.func20, Tryz.ntmps20
  go_wp2
  exact bodyPost_ret (v := .float .f64 X) (by simp [results, Tryz.results20, go_sem]) rfl ⟨rfl, rfl⟩
set_option maxRecDepth 20000 in
set_option maxHeartbeats 400000 in
theorem greater8f_ (X Y : Nat) (t : (FloatKind.f64.format.order X Y == some Ordering.gt) = false) (w : World) : Calls Tryz.prog 20 #[.float .f64 X, .float .f64 Y] w fun e w' => e = .returned (.float .f64 Y) ∧ w' = w := by
  go_enter Tryz.func20, Tryz.ntmps20
  go_wp2
  exact bodyPost_ret (v := .float .f64 Y) (by simp [results, Tryz.results20, go_sem]) rfl ⟨rfl, rfl⟩
theorem greater8_ (m m' : Nat) (h : m ≤ 9218868437227405312) (h' : m' ≤ 9218868437227405312) (w : World) : Calls Tryz.prog 20 #[.float .f64 m, .float .f64 m'] w fun e w' => e = .returned (.float .f64 (if m' < m then m else m')) ∧ w' = w := by
  have t := fgt8 false false m m' (by omega) (by omega)
  rw [show Fq.wD false m = m from rfl, show Fq.wD false m' = m' from rfl] at t
  by_cases c : m' < m
  · rw [if_pos c]
    exact greater8t_ m m' (by rw [t]; exact decide_eq_true ⟨h, h', by unfold Fq.plz; simp; omega⟩) w
  · rw [if_neg c]
    exact greater8f_ m m' (by rw [t]; exact decide_eq_false (fun x => c (by have := x.2.2; unfold Fq.plz at this; simp at this; omega))) w
theorem void8_ (a b : Nat) (ha : a < 18446744073709551616) (hb : b < 18446744073709551616) (V : Bool) (hs : Fq.snd a b = !V) (w : World) : Calls Tryz.prog 18 #[.agg #[.float .f64 (Fq.rlo a b), .float .f64 (Fq.rhi a b)]] w fun e w' => e = .returned (.bool V) ∧ Kp w w' := by
  have h := Fq.voidM_ (Fq.rlo a b) (Fq.rhi a b) (Fq.rlo_lt a b ha) (Fq.rhi_lt a b hb) w
  rw [Fq.void_read, hs, Bool.not_not] at h
  exact h
set_option maxRecDepth 20000 in
set_option maxHeartbeats 400000 in
theorem psubA_ (X Y V R : Nat) (d : Int) (h2 : ∀ w : World, (Op.unary .neg (.float .f64 Y)).run Tryz.prog w = .ok (.float .f64 V) w) (w : World) (h1 : Calls Tryz.prog 60 #[.int .i64 d, .float .f64 X, .float .f64 V] w fun e w' => e = .returned (.float .f64 R) ∧ Kp w w') : Calls Tryz.prog 43 #[.int .i64 d, .float .f64 X, .float .f64 Y] w fun e w' => e = .returned (.float .f64 R) ∧ Kp w w' := by
  go_enter Tryz.func43, Tryz.ntmps43
  go_wp2_with (first | (go_at_call 60; refine h1.mono ?_; rintro e w1 ⟨rfl, g1⟩))
  exact bodyPost_ret (v := .float .f64 R) (by simp [results, Tryz.results43, go_sem]) rfl ⟨rfl, g1⟩
set_option maxRecDepth 20000 in
set_option maxHeartbeats 400000 in
theorem apL_ (X Y R : Nat) (t1 : (FloatKind.f64.format.order X Y == some Ordering.lt) = true) (w : World) (h1 : Calls Tryz.prog 43 #[.int .i64 1, .float .f64 Y, .float .f64 X] w fun e w' => e = .returned (.float .f64 R) ∧ Kp w w') : Calls Tryz.prog 21 #[.float .f64 X, .float .f64 Y] w fun e w' => e = .returned (.float .f64 R) ∧ Kp w w' := by
  go_enter Tryz.func21, Tryz.ntmps21
  go_wp2_with (first | (go_at_call 43; refine h1.mono ?_; rintro e w1 ⟨rfl, g1⟩))
  exact bodyPost_ret (v := .float .f64 R) (by simp [results, Tryz.results21, go_sem]) rfl ⟨rfl, g1⟩
set_option maxRecDepth 20000 in
set_option maxHeartbeats 400000 in
theorem apG_ (X Y R : Nat) (t1 : (FloatKind.f64.format.order X Y == some Ordering.lt) = false) (t2 : (FloatKind.f64.format.order X Y == some Ordering.gt) = true) (w : World) (h1 : Calls Tryz.prog 43 #[.int .i64 1, .float .f64 X, .float .f64 Y] w fun e w' => e = .returned (.float .f64 R) ∧ Kp w w') : Calls Tryz.prog 21 #[.float .f64 X, .float .f64 Y] w fun e w' => e = .returned (.float .f64 R) ∧ Kp w w' := by
  go_enter Tryz.func21, Tryz.ntmps21
  go_wp2_with (first | (go_at_call 43; refine h1.mono ?_; rintro e w1 ⟨rfl, g1⟩))
  exact bodyPost_ret (v := .float .f64 R) (by simp [results, Tryz.results21, go_sem]) rfl ⟨rfl, g1⟩
set_option maxRecDepth 20000 in
set_option maxHeartbeats 400000 in
theorem apE_ (X Y : Nat) (t1 : (FloatKind.f64.format.order X Y == some Ordering.lt) = false) (t2 : (FloatKind.f64.format.order X Y == some Ordering.gt) = false) (w : World) : Calls Tryz.prog 21 #[.float .f64 X, .float .f64 Y] w fun e w' => e = .returned (.float .f64 0) ∧ Kp w w' := by
  go_enter Tryz.func21, Tryz.ntmps21
  go_wp2
  exact bodyPost_ret (v := .float .f64 0) (by simp [results, Tryz.results21, go_sem]) rfl ⟨rfl, (by repeat (with_reducible (first | assumption | exact Kp.refl _ | apply Kp.drew | apply Kp.alloc | apply Kp.drewN | (refine Kp.setCell ?_ (by first | omega | (simp <;> omega)) _) | (refine Kp.trans ?_ (by assumption)))))⟩
/-- how far two ends lie apart, rounded up -/
def apW (n : Bool) (m : Nat) (n' : Bool) (m' : Nat) : Nat := if Fq.plz n m = Fq.plz n' m' then 0 else if m = 9218868437227405312 ∨ m' = 9218868437227405312 then 9218868437227405312 else sumW 1 (if Fq.plz n m < Fq.plz n' m' then Iv n' m' - Iv n m else Iv n m - Iv n' m')
theorem fin_le8 (d : Int) (U : Nat) : finU 53 2098 9218868437227405311 9218868437227405312 d U ≤ 9218868437227405312 := by
  unfold finU
  split
  · next h =>
    unfold rgU
    by_cases c : U = 0
    · rw [c, blen_zero]; simp
    · obtain ⟨h1, h2, h3⟩ := blen_spec U c
      have h4 : U / 2 ^ (blen U - 53) < 9007199254740992 := by
        have := blen_shr U (blen U - 53)
        have h5 : blen (U / 2 ^ (blen U - 53)) ≤ 53 := by omega
        rw [blen_le_iff, show (2 : Nat) ^ 53 = 9007199254740992 from by decide] at h5
        exact h5
      rw [show (2 : Nat) ^ (53 - 1) = 4503599627370496 from by decide]
      omega
  · split <;> omega
theorem sumW_le8 (d V : Int) (h : 0 ≤ V) : sumW d V ≤ 9218868437227405312 := by
  unfold sumW
  by_cases c : V = 0
  · rw [if_pos c]; omega
  · rw [if_neg c, decide_eq_false (by omega)]
    unfold mdW
    split
    · omega
    · rw [if_neg (by decide)]
      exact fin_le8 _ _
theorem apW_le (n n' : Bool) (m m' : Nat) : apW n m n' m' ≤ 9218868437227405312 := by
  unfold apW
  by_cases c1 : Fq.plz n m = Fq.plz n' m'
  · rw [if_pos c1]; omega
  · rw [if_neg c1]
    by_cases c2 : m = 9218868437227405312 ∨ m' = 9218868437227405312
    · rw [if_pos c2]; omega
    · rw [if_neg c2]
      apply sumW_le8
      by_cases c3 : Fq.plz n m < Fq.plz n' m'
      · rw [if_pos c3]; have := (iv_lt8 n n' m m').2 c3; omega
      · rw [if_neg c3]; have := (iv_lt8 n' n m' m).2 (by omega); omega
theorem psub8_ (n n' : Bool) (m m' : Nat) (hm : m ≤ 9218868437227405312) (hm' : m' ≤ 9218868437227405312) (hlt : Fq.plz n' m' < Fq.plz n m) (w : World) (hT : Tab w) (hQ : Fq.Tab w) : Calls Tryz.prog 43 #[.int .i64 1, .float .f64 (Fq.wD n m), .float .f64 (Fq.wD n' m')] w fun e w' => e = .returned (.float .f64 (if m = 9218868437227405312 ∨ m' = 9218868437227405312 then 9218868437227405312 else sumW 1 (Iv n m - Iv n' m'))) ∧ Kp w w' := by
  have P1 : Fq.plz n m = if n then -(m : Int) else m := by unfold Fq.plz; cases n <;> rfl
  have P2 : Fq.plz n' m' = if n' then -(m' : Int) else m' := by unfold Fq.plz; cases n' <;> rfl
  by_cases c : m = 9218868437227405312 ∨ m' = 9218868437227405312
  · rw [if_pos c]
    have i1 : m = 9218868437227405312 → n = false := fun h => by
      cases n
      · rfl
      · rw [P1, P2, h] at hlt; cases n' <;> simp at hlt <;> omega
    have i2 : m' = 9218868437227405312 → n' = true := fun h => by
      cases n'
      · rw [P1, P2, h] at hlt; cases n <;> simp at hlt <;> omega
      · rfl
    have h := paddI_ 1 n (!n') m m' (by omega) (by omega) (by omega) (fun h => by
      rcases h with h | h | h
      · omega
      · omega
      · exact h.2.2 (by rw [i1 h.1, i2 h.2.1]; rfl)) w
    have e : Fq.wD (if m = 9218868437227405312 then n else !n') 9218868437227405312 = 9218868437227405312 := by
      by_cases c1 : m = 9218868437227405312
      · rw [if_pos c1, i1 c1]; rfl
      · rw [if_neg c1, i2 (by omega)]; rfl
    rw [e] at h
    exact psubA_ _ _ _ _ 1 (negW8 n' m' (by omega)) w h
  · rw [if_neg c, show Iv n m - Iv n' m' = Iv n m + Iv (!n') m' from by rw [iv_not]; omega]
    exact psubA_ _ _ _ _ 1 (negW8 n' m' (by omega)) w (paddF_ 1 n (!n') m m' (by omega) (by omega) w hT hQ (by decide) (by decide))
theorem apart8_ (n n' : Bool) (m m' : Nat) (hm : m ≤ 9218868437227405312) (hm' : m' ≤ 9218868437227405312) (w : World) (hT : Tab w) (hQ : Fq.Tab w) : Calls Tryz.prog 21 #[.float .f64 (Fq.wD n m), .float .f64 (Fq.wD n' m')] w fun e w' => e = .returned (.float .f64 (apW n m n' m')) ∧ Kp w w' := by
  have f1 := Fq.flt n n' m m' (by omega) (by omega)
  have f2 := fgt8 n n' m m' (by omega) (by omega)
  unfold apW
  rcases Int.lt_trichotomy (Fq.plz n m) (Fq.plz n' m') with g | g | g
  · rw [decide_eq_true ⟨hm, hm', g⟩] at f1
    rw [if_neg (by omega), if_pos g]
    have h := psub8_ n' n m' m hm' hm g w hT hQ
    have e9 : (if m' = 9218868437227405312 ∨ m = 9218868437227405312 then 9218868437227405312 else sumW 1 (Iv n' m' - Iv n m)) = (if m = 9218868437227405312 ∨ m' = 9218868437227405312 then 9218868437227405312 else sumW 1 (Iv n' m' - Iv n m)) := by
      by_cases c : m = 9218868437227405312 ∨ m' = 9218868437227405312
      · rw [if_pos c, if_pos c.symm]
      · rw [if_neg c, if_neg (fun h => c h.symm)]
    rw [e9] at h
    exact apL_ _ _ _ f1 w h
  · rw [decide_eq_false (by omega)] at f1 f2
    rw [if_pos g]
    exact apE_ _ _ f1 f2 w
  · rw [decide_eq_false (by omega)] at f1
    rw [decide_eq_true ⟨hm, hm', g⟩] at f2
    rw [if_neg (show ¬ Fq.plz n m = Fq.plz n' m' by omega), if_neg (show ¬ Fq.plz n m < Fq.plz n' m' by omega)]
    exact apG_ _ _ _ f1 f2 w (psub8_ n n' m m' hm hm' g w hT hQ)

/-- two blocks of two cells, one behind the other -/
def H48 (w : World) (B : Nat) (a b c d : Value) : Prop := Fq.H2 w B a b ∧ Fq.H2 w (B + 1) c d
theorem H48.keep {W w : World} {B : Nat} {a b c d : Value} (h : H48 W B a b c d) (g : Kp W w) : H48 w B a b c d := ⟨Fq.H2.keep h.1 g, Fq.H2.keep h.2 g⟩
theorem H48.new (w : World) (a b c d : Value) (s t : TypeId) : H48 ((w.alloc (.cells #[a, b] s)).alloc (.cells #[c, d] t)) w.heap.size a b c d := by
  refine ⟨?_, ?_⟩ <;> (unfold Fq.H2; simp [go_sem])
theorem H48.put {w : World} {B : Nat} {a b c d : Value} (h : H48 w B a b c d) (a' b' c' d' : Value) : H48 ((((w.setCell ⟨B, 0, none⟩ a').setCell ⟨B, 1, none⟩ b').setCell ⟨B + 1, 0, none⟩ c').setCell ⟨B + 1, 1, none⟩ d') B a' b' c' d' := by
  refine ⟨?_, ?_⟩
  · exact Fq.H2.far (Fq.H2.put h.1 a' b') (by omega) c' d'
  · exact Fq.H2.put (Fq.H2.far h.2 (by omega) a' b') c' d'
set_option maxRecDepth 20000 in
set_option maxHeartbeats 2000000 in
theorem dist1_ (a b c d L1 H1 L2 H2 : Nat) (hx : ∀ w : World, Calls Tryz.prog 16 #[.agg #[.float .f64 a, .float .f64 b]] w fun e w' => e = .returned (.agg #[.float .f64 L1, .float .f64 H1]) ∧ Kp w w') (hy : ∀ w : World, Calls Tryz.prog 16 #[.agg #[.float .f64 c, .float .f64 d]] w fun e w' => e = .returned (.agg #[.float .f64 L2, .float .f64 H2]) ∧ Kp w w') (hv1 : ∀ w : World, Calls Tryz.prog 18 #[.agg #[.float .f64 L1, .float .f64 H1]] w fun e w' => e = .returned (.bool true) ∧ Kp w w') (w : World) : Calls Tryz.prog 14 #[.agg #[.float .f64 a, .float .f64 b], .agg #[.float .f64 c, .float .f64 d]] w fun e w' => e = .returned (.float .f64 9221120237041090561) ∧ Kp w w' := by
    go_enter Tryz.func14, Tryz.ntmps14
    go_wp2
    go_region_with (first | (go_at_call_of 16 (Value.agg #[.float .f64 a, .float .f64 b]); refine (hx _).mono ?_; rintro e wx ⟨rfl, gx⟩; first | (have kx := Kp.trans ky gx; have sx := H48.keep sy gx; obtain ⟨⟨p0, p1, p2, p3⟩, ⟨p4, p5, p6, p7⟩⟩ := id sx) | (have kx : Kp w wx := Kp.trans (((Kp.refl w).alloc _).alloc _).drew gx; have sx := H48.keep (H48.new w (.float .f64 a) (.float .f64 b) (.float .f64 c) (.float .f64 d) 29 29) (Kp.trans (Kp.drew (Kp.refl _)) gx); obtain ⟨⟨p0, p1, p2, p3⟩, ⟨p4, p5, p6, p7⟩⟩ := id sx)) | (go_at_call_of 16 (Value.agg #[.float .f64 c, .float .f64 d]); refine (hy _).mono ?_; rintro e wy ⟨rfl, gy⟩; first | (have ky := Kp.trans kx gy; have sy := H48.keep sx gy; obtain ⟨⟨p0, p1, p2, p3⟩, ⟨p4, p5, p6, p7⟩⟩ := id sy) | (have ky : Kp w wy := Kp.trans (((Kp.refl w).alloc _).alloc _).drew gy; have sy := H48.keep (H48.new w (.float .f64 a) (.float .f64 b) (.float .f64 c) (.float .f64 d) 29 29) (Kp.trans (Kp.drew (Kp.refl _)) gy); obtain ⟨⟨p0, p1, p2, p3⟩, ⟨p4, p5, p6, p7⟩⟩ := id sy)))
    all_goals (first
      | skip
        have sw := H48.put (id sy : H48 wy w.heap.size (.float .f64 a) (.float .f64 b) (.float .f64 c) (.float .f64 d)) (.float .f64 L1) (.float .f64 H1) (.float .f64 L2) (.float .f64 H2)
        have kw : Kp w ((((wy.setCell ⟨w.heap.size, 0, none⟩ (.float .f64 L1)).setCell ⟨w.heap.size, 1, none⟩ (.float .f64 H1)).setCell ⟨w.heap.size + 1, 0, none⟩ (.float .f64 L2)).setCell ⟨w.heap.size + 1, 1, none⟩ (.float .f64 H2)) := (((ky.setCell (Nat.le_refl _) _).setCell (Nat.le_refl _) _).setCell (Nat.le_succ _) _).setCell (Nat.le_succ _) _
        generalize hW : ((((wy.setCell ⟨w.heap.size, 0, none⟩ (.float .f64 L1)).setCell ⟨w.heap.size, 1, none⟩ (.float .f64 H1)).setCell ⟨w.heap.size + 1, 0, none⟩ (.float .f64 L2)).setCell ⟨w.heap.size + 1, 1, none⟩ (.float .f64 H2)) = W at sw kw ⊢
        clear hW
      | skip
        have sw := H48.put (id sx : H48 wx w.heap.size (.float .f64 a) (.float .f64 b) (.float .f64 c) (.float .f64 d)) (.float .f64 L1) (.float .f64 H1) (.float .f64 L2) (.float .f64 H2)
        have kw : Kp w ((((wx.setCell ⟨w.heap.size, 0, none⟩ (.float .f64 L1)).setCell ⟨w.heap.size, 1, none⟩ (.float .f64 H1)).setCell ⟨w.heap.size + 1, 0, none⟩ (.float .f64 L2)).setCell ⟨w.heap.size + 1, 1, none⟩ (.float .f64 H2)) := (((kx.setCell (Nat.le_refl _) _).setCell (Nat.le_refl _) _).setCell (Nat.le_succ _) _).setCell (Nat.le_succ _) _
        generalize hW : ((((wx.setCell ⟨w.heap.size, 0, none⟩ (.float .f64 L1)).setCell ⟨w.heap.size, 1, none⟩ (.float .f64 H1)).setCell ⟨w.heap.size + 1, 0, none⟩ (.float .f64 L2)).setCell ⟨w.heap.size + 1, 1, none⟩ (.float .f64 H2)) = W at sw kw ⊢
        clear hW)
    all_goals (
      obtain ⟨⟨p0, p1, p2, p3⟩, ⟨p4, p5, p6, p7⟩⟩ := id sw
      go_wp2_with (first | (go_at_call_of 18 (Value.agg #[.float .f64 L1, .float .f64 H1]); refine (hv1 _).mono ?_; rintro e wv ⟨rfl, gv⟩; have kv := Kp.trans kw gv; have sv := H48.keep sw gv; obtain ⟨⟨u0, u1, u2, u3⟩, ⟨u4, u5, u6, u7⟩⟩ := id sv) | (go_at_call 19; refine (nan8_ _).mono ?_; rintro e w9 ⟨rfl, g9⟩; have k9 : Kp w w9 := Kp.trans kv g9))
      exact bodyPost_ret (v := .float .f64 9221120237041090561) (by simp [results, Tryz.results14, go_sem]) rfl ⟨rfl, k9⟩)
set_option maxRecDepth 20000 in
set_option maxHeartbeats 2000000 in
theorem dist2_ (a b c d L1 H1 L2 H2 : Nat) (hx : ∀ w : World, Calls Tryz.prog 16 #[.agg #[.float .f64 a, .float .f64 b]] w fun e w' => e = .returned (.agg #[.float .f64 L1, .float .f64 H1]) ∧ Kp w w') (hy : ∀ w : World, Calls Tryz.prog 16 #[.agg #[.float .f64 c, .float .f64 d]] w fun e w' => e = .returned (.agg #[.float .f64 L2, .float .f64 H2]) ∧ Kp w w') (hv1 : ∀ w : World, Calls Tryz.prog 18 #[.agg #[.float .f64 L1, .float .f64 H1]] w fun e w' => e = .returned (.bool false) ∧ Kp w w') (hv2 : ∀ w : World, Calls Tryz.prog 18 #[.agg #[.float .f64 L2, .float .f64 H2]] w fun e w' => e = .returned (.bool true) ∧ Kp w w') (w : World) : Calls Tryz.prog 14 #[.agg #[.float .f64 a, .float .f64 b], .agg #[.float .f64 c, .float .f64 d]] w fun e w' => e = .returned (.float .f64 9221120237041090561) ∧ Kp w w' := by
    go_enter Tryz.func14, Tryz.ntmps14
    go_wp2
    go_region_with (first | (go_at_call_of 16 (Value.agg #[.float .f64 a, .float .f64 b]); refine (hx _).mono ?_; rintro e wx ⟨rfl, gx⟩; first | (have kx := Kp.trans ky gx; have sx := H48.keep sy gx; obtain ⟨⟨p0, p1, p2, p3⟩, ⟨p4, p5, p6, p7⟩⟩ := id sx) | (have kx : Kp w wx := Kp.trans (((Kp.refl w).alloc _).alloc _).drew gx; have sx := H48.keep (H48.new w (.float .f64 a) (.float .f64 b) (.float .f64 c) (.float .f64 d) 29 29) (Kp.trans (Kp.drew (Kp.refl _)) gx); obtain ⟨⟨p0, p1, p2, p3⟩, ⟨p4, p5, p6, p7⟩⟩ := id sx)) | (go_at_call_of 16 (Value.agg #[.float .f64 c, .float .f64 d]); refine (hy _).mono ?_; rintro e wy ⟨rfl, gy⟩; first | (have ky := Kp.trans kx gy; have sy := H48.keep sx gy; obtain ⟨⟨p0, p1, p2, p3⟩, ⟨p4, p5, p6, p7⟩⟩ := id sy) | (have ky : Kp w wy := Kp.trans (((Kp.refl w).alloc _).alloc _).drew gy; have sy := H48.keep (H48.new w (.float .f64 a) (.float .f64 b) (.float .f64 c) (.float .f64 d) 29 29) (Kp.trans (Kp.drew (Kp.refl _)) gy); obtain ⟨⟨p0, p1, p2, p3⟩, ⟨p4, p5, p6, p7⟩⟩ := id sy)))
    all_goals (first
      | skip
        have sw := H48.put (id sy : H48 wy w.heap.size (.float .f64 a) (.float .f64 b) (.float .f64 c) (.float .f64 d)) (.float .f64 L1) (.float .f64 H1) (.float .f64 L2) (.float .f64 H2)
        have kw : Kp w ((((wy.setCell ⟨w.heap.size, 0, none⟩ (.float .f64 L1)).setCell ⟨w.heap.size, 1, none⟩ (.float .f64 H1)).setCell ⟨w.heap.size + 1, 0, none⟩ (.float .f64 L2)).setCell ⟨w.heap.size + 1, 1, none⟩ (.float .f64 H2)) := (((ky.setCell (Nat.le_refl _) _).setCell (Nat.le_refl _) _).setCell (Nat.le_succ _) _).setCell (Nat.le_succ _) _
        generalize hW : ((((wy.setCell ⟨w.heap.size, 0, none⟩ (.float .f64 L1)).setCell ⟨w.heap.size, 1, none⟩ (.float .f64 H1)).setCell ⟨w.heap.size + 1, 0, none⟩ (.float .f64 L2)).setCell ⟨w.heap.size + 1, 1, none⟩ (.float .f64 H2)) = W at sw kw ⊢
        clear hW
      | skip
        have sw := H48.put (id sx : H48 wx w.heap.size (.float .f64 a) (.float .f64 b) (.float .f64 c) (.float .f64 d)) (.float .f64 L1) (.float .f64 H1) (.float .f64 L2) (.float .f64 H2)
        have kw : Kp w ((((wx.setCell ⟨w.heap.size, 0, none⟩ (.float .f64 L1)).setCell ⟨w.heap.size, 1, none⟩ (.float .f64 H1)).setCell ⟨w.heap.size + 1, 0, none⟩ (.float .f64 L2)).setCell ⟨w.heap.size + 1, 1, none⟩ (.float .f64 H2)) := (((kx.setCell (Nat.le_refl _) _).setCell (Nat.le_refl _) _).setCell (Nat.le_succ _) _).setCell (Nat.le_succ _) _
        generalize hW : ((((wx.setCell ⟨w.heap.size, 0, none⟩ (.float .f64 L1)).setCell ⟨w.heap.size, 1, none⟩ (.float .f64 H1)).setCell ⟨w.heap.size + 1, 0, none⟩ (.float .f64 L2)).setCell ⟨w.heap.size + 1, 1, none⟩ (.float .f64 H2)) = W at sw kw ⊢
        clear hW)
    all_goals (
      obtain ⟨⟨p0, p1, p2, p3⟩, ⟨p4, p5, p6, p7⟩⟩ := id sw
      go_wp2_with (first | (go_at_call_of 18 (Value.agg #[.float .f64 L1, .float .f64 H1]); refine (hv1 _).mono ?_; rintro e wv ⟨rfl, gv⟩; have kv := Kp.trans kw gv; have sv := H48.keep sw gv; obtain ⟨⟨u0, u1, u2, u3⟩, ⟨u4, u5, u6, u7⟩⟩ := id sv) | (go_at_call_of 18 (Value.agg #[.float .f64 L2, .float .f64 H2]); refine (hv2 _).mono ?_; rintro e wz ⟨rfl, gz⟩; have kz := Kp.trans kv gz; have sz := H48.keep sv gz; obtain ⟨⟨t0, t1, t2, t3⟩, ⟨t4, t5, t6, t7⟩⟩ := id sz) | (go_at_call 19; refine (nan8_ _).mono ?_; rintro e w9 ⟨rfl, g9⟩; have k9 : Kp w w9 := Kp.trans kz g9))
      exact bodyPost_ret (v := .float .f64 9221120237041090561) (by simp [results, Tryz.results14, go_sem]) rfl ⟨rfl, k9⟩)
set_option maxRecDepth 20000 in
set_option maxHeartbeats 4000000 in
theorem dist3_ (a b c d L1 H1 L2 H2 : Nat) (hx : ∀ w : World, Calls Tryz.prog 16 #[.agg #[.float .f64 a, .float .f64 b]] w fun e w' => e = .returned (.agg #[.float .f64 L1, .float .f64 H1]) ∧ Kp w w') (hy : ∀ w : World, Calls Tryz.prog 16 #[.agg #[.float .f64 c, .float .f64 d]] w fun e w' => e = .returned (.agg #[.float .f64 L2, .float .f64 H2]) ∧ Kp w w') (hv1 : ∀ w : World, Calls Tryz.prog 18 #[.agg #[.float .f64 L1, .float .f64 H1]] w fun e w' => e = .returned (.bool false) ∧ Kp w w') (hv2 : ∀ w : World, Calls Tryz.prog 18 #[.agg #[.float .f64 L2, .float .f64 H2]] w fun e w' => e = .returned (.bool false) ∧ Kp w w') (PL PH G9 : Nat) (w : World) (hA1 : ∀ W : World, Kp w W → Calls Tryz.prog 21 #[.float .f64 L1, .float .f64 L2] W fun e w' => e = .returned (.float .f64 PL) ∧ Kp W w') (hA2 : ∀ W : World, Kp w W → Calls Tryz.prog 21 #[.float .f64 H1, .float .f64 H2] W fun e w' => e = .returned (.float .f64 PH) ∧ Kp W w') (hg : ∀ w : World, Calls Tryz.prog 20 #[.float .f64 PL, .float .f64 PH] w fun e w' => e = .returned (.float .f64 G9) ∧ w' = w) : Calls Tryz.prog 14 #[.agg #[.float .f64 a, .float .f64 b], .agg #[.float .f64 c, .float .f64 d]] w fun e w' => e = .returned (.float .f64 G9) ∧ Kp w w' := by
    go_enter Tryz.func14, Tryz.ntmps14
    go_wp2
    go_region_with (first | (go_at_call_of 16 (Value.agg #[.float .f64 a, .float .f64 b]); refine (hx _).mono ?_; rintro e wx ⟨rfl, gx⟩; first | (have kx := Kp.trans ky gx; have sx := H48.keep sy gx; obtain ⟨⟨p0, p1, p2, p3⟩, ⟨p4, p5, p6, p7⟩⟩ := id sx) | (have kx : Kp w wx := Kp.trans (((Kp.refl w).alloc _).alloc _).drew gx; have sx := H48.keep (H48.new w (.float .f64 a) (.float .f64 b) (.float .f64 c) (.float .f64 d) 29 29) (Kp.trans (Kp.drew (Kp.refl _)) gx); obtain ⟨⟨p0, p1, p2, p3⟩, ⟨p4, p5, p6, p7⟩⟩ := id sx)) | (go_at_call_of 16 (Value.agg #[.float .f64 c, .float .f64 d]); refine (hy _).mono ?_; rintro e wy ⟨rfl, gy⟩; first | (have ky := Kp.trans kx gy; have sy := H48.keep sx gy; obtain ⟨⟨p0, p1, p2, p3⟩, ⟨p4, p5, p6, p7⟩⟩ := id sy) | (have ky : Kp w wy := Kp.trans (((Kp.refl w).alloc _).alloc _).drew gy; have sy := H48.keep (H48.new w (.float .f64 a) (.float .f64 b) (.float .f64 c) (.float .f64 d) 29 29) (Kp.trans (Kp.drew (Kp.refl _)) gy); obtain ⟨⟨p0, p1, p2, p3⟩, ⟨p4, p5, p6, p7⟩⟩ := id sy)))
    all_goals (first
      | skip
        have sw := H48.put (id sy : H48 wy w.heap.size (.float .f64 a) (.float .f64 b) (.float .f64 c) (.float .f64 d)) (.float .f64 L1) (.float .f64 H1) (.float .f64 L2) (.float .f64 H2)
        have kw : Kp w ((((wy.setCell ⟨w.heap.size, 0, none⟩ (.float .f64 L1)).setCell ⟨w.heap.size, 1, none⟩ (.float .f64 H1)).setCell ⟨w.heap.size + 1, 0, none⟩ (.float .f64 L2)).setCell ⟨w.heap.size + 1, 1, none⟩ (.float .f64 H2)) := (((ky.setCell (Nat.le_refl _) _).setCell (Nat.le_refl _) _).setCell (Nat.le_succ _) _).setCell (Nat.le_succ _) _
        generalize hW : ((((wy.setCell ⟨w.heap.size, 0, none⟩ (.float .f64 L1)).setCell ⟨w.heap.size, 1, none⟩ (.float .f64 H1)).setCell ⟨w.heap.size + 1, 0, none⟩ (.float .f64 L2)).setCell ⟨w.heap.size + 1, 1, none⟩ (.float .f64 H2)) = W at sw kw ⊢
        clear hW
      | skip
        have sw := H48.put (id sx : H48 wx w.heap.size (.float .f64 a) (.float .f64 b) (.float .f64 c) (.float .f64 d)) (.float .f64 L1) (.float .f64 H1) (.float .f64 L2) (.float .f64 H2)
        have kw : Kp w ((((wx.setCell ⟨w.heap.size, 0, none⟩ (.float .f64 L1)).setCell ⟨w.heap.size, 1, none⟩ (.float .f64 H1)).setCell ⟨w.heap.size + 1, 0, none⟩ (.float .f64 L2)).setCell ⟨w.heap.size + 1, 1, none⟩ (.float .f64 H2)) := (((kx.setCell (Nat.le_refl _) _).setCell (Nat.le_refl _) _).setCell (Nat.le_succ _) _).setCell (Nat.le_succ _) _
        generalize hW : ((((wx.setCell ⟨w.heap.size, 0, none⟩ (.float .f64 L1)).setCell ⟨w.heap.size, 1, none⟩ (.float .f64 H1)).setCell ⟨w.heap.size + 1, 0, none⟩ (.float .f64 L2)).setCell ⟨w.heap.size + 1, 1, none⟩ (.float .f64 H2)) = W at sw kw ⊢
        clear hW)
    all_goals (
      obtain ⟨⟨p0, p1, p2, p3⟩, ⟨p4, p5, p6, p7⟩⟩ := id sw
      go_wp2_with (first | (go_at_call_of 18 (Value.agg #[.float .f64 L1, .float .f64 H1]); refine (hv1 _).mono ?_; rintro e wv ⟨rfl, gv⟩; have kv := Kp.trans kw gv; have sv := H48.keep sw gv; obtain ⟨⟨u0, u1, u2, u3⟩, ⟨u4, u5, u6, u7⟩⟩ := id sv) | (go_at_call_of 18 (Value.agg #[.float .f64 L2, .float .f64 H2]); refine (hv2 _).mono ?_; rintro e wz ⟨rfl, gz⟩; have kz := Kp.trans kv gz; have sz := H48.keep sv gz; obtain ⟨⟨t0, t1, t2, t3⟩, ⟨t4, t5, t6, t7⟩⟩ := id sz))
      refine Fq.wp_region_grow (by kernel_rfl) (by kernel_rfl) (fun ι _ G hG hall => ?_)
      have cc0 : ∀ n, (G n).cell? ⟨w.heap.size, 0, none⟩ = some (.float .f64 L1) := fun n => Fq.gkeep (hG n) t0
      have cc1 : ∀ n, (G n).cell? ⟨w.heap.size, 1, none⟩ = some (.float .f64 H1) := fun n => Fq.gkeep (hG n) t1
      have cc2 : ∀ n, (G n).cell? ⟨w.heap.size + 1, 0, none⟩ = some (.float .f64 L2) := fun n => Fq.gkeep (hG n) t4
      have cc3 : ∀ n, (G n).cell? ⟨w.heap.size + 1, 1, none⟩ = some (.float .f64 H2) := fun n => Fq.gkeep (hG n) t5
      have kG : ∀ n, Kp w (G n) := fun n => Kp.trans kz (hG n)
      repeat (go_big_quiet_step (first | (go_at_call_of 21 (Value.float .f64 L1); exact (hA1 _ (kG _)).mono (fun e w' h => ⟨h.1, hall _ (Fq.gtrans (hG _) h.2)⟩)) | (go_at_call_of 21 (Value.float .f64 H1); exact (hA2 _ (kG _)).mono (fun e w' h => ⟨h.1, hall _ (Fq.gtrans (hG _) h.2)⟩)) | (go_at_call 20; exact (hg _).mono (fun e w' h => ⟨h.1, hall _ (by rw [h.2]; exact hG _)⟩))))
      refine wpQuiet_nil ?_
      rintro _ ⟨nq, rfl⟩
      have gq := kG nq
      clear cc0 cc1 cc2 cc3 hall hG kG
      go_wp2
      exact bodyPost_ret (v := .float .f64 G9) (by simp [results, Tryz.results14, go_sem]) rfl ⟨rfl, gq⟩)
set_option maxRecDepth 20000 in
set_option maxHeartbeats 400000 in
theorem rapE_ (X Y : Int) (t : (X == Y) = true) (w : World) : Calls Tryz.prog 36 #[.int .u64 X, .int .u64 Y] w fun e w' => e = .returned (.int .u64 0) ∧ Kp w w' := by
  go_enter Tryz.func36, Tryz.ntmps36
  go_wp2
  exact bodyPost_ret (v := .int .u64 0) (by simp [results, Tryz.results36, go_sem]) rfl ⟨rfl, (by repeat (with_reducible (first | assumption | exact Kp.refl _ | apply Kp.drew | apply Kp.alloc | apply Kp.drewN | (refine Kp.setCell ?_ (by first | omega | (simp <;> omega)) _) | (refine Kp.trans ?_ (by assumption)))))⟩
set_option maxRecDepth 20000 in
set_option maxHeartbeats 400000 in
theorem rapI_ (X Y : Int) (t : (X == Y) = false) (h1 : ∀ w : World, Calls Tryz.prog 46 #[.int .u64 X] w fun e w' => e = .returned (.bool true) ∧ w' = w) (w : World) : Calls Tryz.prog 36 #[.int .u64 X, .int .u64 Y] w fun e w' => e = .returned (.int .u64 9218868437227405312) ∧ Kp w w' := by
  go_enter Tryz.func36, Tryz.ntmps36
  go_wp2_with (first | (go_at_call_of 46 (Value.int .u64 X); refine (h1 _).mono ?_; rintro e w' ⟨rfl, hw'⟩; obtain rfl := hw'.symm; clear hw'))
  exact bodyPost_ret (v := .int .u64 9218868437227405312) (by simp [results, Tryz.results36, go_sem]) rfl ⟨rfl, (by repeat (with_reducible (first | assumption | exact Kp.refl _ | apply Kp.drew | apply Kp.alloc | apply Kp.drewN | (refine Kp.setCell ?_ (by first | omega | (simp <;> omega)) _) | (refine Kp.trans ?_ (by assumption)))))⟩
set_option maxRecDepth 20000 in
set_option maxHeartbeats 400000 in
theorem rapJ_ (X Y : Int) (t : (X == Y) = false) (h1 : ∀ w : World, Calls Tryz.prog 46 #[.int .u64 X] w fun e w' => e = .returned (.bool false) ∧ w' = w) (h2 : ∀ w : World, Calls Tryz.prog 46 #[.int .u64 Y] w fun e w' => e = .returned (.bool true) ∧ w' = w) (w : World) : Calls Tryz.prog 36 #[.int .u64 X, .int .u64 Y] w fun e w' => e = .returned (.int .u64 9218868437227405312) ∧ Kp w w' := by
  go_enter Tryz.func36, Tryz.ntmps36
  go_wp2_with (first | (go_at_call_of 46 (Value.int .u64 X); refine (h1 _).mono ?_; rintro e w' ⟨rfl, hw'⟩; obtain rfl := hw'.symm; clear hw') | (go_at_call_of 46 (Value.int .u64 Y); refine (h2 _).mono ?_; rintro e w' ⟨rfl, hw'⟩; obtain rfl := hw'.symm; clear hw'))
  exact bodyPost_ret (v := .int .u64 9218868437227405312) (by simp [results, Tryz.results36, go_sem]) rfl ⟨rfl, (by repeat (with_reducible (first | assumption | exact Kp.refl _ | apply Kp.drew | apply Kp.alloc | apply Kp.drewN | (refine Kp.setCell ?_ (by first | omega | (simp <;> omega)) _) | (refine Kp.trans ?_ (by assumption)))))⟩
set_option maxRecDepth 20000 in
set_option maxHeartbeats 1000000 in
theorem rapP_ (X Y V : Int) (N1 N2 : Bool) (M1 M2 : Nat) (t : (X == Y) = false) (h1 : ∀ w : World, Calls Tryz.prog 46 #[.int .u64 X] w fun e w' => e = .returned (.bool false) ∧ w' = w) (h2 : ∀ w : World, Calls Tryz.prog 46 #[.int .u64 Y] w fun e w' => e = .returned (.bool false) ∧ w' = w) (hf1 : ∀ w : World, Calls Tryz.prog 28 #[.int .u64 X] w fun e w' => ∃ (s : Bool) (p : Option Addr) (l c : Nat) (q : Option Addr) (k d : Nat), e = .returned (.agg #[.bool s, .slice p l c, .slice q k d]) ∧ RP w.heap.size w' s p l c q k d N1 M1 ∧ Kp w w') (hf2 : ∀ w : World, Calls Tryz.prog 28 #[.int .u64 Y] w fun e w' => ∃ (s : Bool) (p : Option Addr) (l c : Nat) (q : Option Addr) (k d : Nat), e = .returned (.agg #[.bool s, .slice p l c, .slice q k d]) ∧ RP w.heap.size w' s p l c q k d N2 M2 ∧ Kp w w') (hS : ∀ (W : World) (s : Bool) (p : Option Addr) (l c : Nat) (q : Option Addr) (k d : Nat) (s2 : Bool) (p2 : Option Addr) (l2 c2 : Nat) (q2 : Option Addr) (k2 d2 : Nat) (B1 B2 : Nat), RP B1 W s p l c q k d N1 M1 → RP B2 W s2 p2 l2 c2 q2 k2 d2 N2 M2 → Calls Tryz.prog 29 #[.agg #[.bool s, .slice p l c, .slice q k d], .agg #[.bool s2, .slice p2 l2 c2, .slice q2 k2 d2]] W fun e w' => ∃ (s3 : Bool) (p3 : Option Addr) (l3 c3 : Nat) (q3 : Option Addr) (k3 d3 : Nat), e = .returned (.agg #[.bool s3, .slice p3 l3 c3, .slice q3 k3 d3]) ∧ VP W.heap.size w' s3 p3 l3 c3 q3 k3 d3 V ∧ Kp W w') (t2 : ¬ (cmI V 0 < 0)) (w : World) : Calls Tryz.prog 36 #[.int .u64 X, .int .u64 Y] w fun e w' => e = .returned (.int .u64 ((sumW 1 V : Nat) : Int)) ∧ Kp w w' := by
  go_enter Tryz.func36, Tryz.ntmps36
  go_wp2_with (first | (go_at_call_of 46 (Value.int .u64 X); refine (h1 _).mono ?_; rintro e w' ⟨rfl, hw'⟩; obtain rfl := hw'.symm; clear hw') | (go_at_call_of 46 (Value.int .u64 Y); refine (h2 _).mono ?_; rintro e w' ⟨rfl, hw'⟩; obtain rfl := hw'.symm; clear hw') | (go_at_call_of 28 (Value.int .u64 X); refine (hf1 _).mono ?_; rintro e w1 ⟨s, p, l, c, q, k, d, rfl, hp, g1⟩) | (go_at_call_of 28 (Value.int .u64 Y); refine (hf2 _).mono ?_; rintro e w2 ⟨s2, p2, l2, c2, q2, k2, d2, rfl, hp2, g2⟩; have kb : Kp w w2 := Kp.trans g1 g2) | (go_at_call 29; refine (hS _ s p l c q k d s2 p2 l2 c2 q2 k2 d2 _ _ (hp.kp g2) hp2).mono ?_; rintro e w3 ⟨s3, p3, l3, c3, q3, k3, d3, rfl, hq, g3⟩; have kc : Kp w w3 := Kp.trans kb g3) | (go_at_call 56; refine (vsign_ s3 p3 l3 c3 q3 k3 d3 V _ _ (hq.kp ((Kp.refl w3).alloc _))).mono ?_; rintro e w4 ⟨rfl, g4⟩; have kd : Kp w w4 := Kp.trans (Kp.trans kc ((Kp.refl w3).alloc _)) g4; have hq4 := (hq.kp ((Kp.refl w3).alloc _)).kp g4; have r0 := kkeep g4 (b := w3.heap.size) (o := 0) (v := .bool s3) (by simp [go_sem]); have rz0 : w4.frozen? ⟨w3.heap.size, 0, none⟩ = false := (kfro g4 (by simp <;> omega)).trans (by simp [go_sem]); have r1 := kkeep g4 (b := w3.heap.size) (o := 1) (v := .slice p3 l3 c3) (by simp [go_sem]); have rz1 : w4.frozen? ⟨w3.heap.size, 1, none⟩ = false := (kfro g4 (by simp <;> omega)).trans (by simp [go_sem]); have r2 := kkeep g4 (b := w3.heap.size) (o := 2) (v := .slice q3 k3 d3) (by simp [go_sem]); have rz2 : w4.frozen? ⟨w3.heap.size, 2, none⟩ = false := (kfro g4 (by simp <;> omega)).trans (by simp [go_sem])) | (go_at_call 30; refine (vbits_ s3 p3 l3 c3 q3 k3 d3 V 1 _ _ hq4).mono ?_; rintro e w6 ⟨rfl, g6⟩; have k6 : Kp w w6 := Kp.trans kd g6))
  exact bodyPost_ret (v := .int .u64 ((sumW 1 V : Nat) : Int)) (by simp [results, Tryz.results36, go_sem]) rfl ⟨rfl, k6⟩
set_option maxRecDepth 20000 in
set_option maxHeartbeats 1000000 in
theorem rapM_ (X Y V : Int) (N1 N2 : Bool) (M1 M2 : Nat) (t : (X == Y) = false) (h1 : ∀ w : World, Calls Tryz.prog 46 #[.int .u64 X] w fun e w' => e = .returned (.bool false) ∧ w' = w) (h2 : ∀ w : World, Calls Tryz.prog 46 #[.int .u64 Y] w fun e w' => e = .returned (.bool false) ∧ w' = w) (hf1 : ∀ w : World, Calls Tryz.prog 28 #[.int .u64 X] w fun e w' => ∃ (s : Bool) (p : Option Addr) (l c : Nat) (q : Option Addr) (k d : Nat), e = .returned (.agg #[.bool s, .slice p l c, .slice q k d]) ∧ RP w.heap.size w' s p l c q k d N1 M1 ∧ Kp w w') (hf2 : ∀ w : World, Calls Tryz.prog 28 #[.int .u64 Y] w fun e w' => ∃ (s : Bool) (p : Option Addr) (l c : Nat) (q : Option Addr) (k d : Nat), e = .returned (.agg #[.bool s, .slice p l c, .slice q k d]) ∧ RP w.heap.size w' s p l c q k d N2 M2 ∧ Kp w w') (hS : ∀ (W : World) (s : Bool) (p : Option Addr) (l c : Nat) (q : Option Addr) (k d : Nat) (s2 : Bool) (p2 : Option Addr) (l2 c2 : Nat) (q2 : Option Addr) (k2 d2 : Nat) (B1 B2 : Nat), RP B1 W s p l c q k d N1 M1 → RP B2 W s2 p2 l2 c2 q2 k2 d2 N2 M2 → Calls Tryz.prog 29 #[.agg #[.bool s, .slice p l c, .slice q k d], .agg #[.bool s2, .slice p2 l2 c2, .slice q2 k2 d2]] W fun e w' => ∃ (s3 : Bool) (p3 : Option Addr) (l3 c3 : Nat) (q3 : Option Addr) (k3 d3 : Nat), e = .returned (.agg #[.bool s3, .slice p3 l3 c3, .slice q3 k3 d3]) ∧ VP W.heap.size w' s3 p3 l3 c3 q3 k3 d3 V ∧ Kp W w') (t2 : cmI V 0 < 0) (w : World) : Calls Tryz.prog 36 #[.int .u64 X, .int .u64 Y] w fun e w' => e = .returned (.int .u64 ((sumW 1 (-V) : Nat) : Int)) ∧ Kp w w' := by
  go_enter Tryz.func36, Tryz.ntmps36
  go_wp2_with (first | (go_at_call_of 46 (Value.int .u64 X); refine (h1 _).mono ?_; rintro e w' ⟨rfl, hw'⟩; obtain rfl := hw'.symm; clear hw') | (go_at_call_of 46 (Value.int .u64 Y); refine (h2 _).mono ?_; rintro e w' ⟨rfl, hw'⟩; obtain rfl := hw'.symm; clear hw') | (go_at_call_of 28 (Value.int .u64 X); refine (hf1 _).mono ?_; rintro e w1 ⟨s, p, l, c, q, k, d, rfl, hp, g1⟩) | (go_at_call_of 28 (Value.int .u64 Y); refine (hf2 _).mono ?_; rintro e w2 ⟨s2, p2, l2, c2, q2, k2, d2, rfl, hp2, g2⟩; have kb : Kp w w2 := Kp.trans g1 g2) | (go_at_call 29; refine (hS _ s p l c q k d s2 p2 l2 c2 q2 k2 d2 _ _ (hp.kp g2) hp2).mono ?_; rintro e w3 ⟨s3, p3, l3, c3, q3, k3, d3, rfl, hq, g3⟩; have kc : Kp w w3 := Kp.trans kb g3) | (go_at_call 56; refine (vsign_ s3 p3 l3 c3 q3 k3 d3 V _ _ (hq.kp ((Kp.refl w3).alloc _))).mono ?_; rintro e w4 ⟨rfl, g4⟩; have kd : Kp w w4 := Kp.trans (Kp.trans kc ((Kp.refl w3).alloc _)) g4; have hq4 := (hq.kp ((Kp.refl w3).alloc _)).kp g4; have r0 := kkeep g4 (b := w3.heap.size) (o := 0) (v := .bool s3) (by simp [go_sem]); have rz0 : w4.frozen? ⟨w3.heap.size, 0, none⟩ = false := (kfro g4 (by simp <;> omega)).trans (by simp [go_sem]); have r1 := kkeep g4 (b := w3.heap.size) (o := 1) (v := .slice p3 l3 c3) (by simp [go_sem]); have rz1 : w4.frozen? ⟨w3.heap.size, 1, none⟩ = false := (kfro g4 (by simp <;> omega)).trans (by simp [go_sem]); have r2 := kkeep g4 (b := w3.heap.size) (o := 2) (v := .slice q3 k3 d3) (by simp [go_sem]); have rz2 : w4.frozen? ⟨w3.heap.size, 2, none⟩ = false := (kfro g4 (by simp <;> omega)).trans (by simp [go_sem])) | (go_at_call 49; refine (vneg_ V s3 p3 l3 c3 q3 k3 d3 _ _ hq4).mono ?_; rintro e w5 ⟨s5, p5, l5, c5, q5, k5, d5, rfl, hq5, g5⟩; have k5' : Kp w w5 := Kp.trans kd g5; have hlt : w3.heap.size < w4.heap.size := cell_lt r0; have R0 := kkeep g5 r0; have Rz0 : w5.frozen? ⟨w3.heap.size, 0, none⟩ = false := (kfro g5 (cell_lt r0)).trans rz0; have R1 := kkeep g5 r1; have Rz1 : w5.frozen? ⟨w3.heap.size, 1, none⟩ = false := (kfro g5 (cell_lt r1)).trans rz1; have R2 := kkeep g5 r2; have Rz2 : w5.frozen? ⟨w3.heap.size, 2, none⟩ = false := (kfro g5 (cell_lt r2)).trans rz2; have hle3 : w.heap.size ≤ w3.heap.size := Below.size kc) | (go_at_call 30; refine (vbits_ s5 p5 l5 c5 q5 k5 d5 (-V) 1 _ _ ((((hq5).set (x := ⟨w3.heap.size, 0, none⟩) hlt (.bool s5)).set (x := ⟨w3.heap.size, 1, none⟩) hlt (.slice p5 l5 c5)).set (x := ⟨w3.heap.size, 2, none⟩) hlt (.slice q5 k5 d5))).mono ?_; rintro e w6 ⟨rfl, g6⟩; have k6 : Kp w w6 := Kp.trans ((((k5').setCell hle3 _).setCell hle3 _).setCell hle3 _) g6))
  exact bodyPost_ret (v := .int .u64 ((sumW 1 (-V) : Nat) : Int)) (by simp [results, Tryz.results36, go_sem]) rfl ⟨rfl, k6⟩
theorem rapart8_ (n n' : Bool) (m m' : Nat) (hm : m ≤ 9218868437227405312) (hm' : m' ≤ 9218868437227405312) (n1 : Fq.wD n m ≠ 9223372036854775808) (n2 : Fq.wD n' m' ≠ 9223372036854775808) (w : World) : Calls Tryz.prog 36 #[.int .u64 ((Fq.wD n m : Nat) : Int), .int .u64 ((Fq.wD n' m' : Nat) : Int)] w fun e w' => e = .returned (.int .u64 ((apW n m n' m' : Nat) : Int)) ∧ Kp w w' := by
  have h1 := isinf_ n m (by omega)
  have h2 := isinf_ n' m' (by omega)
  have z1 : n = true → m ≠ 0 := fun h z => n1 (by rw [h, z]; rfl)
  have z2 : n' = true → m' ≠ 0 := fun h z => n2 (by rw [h, z]; rfl)
  have P1 : Fq.plz n m = if n then -(m : Int) else m := by unfold Fq.plz; cases n <;> rfl
  have P2 : Fq.plz n' m' = if n' then -(m' : Int) else m' := by unfold Fq.plz; cases n' <;> rfl
  have eq : Fq.wD n m = Fq.wD n' m' ↔ Fq.plz n m = Fq.plz n' m' := by
    rw [P1, P2]
    unfold Fq.wD
    cases n <;> cases n' <;> simp at z1 z2 ⊢ <;> omega
  by_cases c : Fq.plz n m = Fq.plz n' m'
  · rw [show apW n m n' m' = 0 from by unfold apW; rw [if_pos c]]
    exact rapE_ _ _ (by rw [eq.2 c]; simp) w
  · have t : (((((Fq.wD n m : Nat) : Int))) == (((Fq.wD n' m' : Nat) : Int))) = false := by
      have : Fq.wD n m ≠ Fq.wD n' m' := fun h => c (eq.1 h)
      simp; omega
    by_cases i1 : m = 9218868437227405312
    · rw [decide_eq_true i1] at h1
      rw [show apW n m n' m' = 9218868437227405312 from by unfold apW; rw [if_neg c, if_pos (Or.inl i1)]]
      exact rapI_ _ _ t h1 w
    · rw [decide_eq_false i1] at h1
      by_cases i2 : m' = 9218868437227405312
      · rw [decide_eq_true i2] at h2
        rw [show apW n m n' m' = 9218868437227405312 from by unfold apW; rw [if_neg c, if_pos (Or.inr i2)]]
        exact rapJ_ _ _ t h1 h2 w
      · rw [decide_eq_false i2] at h2
        have e9 : apW n m n' m' = sumW 1 (if Fq.plz n m < Fq.plz n' m' then Iv n' m' - Iv n m else Iv n m - Iv n' m') := by
          unfold apW; rw [if_neg c, if_neg (by omega)]
        rw [e9]
        have hS := fun (W : World) (s : Bool) (p : Option Addr) (l c : Nat) (q : Option Addr) (k d : Nat) (s2 : Bool) (p2 : Option Addr) (l2 c2 : Nat) (q2 : Option Addr) (k2 d2 : Nat) (B1 B2 : Nat) (g1 : RP B1 W s p l c q k d n m) (g2 : RP B2 W s2 p2 l2 c2 q2 k2 d2 n' m') => vsub_ n n' m m' s p l c q k d s2 p2 l2 c2 q2 k2 d2 B1 B2 W g1 g2
        by_cases c3 : Fq.plz n m < Fq.plz n' m'
        · rw [if_pos c3, show Iv n' m' - Iv n m = -(Iv n m - Iv n' m') from by omega]
          have := (iv_lt8 n n' m m').2 c3
          exact rapM_ _ _ _ n n' m m' t h1 h2 (fromR_ n m (by omega)) (fromR_ n' m' (by omega)) hS (by rw [cmI_lt _ _ (by omega)]; decide) w
        · rw [if_neg c3]
          have := (iv_lt8 n' n m' m).2 (by omega)
          exact rapP_ _ _ _ n n' m m' t h1 h2 (fromR_ n m (by omega)) (fromR_ n' m' (by omega)) hS (by rw [cmI_gt _ _ (by omega)]; decide) w
set_option maxRecDepth 20000 in
set_option maxHeartbeats 1000000 in
theorem rdist1_ (X Y Z U L1 H1 L2 H2 : Int) (hr1 : ∀ w : World, Calls Tryz.prog 25 #[.agg #[.int .u64 X, .int .u64 Y]] w fun e w' => e = .returned (.agg #[.int .u64 L1, .int .u64 H1]) ∧ Kp w w') (hr2 : ∀ w : World, Calls Tryz.prog 25 #[.agg #[.int .u64 Z, .int .u64 U]] w fun e w' => e = .returned (.agg #[.int .u64 L2, .int .u64 H2]) ∧ Kp w w') (t1 : (L1 == 9218868437227405312) = true) (t2 : (H1 == 18442240474082181120) = true) (w : World) : Calls Tryz.prog 15 #[.agg #[.int .u64 X, .int .u64 Y], .agg #[.int .u64 Z, .int .u64 U]] w fun e w' => e = .returned (.int .u64 9221120237041090561) ∧ Kp w w' := by
  go_enter Tryz.func15, Tryz.ntmps15
  go_wp2_with (first | (go_at_call_of 25 (Value.agg #[.int .u64 X, .int .u64 Y]); refine (hr1 _).mono ?_; rintro e w1 ⟨rfl, g1⟩; have k1 : Kp w w1 := Kp.trans (((Kp.refl w).alloc _).alloc _) g1; have x0 := kkeep g1 (b := w.heap.size + 1) (o := 0) (v := .int .u64 Z) (by simp [go_sem]); have x1 := kkeep g1 (b := w.heap.size + 1) (o := 1) (v := .int .u64 U) (by simp [go_sem]); have xa0 := fun o => kkeep ((Kp.refl w1).alloc o) x0; have xa1 := fun o => kkeep ((Kp.refl w1).alloc o) x1) | (go_at_call_of 25 (Value.agg #[.int .u64 Z, .int .u64 U]); refine (hr2 _).mono ?_; rintro e w2 ⟨rfl, g2⟩; have k2 : Kp w w2 := Kp.trans (Kp.trans k1 ((Kp.refl w1).alloc _)) g2; have a0 := kkeep g2 (b := w1.heap.size) (o := 0) (v := .int .u64 L1) (by simp [go_sem]); have a1 := kkeep g2 (b := w1.heap.size) (o := 1) (v := .int .u64 H1) (by simp [go_sem])))
  have b0 := kkeep ((Kp.refl w2).alloc (.cells #[.int .u64 L2, .int .u64 H2] 24)) a0
  have b1 := kkeep ((Kp.refl w2).alloc (.cells #[.int .u64 L2, .int .u64 H2] 24)) a1
  refine Fq.wp_region_grow (by kernel_rfl) (by kernel_rfl) (fun ι _ G hG hall => ?_)
  have c0 : ∀ n, (G n).cell? ⟨w1.heap.size, 0, none⟩ = some (.int .u64 L1) := fun n => Fq.gkeep (hG n) b0
  have c1 : ∀ n, (G n).cell? ⟨w1.heap.size, 1, none⟩ = some (.int .u64 H1) := fun n => Fq.gkeep (hG n) b1
  have c2 : ∀ n, (G n).cell? ⟨w2.heap.size, 0, none⟩ = some (.int .u64 L2) := fun n => Fq.gkeep (hG n) (by simp [go_sem])
  have c3 : ∀ n, (G n).cell? ⟨w2.heap.size, 1, none⟩ = some (.int .u64 H2) := fun n => Fq.gkeep (hG n) (by simp [go_sem])
  have kG : ∀ n, Kp w (G n) := fun n => Kp.trans (Kp.trans k2 ((Kp.refl w2).alloc _)) (hG n)
  repeat (go_big_quiet_step (first | (go_at_call 26; exact (Fq.rempty_ _).mono (fun e w' h => ⟨h.1, hall _ (by rw [h.2]; exact (hG _).alloc _ _)⟩))))
  refine wpQuiet_nil ?_
  rintro _ ⟨nq, rfl⟩
  have y0 := c0 nq
  have y1 := c1 nq
  have y2 := c2 nq
  have y3 := c3 nq
  have kW := kG nq
  clear c0 c1 c2 c3 kG hall b0 b1
  generalize G nq = W at y0 y1 y2 y3 kW ⊢
  clear hG
  go_wp2
  exact bodyPost_ret (v := .int .u64 9221120237041090561) (by simp [results, Tryz.results15, go_sem]) rfl ⟨rfl, kW⟩
set_option maxRecDepth 20000 in
set_option maxHeartbeats 1000000 in
theorem rdist2_ (X Y Z U L1 H1 L2 H2 : Int) (hr1 : ∀ w : World, Calls Tryz.prog 25 #[.agg #[.int .u64 X, .int .u64 Y]] w fun e w' => e = .returned (.agg #[.int .u64 L1, .int .u64 H1]) ∧ Kp w w') (hr2 : ∀ w : World, Calls Tryz.prog 25 #[.agg #[.int .u64 Z, .int .u64 U]] w fun e w' => e = .returned (.agg #[.int .u64 L2, .int .u64 H2]) ∧ Kp w w') (t1 : (L1 == 9218868437227405312) = false) (t3 : (L2 == 9218868437227405312) = true) (t4 : (H2 == 18442240474082181120) = true) (w : World) : Calls Tryz.prog 15 #[.agg #[.int .u64 X, .int .u64 Y], .agg #[.int .u64 Z, .int .u64 U]] w fun e w' => e = .returned (.int .u64 9221120237041090561) ∧ Kp w w' := by
  go_enter Tryz.func15, Tryz.ntmps15
  go_wp2_with (first | (go_at_call_of 25 (Value.agg #[.int .u64 X, .int .u64 Y]); refine (hr1 _).mono ?_; rintro e w1 ⟨rfl, g1⟩; have k1 : Kp w w1 := Kp.trans (((Kp.refl w).alloc _).alloc _) g1; have x0 := kkeep g1 (b := w.heap.size + 1) (o := 0) (v := .int .u64 Z) (by simp [go_sem]); have x1 := kkeep g1 (b := w.heap.size + 1) (o := 1) (v := .int .u64 U) (by simp [go_sem]); have xa0 := fun o => kkeep ((Kp.refl w1).alloc o) x0; have xa1 := fun o => kkeep ((Kp.refl w1).alloc o) x1) | (go_at_call_of 25 (Value.agg #[.int .u64 Z, .int .u64 U]); refine (hr2 _).mono ?_; rintro e w2 ⟨rfl, g2⟩; have k2 : Kp w w2 := Kp.trans (Kp.trans k1 ((Kp.refl w1).alloc _)) g2; have a0 := kkeep g2 (b := w1.heap.size) (o := 0) (v := .int .u64 L1) (by simp [go_sem]); have a1 := kkeep g2 (b := w1.heap.size) (o := 1) (v := .int .u64 H1) (by simp [go_sem])))
  have b0 := kkeep ((Kp.refl w2).alloc (.cells #[.int .u64 L2, .int .u64 H2] 24)) a0
  have b1 := kkeep ((Kp.refl w2).alloc (.cells #[.int .u64 L2, .int .u64 H2] 24)) a1
  refine Fq.wp_region_grow (by kernel_rfl) (by kernel_rfl) (fun ι _ G hG hall => ?_)
  have c0 : ∀ n, (G n).cell? ⟨w1.heap.size, 0, none⟩ = some (.int .u64 L1) := fun n => Fq.gkeep (hG n) b0
  have c1 : ∀ n, (G n).cell? ⟨w1.heap.size, 1, none⟩ = some (.int .u64 H1) := fun n => Fq.gkeep (hG n) b1
  have c2 : ∀ n, (G n).cell? ⟨w2.heap.size, 0, none⟩ = some (.int .u64 L2) := fun n => Fq.gkeep (hG n) (by simp [go_sem])
  have c3 : ∀ n, (G n).cell? ⟨w2.heap.size, 1, none⟩ = some (.int .u64 H2) := fun n => Fq.gkeep (hG n) (by simp [go_sem])
  have kG : ∀ n, Kp w (G n) := fun n => Kp.trans (Kp.trans k2 ((Kp.refl w2).alloc _)) (hG n)
  repeat (go_big_quiet_step (first | (go_at_call 26; exact (Fq.rempty_ _).mono (fun e w' h => ⟨h.1, hall _ (by rw [h.2]; exact (hG _).alloc _ _)⟩))))
  refine wpQuiet_nil ?_
  rintro _ ⟨nq, rfl⟩
  have y0 := c0 nq
  have y1 := c1 nq
  have y2 := c2 nq
  have y3 := c3 nq
  have kW := kG nq
  clear c0 c1 c2 c3 kG hall b0 b1
  generalize G nq = W at y0 y1 y2 y3 kW ⊢
  clear hG
  go_wp2
  exact bodyPost_ret (v := .int .u64 9221120237041090561) (by simp [results, Tryz.results15, go_sem]) rfl ⟨rfl, kW⟩
set_option maxRecDepth 20000 in
set_option maxHeartbeats 1000000 in
theorem rdist3t_ (X Y Z U L1 H1 L2 H2 : Int) (hr1 : ∀ w : World, Calls Tryz.prog 25 #[.agg #[.int .u64 X, .int .u64 Y]] w fun e w' => e = .returned (.agg #[.int .u64 L1, .int .u64 H1]) ∧ Kp w w') (hr2 : ∀ w : World, Calls Tryz.prog 25 #[.agg #[.int .u64 Z, .int .u64 U]] w fun e w' => e = .returned (.agg #[.int .u64 L2, .int .u64 H2]) ∧ Kp w w') (t1 : (L1 == 9218868437227405312) = false) (t3 : (L2 == 9218868437227405312) = false) (PL PH : Int) (hA1 : ∀ w : World, Calls Tryz.prog 36 #[.int .u64 L1, .int .u64 L2] w fun e w' => e = .returned (.int .u64 PL) ∧ Kp w w') (hA2 : ∀ w : World, Calls Tryz.prog 36 #[.int .u64 H1, .int .u64 H2] w fun e w' => e = .returned (.int .u64 PH) ∧ Kp w w') (ha : ∀ w : World, Calls Tryz.prog 37 #[.int .u64 PL, .int .u64 PH] w fun e w' => e = .returned (.bool true) ∧ w' = w) (w : World) : Calls Tryz.prog 15 #[.agg #[.int .u64 X, .int .u64 Y], .agg #[.int .u64 Z, .int .u64 U]] w fun e w' => e = .returned (.int .u64 PL) ∧ Kp w w' := by
  go_enter Tryz.func15, Tryz.ntmps15
  go_wp2_with (first | (go_at_call_of 25 (Value.agg #[.int .u64 X, .int .u64 Y]); refine (hr1 _).mono ?_; rintro e w1 ⟨rfl, g1⟩; have k1 : Kp w w1 := Kp.trans (((Kp.refl w).alloc _).alloc _) g1; have x0 := kkeep g1 (b := w.heap.size + 1) (o := 0) (v := .int .u64 Z) (by simp [go_sem]); have x1 := kkeep g1 (b := w.heap.size + 1) (o := 1) (v := .int .u64 U) (by simp [go_sem]); have xa0 := fun o => kkeep ((Kp.refl w1).alloc o) x0; have xa1 := fun o => kkeep ((Kp.refl w1).alloc o) x1) | (go_at_call_of 25 (Value.agg #[.int .u64 Z, .int .u64 U]); refine (hr2 _).mono ?_; rintro e w2 ⟨rfl, g2⟩; have k2 : Kp w w2 := Kp.trans (Kp.trans k1 ((Kp.refl w1).alloc _)) g2; have a0 := kkeep g2 (b := w1.heap.size) (o := 0) (v := .int .u64 L1) (by simp [go_sem]); have a1 := kkeep g2 (b := w1.heap.size) (o := 1) (v := .int .u64 H1) (by simp [go_sem])))
  have b0 := kkeep ((Kp.refl w2).alloc (.cells #[.int .u64 L2, .int .u64 H2] 24)) a0
  have b1 := kkeep ((Kp.refl w2).alloc (.cells #[.int .u64 L2, .int .u64 H2] 24)) a1
  refine Fq.wp_region_grow (by kernel_rfl) (by kernel_rfl) (fun ι _ G hG hall => ?_)
  have c0 : ∀ n, (G n).cell? ⟨w1.heap.size, 0, none⟩ = some (.int .u64 L1) := fun n => Fq.gkeep (hG n) b0
  have c1 : ∀ n, (G n).cell? ⟨w1.heap.size, 1, none⟩ = some (.int .u64 H1) := fun n => Fq.gkeep (hG n) b1
  have c2 : ∀ n, (G n).cell? ⟨w2.heap.size, 0, none⟩ = some (.int .u64 L2) := fun n => Fq.gkeep (hG n) (by simp [go_sem])
  have c3 : ∀ n, (G n).cell? ⟨w2.heap.size, 1, none⟩ = some (.int .u64 H2) := fun n => Fq.gkeep (hG n) (by simp [go_sem])
  have kG : ∀ n, Kp w (G n) := fun n => Kp.trans (Kp.trans k2 ((Kp.refl w2).alloc _)) (hG n)
  repeat (go_big_quiet_step (first | (go_at_call 26; exact (Fq.rempty_ _).mono (fun e w' h => ⟨h.1, hall _ (by rw [h.2]; exact (hG _).alloc _ _)⟩))))
  refine wpQuiet_nil ?_
  rintro _ ⟨nq, rfl⟩
  have y0 := c0 nq
  have y1 := c1 nq
  have y2 := c2 nq
  have y3 := c3 nq
  have kW := kG nq
  clear c0 c1 c2 c3 kG hall b0 b1
  generalize G nq = W at y0 y1 y2 y3 kW ⊢
  clear hG
  go_wp2_with (first | (go_at_call_of 36 (Value.int .u64 L1); refine (hA1 _).mono ?_; rintro e w3 ⟨rfl, g3⟩; have z0 := kkeep g3 y0; have z1 := kkeep g3 y1; have z2 := kkeep g3 y2; have z3 := kkeep g3 y3) | (go_at_call_of 36 (Value.int .u64 H1); refine (hA2 _).mono ?_; rintro e w4 ⟨rfl, g4⟩; have k4 : Kp w w4 := Kp.trans kW (Kp.trans g3 g4)) | (go_at_call 37; refine (ha _).mono ?_; rintro e w' ⟨rfl, hw'⟩; obtain rfl := hw'.symm; clear hw'))
  exact bodyPost_ret (v := .int .u64 PL) (by simp [results, Tryz.results15, go_sem]) rfl ⟨rfl, k4⟩
set_option maxRecDepth 20000 in
set_option maxHeartbeats 1000000 in
theorem rdist3f_ (X Y Z U L1 H1 L2 H2 : Int) (hr1 : ∀ w : World, Calls Tryz.prog 25 #[.agg #[.int .u64 X, .int .u64 Y]] w fun e w' => e = .returned (.agg #[.int .u64 L1, .int .u64 H1]) ∧ Kp w w') (hr2 : ∀ w : World, Calls Tryz.prog 25 #[.agg #[.int .u64 Z, .int .u64 U]] w fun e w' => e = .returned (.agg #[.int .u64 L2, .int .u64 H2]) ∧ Kp w w') (t1 : (L1 == 9218868437227405312) = false) (t3 : (L2 == 9218868437227405312) = false) (PL PH : Int) (hA1 : ∀ w : World, Calls Tryz.prog 36 #[.int .u64 L1, .int .u64 L2] w fun e w' => e = .returned (.int .u64 PL) ∧ Kp w w') (hA2 : ∀ w : World, Calls Tryz.prog 36 #[.int .u64 H1, .int .u64 H2] w fun e w' => e = .returned (.int .u64 PH) ∧ Kp w w') (ha : ∀ w : World, Calls Tryz.prog 37 #[.int .u64 PL, .int .u64 PH] w fun e w' => e = .returned (.bool false) ∧ w' = w) (w : World) : Calls Tryz.prog 15 #[.agg #[.int .u64 X, .int .u64 Y], .agg #[.int .u64 Z, .int .u64 U]] w fun e w' => e = .returned (.int .u64 PH) ∧ Kp w w' := by
  go_enter Tryz.func15, Tryz.ntmps15
  go_wp2_with (first | (go_at_call_of 25 (Value.agg #[.int .u64 X, .int .u64 Y]); refine (hr1 _).mono ?_; rintro e w1 ⟨rfl, g1⟩; have k1 : Kp w w1 := Kp.trans (((Kp.refl w).alloc _).alloc _) g1; have x0 := kkeep g1 (b := w.heap.size + 1) (o := 0) (v := .int .u64 Z) (by simp [go_sem]); have x1 := kkeep g1 (b := w.heap.size + 1) (o := 1) (v := .int .u64 U) (by simp [go_sem]); have xa0 := fun o => kkeep ((Kp.refl w1).alloc o) x0; have xa1 := fun o => kkeep ((Kp.refl w1).alloc o) x1) | (go_at_call_of 25 (Value.agg #[.int .u64 Z, .int .u64 U]); refine (hr2 _).mono ?_; rintro e w2 ⟨rfl, g2⟩; have k2 : Kp w w2 := Kp.trans (Kp.trans k1 ((Kp.refl w1).alloc _)) g2; have a0 := kkeep g2 (b := w1.heap.size) (o := 0) (v := .int .u64 L1) (by simp [go_sem]); have a1 := kkeep g2 (b := w1.heap.size) (o := 1) (v := .int .u64 H1) (by simp [go_sem])))
  have b0 := kkeep ((Kp.refl w2).alloc (.cells #[.int .u64 L2, .int .u64 H2] 24)) a0
  have b1 := kkeep ((Kp.refl w2).alloc (.cells #[.int .u64 L2, .int .u64 H2] 24)) a1
  refine Fq.wp_region_grow (by kernel_rfl) (by kernel_rfl) (fun ι _ G hG hall => ?_)
  have c0 : ∀ n, (G n).cell? ⟨w1.heap.size, 0, none⟩ = some (.int .u64 L1) := fun n => Fq.gkeep (hG n) b0
  have c1 : ∀ n, (G n).cell? ⟨w1.heap.size, 1, none⟩ = some (.int .u64 H1) := fun n => Fq.gkeep (hG n) b1
  have c2 : ∀ n, (G n).cell? ⟨w2.heap.size, 0, none⟩ = some (.int .u64 L2) := fun n => Fq.gkeep (hG n) (by simp [go_sem])
  have c3 : ∀ n, (G n).cell? ⟨w2.heap.size, 1, none⟩ = some (.int .u64 H2) := fun n => Fq.gkeep (hG n) (by simp [go_sem])
  have kG : ∀ n, Kp w (G n) := fun n => Kp.trans (Kp.trans k2 ((Kp.refl w2).alloc _)) (hG n)
  repeat (go_big_quiet_step (first | (go_at_call 26; exact (Fq.rempty_ _).mono (fun e w' h => ⟨h.1, hall _ (by rw [h.2]; exact (hG _).alloc _ _)⟩))))
  refine wpQuiet_nil ?_
  rintro _ ⟨nq, rfl⟩
  have y0 := c0 nq
  have y1 := c1 nq
  have y2 := c2 nq
  have y3 := c3 nq
  have kW := kG nq
  clear c0 c1 c2 c3 kG hall b0 b1
  generalize G nq = W at y0 y1 y2 y3 kW ⊢
  clear hG
  go_wp2_with (first | (go_at_call_of 36 (Value.int .u64 L1); refine (hA1 _).mono ?_; rintro e w3 ⟨rfl, g3⟩; have z0 := kkeep g3 y0; have z1 := kkeep g3 y1; have z2 := kkeep g3 y2; have z3 := kkeep g3 y3) | (go_at_call_of 36 (Value.int .u64 H1); refine (hA2 _).mono ?_; rintro e w4 ⟨rfl, g4⟩; have k4 : Kp w w4 := Kp.trans kW (Kp.trans g3 g4)) | (go_at_call 37; refine (ha _).mono ?_; rintro e w' ⟨rfl, hw'⟩; obtain rfl := hw'.symm; clear hw'))
  exact bodyPost_ret (v := .int .u64 PH) (by simp [results, Tryz.results15, go_sem]) rfl ⟨rfl, k4⟩
theorem rlo_inf (a b : Nat) (hs : Fq.snd a b = true) (n : Bool) (m : Nat) (e1 : Fq.rlo a b = Fq.wD n m) (c : m = 9218868437227405312) : n = true := by
  have h2 : a ≠ 9218868437227405312 := by intro h; rw [h] at hs; simp [Fq.snd] at hs
  have h1 : Fq.rlo a b ≠ 9218868437227405312 := by simp only [Fq.rlo, hs, if_true, Fq.pla]; split <;> omega
  rw [e1, c] at h1
  cases n
  · exact absurd rfl h1
  · rfl
theorem rhi_inf (a b : Nat) (hs : Fq.snd a b = true) (n : Bool) (m : Nat) (e1 : Fq.rhi a b = Fq.wD n m) (c : m = 9218868437227405312) : n = false := by
  have h2 : b ≠ 18442240474082181120 := by intro h; rw [h] at hs; simp [Fq.snd] at hs
  have h1 : Fq.rhi a b ≠ 18442240474082181120 := by simp only [Fq.rhi, hs, if_true, Fq.pla]; split <;> omega
  rw [e1, c] at h1
  cases n
  · rfl
  · exact absurd rfl h1
theorem wD_inj6 (n n' : Bool) (m m' : Nat) (h : m < 9223372036854775808) (h' : m' < 9223372036854775808) (e : Fq.wD n m = Fq.wD n' m') : n = n' ∧ m = m' := by
  unfold Fq.wD at e
  cases n <;> cases n' <;> simp at e ⊢ <;> omega
theorem pla_ne (x : Nat) : Fq.pla x ≠ 9223372036854775808 := by unfold Fq.pla; split <;> omega
theorem rlo_ne (a b : Nat) : Fq.rlo a b ≠ 9223372036854775808 := by
  unfold Fq.rlo
  split
  · exact pla_ne a
  · decide
theorem rhi_ne (a b : Nat) : Fq.rhi a b ≠ 9223372036854775808 := by
  unfold Fq.rhi
  split
  · exact pla_ne b
  · decide

theorem lo_inf8 (a b : Nat) (s1 : Fq.snd a b = true) (n : Bool) (m : Nat) (l1 : m ≤ 9218868437227405312) (e1 : Fq.rlo a b = Fq.wD n m) : ((((Fq.wD n m : Nat) : Int)) == 9218868437227405312) = false := by
  have i1 := rlo_inf a b s1 n m e1
  have h2 : Fq.wD n m ≠ 9218868437227405312 := by
    intro h
    have hh := wD_inj6 n false m 9218868437227405312 (by omega) (by decide) (h.trans rfl)
    have := i1 hh.2
    rw [hh.1] at this; cases this
  simp; omega
theorem rread8 (a b : Nat) (ha : a < 18446744073709551616) (hb : b < 18446744073709551616) (w : World) : Calls Tryz.prog 25 #[.agg #[.int .u64 ((a : Nat) : Int), .int .u64 ((b : Nat) : Int)]] w fun e w' => e = .returned (.agg #[.int .u64 ((Fq.rlo a b : Nat) : Int), .int .u64 ((Fq.rhi a b : Nat) : Int)]) ∧ Kp w w' := by
  obtain ⟨n, m, hm, rfl⟩ := Fq.exD a ha
  obtain ⟨n', m', hm', rfl⟩ := Fq.exD b hb
  exact Fq.rread_ n n' m m' hm hm' w
theorem rempty8 (a b : Nat) (s1 : Fq.snd a b = false) : Fq.rlo a b = 9218868437227405312 ∧ Fq.rhi a b = 18442240474082181120 := by
  constructor
  · rw [Fq.rlo, if_neg (by rw [s1]; decide)]
  · rw [Fq.rhi, if_neg (by rw [s1]; decide)]
theorem le_read8 (a b : Nat) (ha : a < 18446744073709551616) (hb : b < 18446744073709551616) (s1 : Fq.snd a b = true) (n g : Bool) (m r : Nat) (l1 : m ≤ 9218868437227405312) (l2 : r ≤ 9218868437227405312) (e1 : Fq.rlo a b = Fq.wD n m) (e2 : Fq.rhi a b = Fq.wD g r) : Fq.plz n m ≤ Fq.plz g r := by
  have h := snd_read8 a b ha hb s1
  rw [e1, e2, Fq.snd_w n g m r (by omega) (by omega)] at h
  exact (of_decide_eq_true h).2.2.1

theorem dist_both (a b c d : Nat) (ha : a < 18446744073709551616) (hb : b < 18446744073709551616) (hc : c < 18446744073709551616) (hd : d < 18446744073709551616) : ∃ Z : Nat, (∀ w : World, Tab w → Fq.Tab w → Calls Tryz.prog 14 #[.agg #[.float .f64 a, .float .f64 b], .agg #[.float .f64 c, .float .f64 d]] w fun e w' => e = .returned (.float .f64 Z) ∧ Kp w w') ∧ (∀ w : World, Calls Tryz.prog 15 #[.agg #[.int .u64 ((a : Nat) : Int), .int .u64 ((b : Nat) : Int)], .agg #[.int .u64 ((c : Nat) : Int), .int .u64 ((d : Nat) : Int)]] w fun e w' => e = .returned (.int .u64 (Z : Int)) ∧ Kp w w') ∧ (Z ≤ 9218868437227405312 ∨ Z = 9221120237041090561) := by
  have hr := rread8 a b ha hb
  have hp := Fq.read_ a b ha hb
  have hr2 := rread8 c d hc hd
  have hp2 := Fq.read_ c d hc hd
  by_cases s1 : Fq.snd a b = true
  · obtain ⟨n, m, l1, e1⟩ := rlo_w a b ha hb
    obtain ⟨g, r, l2, e2⟩ := rhi_w a b ha hb
    have t1 := lo_inf8 a b s1 n m l1 e1
    have hv := void8_ a b ha hb false (by simpa using s1)
    have n1 : Fq.wD n m ≠ 9223372036854775808 := e1 ▸ rlo_ne a b
    have n2 : Fq.wD g r ≠ 9223372036854775808 := e2 ▸ rhi_ne a b
    rw [e1, e2] at hr hp hv
    by_cases s2 : Fq.snd c d = true
    · obtain ⟨n', m', l3, e3⟩ := rlo_w c d hc hd
      obtain ⟨g', r', l4, e4⟩ := rhi_w c d hc hd
      have t2 := lo_inf8 c d s2 n' m' l3 e3
      have hv2 := void8_ c d hc hd false (by simpa using s2)
      have n3 : Fq.wD n' m' ≠ 9223372036854775808 := e3 ▸ rlo_ne c d
      have n4 : Fq.wD g' r' ≠ 9223372036854775808 := e4 ▸ rhi_ne c d
      rw [e3, e4] at hr2 hp2 hv2
      have u1 := apW_le n n' m m'
      have u2 := apW_le g g' r r'
      have ab := Fq.above6_ false false (apW n m n' m') (apW g r g' r') (by omega) (by omega)
      rw [show Fq.wD false (apW n m n' m') = apW n m n' m' from rfl, show Fq.wD false (apW g r g' r') = apW g r g' r' from rfl, show decide (apW n m n' m' ≤ 9218868437227405312 ∧ apW g r g' r' ≤ 9218868437227405312 ∧ Fq.plz false (apW g r g' r') < Fq.plz false (apW n m n' m')) = decide (apW g r g' r' < apW n m n' m') from by congr 1; apply propext; unfold Fq.plz; simp; omega] at ab
      refine ⟨if apW g r g' r' < apW n m n' m' then apW n m n' m' else apW g r g' r', fun w hT hQ => dist3_ a b c d _ _ _ _ hp hp2 hv hv2 _ _ _ w (fun W y => apart8_ n n' m m' l1 l3 W (Tab.grown hT y) (Fq.Tab.grown hQ y)) (fun W y => apart8_ g g' r r' l2 l4 W (Tab.grown hT y) (Fq.Tab.grown hQ y)) (greater8_ _ _ u1 u2), fun w => ?_, Or.inl (by split <;> omega)⟩
      by_cases cc : apW g r g' r' < apW n m n' m'
      · rw [if_pos cc]
        rw [decide_eq_true cc] at ab
        exact rdist3t_ _ _ _ _ _ _ _ _ hr hr2 t1 t2 _ _ (rapart8_ n n' m m' l1 l3 n1 n3) (rapart8_ g g' r r' l2 l4 n2 n4) ab w
      · rw [if_neg cc]
        rw [decide_eq_false cc] at ab
        exact rdist3f_ _ _ _ _ _ _ _ _ hr hr2 t1 t2 _ _ (rapart8_ n n' m m' l1 l3 n1 n3) (rapart8_ g g' r r' l2 l4 n2 n4) ab w
    · have s2 : Fq.snd c d = false := by simpa using s2
      have q := rempty8 c d s2
      have hv2 := void8_ c d hc hd true (by simpa using s2)
      rw [q.1, q.2] at hr2
      exact ⟨9221120237041090561, fun w _ _ => dist2_ a b c d _ _ _ _ hp hp2 hv hv2 w, fun w => rdist2_ _ _ _ _ _ _ _ _ hr hr2 t1 (by decide) (by decide) w, Or.inr rfl⟩
  · have s1 : Fq.snd a b = false := by simpa using s1
    have q := rempty8 a b s1
    have hv := void8_ a b ha hb true (by simpa using s1)
    rw [q.1, q.2] at hr
    exact ⟨9221120237041090561, fun w _ _ => dist1_ a b c d _ _ _ _ hp hp2 hv w, fun w => rdist1_ _ _ _ _ _ _ _ _ hr hr2 (by decide) (by decide) w, Or.inr rfl⟩
set_option maxRecDepth 20000 in
set_option maxHeartbeats 4000000 in
theorem mdists_ (a b c d : Nat) (ha : a < 18446744073709551616) (hb : b < 18446744073709551616) (hc : c < 18446744073709551616) (hd : d < 18446744073709551616) (w : World) (hT : Tab w) (hQ : Fq.Tab w) : Calls Tryz.prog 5 #[.agg #[.int .u64 ((a : Nat) : Int), .int .u64 ((b : Nat) : Int)], .agg #[.int .u64 ((c : Nat) : Int), .int .u64 ((d : Nat) : Int)]] w fun e w' => e = .returned (.bool true) ∧ Kp w w' := by
  have h1 := in8_ a b
  have h2 := in8_ c d
  obtain ⟨LO, hP, hR, hz⟩ := dist_both a b c d ha hb hc hd
  have hI := isZ8_ LO hz
  clear ha hb hc hd hz
  generalize (LO : Int) = LI at hR hI
  generalize (a : Int) = X at h1 hR ⊢
  generalize (b : Int) = Y at h1 hR ⊢
  generalize (c : Int) = Z at h2 hR ⊢
  generalize (d : Int) = U at h2 hR ⊢
  have HT : ∀ W : World, Kp w W → Tab W ∧ Fq.Tab W := fun W y => ⟨Tab.grown hT y, Fq.Tab.grown hQ y⟩
  clear hT hQ
  go_enter Tryz.func5, Tryz.ntmps5
  go_wp2
  refine Fq.wp_region_grow (by kernel_rfl) (by kernel_rfl) (fun ι _ G hG hall => ?_)
  have kT : ∀ n, Tab (G n) ∧ Fq.Tab (G n) := fun n => HT _ (Kp.trans (((Kp.refl w).alloc _).alloc _) (hG n))
  have cc0 : ∀ n, (G n).cell? ⟨w.heap.size, 0, none⟩ = some (.int .u64 X) := fun n => Fq.gkeep (hG n) (by simp [go_sem])
  have cc1 : ∀ n, (G n).cell? ⟨w.heap.size, 1, none⟩ = some (.int .u64 Y) := fun n => Fq.gkeep (hG n) (by simp [go_sem])
  have cc2 : ∀ n, (G n).cell? ⟨w.heap.size + 1, 0, none⟩ = some (.int .u64 Z) := fun n => Fq.gkeep (hG n) (by simp [go_sem])
  have cc3 : ∀ n, (G n).cell? ⟨w.heap.size + 1, 1, none⟩ = some (.int .u64 U) := fun n => Fq.gkeep (hG n) (by simp [go_sem])
  repeat (go_big_quiet_step (first | (go_at_call_of 7 (Value.agg #[.int .u64 X, .int .u64 Y]); exact (h1 _).mono (fun e w' h => ⟨h.1, hall _ (Fq.gtrans (hG _) h.2)⟩)) | (go_at_call_of 7 (Value.agg #[.int .u64 Z, .int .u64 U]); exact (h2 _).mono (fun e w' h => ⟨h.1, hall _ (Fq.gtrans (hG _) h.2)⟩)) | (go_at_call 14; exact (hP _ (kT _).1 (kT _).2).mono (fun e w' h => ⟨h.1, hall _ (Fq.gtrans (hG _) h.2)⟩)) | (go_at_call 15; exact (hR _).mono (fun e w' h => ⟨h.1, hall _ (Fq.gtrans (hG _) h.2)⟩)) | (go_at_call 8; exact (hI _).mono (fun e w' h => ⟨h.1, hall _ (Fq.gtrans (hG _) h.2)⟩))))
  refine wpQuiet_nil ?_
  rintro _ ⟨nq, rfl⟩
  have gq : Kp w (G nq) := Kp.trans (((Kp.refl w).alloc _).alloc _) (hG nq)
  clear cc0 cc1 cc2 cc3 hall hG kT HT
  go_wp2
  exact bodyPost_ret (v := .bool true) (by simp [results, Tryz.results5, go_sem]) rfl ⟨rfl, gq⟩
end Go.Proofs.YtmcjjfkicpcfcaaGreatDoor
