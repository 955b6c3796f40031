import Derived.Test.YtmcjjfkicpcfcaaGreatDoorProg
import Derived.Test.YtmcjjfkicpcfcaaGreatDoorKXA0
import Derived.Test.YtmcjjfkicpcfcaaGreatDoorKXM
import Derived.Test.YtmcjjfkicpcfcaaGreatDoorKXY
import Derived.Test.YtmcjjfkicpcfcaaGreatDoorKXQF
import Derived.Test.YtmcjjfkicpcfcaaGreatDoorKQA
import Derived.Test.YtmcjjfkicpcfcaaGreatDoorKQP
import Derived.Test.YtmcjjfkicpcfcaaGreatDoorKXQU
import Derived.Test.YtmcjjfkicpcfcaaGreatDoorKQB
import Derived.Test.YtmcjjfkicpcfcaaGreatDoorKQBT
import Derived.Test.YtmcjjfkicpcfcaaGreatDoorKQJd
import Derived.Test.YtmcjjfkicpcfcaaGreatDoorKXEA
import Derived.Test.YtmcjjfkicpcfcaaGreatDoorKXEE
import Derived.Test.YtmcjjfkicpcfcaaGreatDoorKMR7Q
import Derived.Test.YtmcjjfkicpcfcaaGreatDoorKXMR
import Derived.Test.YtmcjjfkicpcfcaaGreatDoorKXM3
import Derived.Test.YtmcjjfkicpcfcaaGreatDoorKXO
import Derived.Test.YtmcjjfkicpcfcaaGreatDoorKXO3
import Derived.Test.YtmcjjfkicpcfcaaGreatDoorKXH2Q
import Derived.Test.YtmcjjfkicpcfcaaGreatDoorKXT
import Derived.Test.YtmcjjfkicpcfcaaGreatDoorKHB
import Derived.Test.YtmcjjfkicpcfcaaGreatDoorKLX
import Derived.Test.YtmcjjfkicpcfcaaGreatDoorKRX
import Derived.Test.YtmcjjfkicpcfcaaGreatDoorKXRL
import Derived.Test.YtmcjjfkicpcfcaaGreatDoorKXCO
import Derived.Test.YtmcjjfkicpcfcaaGreatDoorKLN
import Derived.Test.YtmcjjfkicpcfcaaGreatDoorKXRN
import Derived.Test.YtmcjjfkicpcfcaaGreatDoorKW4
import Derived.Test.YtmcjjfkicpcfcaaGreatDoorKXBY
import Derived.Test.YtmcjjfkicpcfcaaGreatDoorKXTZ
import Derived.Test.YtmcjjfkicpcfcaaGreatDoorKXG1
import Derived.Test.YtmcjjfkicpcfcaaGreatDoorKNSm
import Derived.Test.YtmcjjfkicpcfcaaGreatDoorKXG4
import Derived.Test.YtmcjjfkicpcfcaaGreatDoorKXS1
import Derived.Test.YtmcjjfkicpcfcaaGreatDoorKXS6
import Derived.Test.YtmcjjfkicpcfcaaGreatDoorKXET
import Derived.Test.YtmcjjfkicpcfcaaGreatDoorKXEC
import Derived.Test.YtmcjjfkicpcfcaaGreatDoorKXS4
import Derived.Test.YtmcjjfkicpcfcaaGreatDoorKXS8
import Derived.Test.YtmcjjfkicpcfcaaGreatDoorKXMV
import Derived.WalkKit
import Derived.ProofKit
import Derived.RowKit3
import Derived.WalkSpells
import Derived.StillTactics
import Derived.Deep.QuietTactic
import Derived.BigQuiet
import Derived.Below
import Derived.Deep.OwnRows
import Derived.OwnWalk
import Derived.Laws.BitsAllLaws
import Derived.Laws.Slices
import Derived.Laws.Bits64b
import Derived.Laws.FloatArith
import Derived.Deep.RegionHeld3
namespace Go.Proofs.YtmcjjfkicpcfcaaGreatDoor
open Go.RowKit
set_option maxRecDepth 20000 in
set_option maxHeartbeats 1000000 in
theorem in8_ (a b : Nat) (w : World) : Calls Tryz.prog 7 #[.agg #[.int .u64 ((a : Nat) : Int), .int .u64 ((b : Nat) : Int)]] w fun e w' => e = .returned (.agg #[.float .f64 a, .float .f64 b]) ∧ Kp w w' := by
  have h1 := Fq.ff64 a
  have h2 := Fq.ff64 b
  generalize (a : Int) = X at h1 ⊢
  generalize (b : Int) = Y at h2 ⊢
  go_enter Tryz.func7, Tryz.ntmps7
  go_wp2
  go_region_held3 (fun w' => w'.cell? ⟨w.heap.size, 0, none⟩ = some (.int .u64 X) ∧ w'.cell? ⟨w.heap.size, 1, none⟩ = some (.int .u64 Y)) (simp [go_sem]) (fail)
  go_wp2
  exact bodyPost_ret (v := .agg #[.float .f64 a, .float .f64 b]) (by simp [results, Tryz.results7, go_sem]) rfl ⟨rfl, (by repeat (with_reducible (first | assumption | exact Kp.refl _ | apply Kp.drew | apply Kp.alloc | apply Kp.drewN | (refine Kp.setCell ?_ (by first | omega | (simp <;> omega)) _) | (refine Kp.trans ?_ (by assumption)))))⟩
set_option maxRecDepth 20000 in
set_option maxHeartbeats 1000000 in
theorem is8_ (n : Bool) (m : Nat) (hm : m ≤ 9218868437227405312) (w : World) : Calls Tryz.prog 8 #[.float .f64 (Fq.wD n m), .int .u64 ((Fq.wD n m : Nat) : Int)] w fun e w' => e = .returned (.bool true) ∧ w' = w := by
  have hn := Fq.isnan6_ n m (by omega)
  rw [decide_eq_false (by omega)] at hn
  have hf := Fq.fb64 (Fq.wD n m)
  generalize Fq.wD n m = X at hn hf ⊢
  clear hm
  go_enter Tryz.func8, Tryz.ntmps8
  go_wp2_with (first | (go_at_call 23; refine (hn _).mono ?_; rintro e w' ⟨rfl, rfl⟩))
  exact bodyPost_ret (v := .bool true) (by simp [results, Tryz.results8, go_sem]) rfl ⟨rfl, rfl⟩
set_option maxRecDepth 20000 in
set_option maxHeartbeats 1000000 in
theorem isN8_ (w : World) : Calls Tryz.prog 8 #[.float .f64 9221120237041090561, .int .u64 9221120237041090561] w fun e w' => e = .returned (.bool true) ∧ w' = w := by
  have hn : ∀ w : World, Calls Tryz.prog 23 #[.int .u64 9221120237041090561] w fun e w' => e = .returned (.bool true) ∧ w' = w := Fq.isnan6_ false 9221120237041090561 (by decide)
  have hq : (FloatKind.f64.format.order 9221120237041090561 9221120237041090561 == some Ordering.eq) = false := by
    have h := Fq.feq false false 9221120237041090561 9221120237041090561 (by decide) (by decide)
    rw [decide_eq_false (by omega)] at h
    exact h
  obtain ⟨X, hX⟩ : ∃ X : Nat, X = 9221120237041090561 := ⟨_, rfl⟩
  rw [← hX] at hq ⊢
  clear hX
  go_enter Tryz.func8, Tryz.ntmps8
  go_wp2_with (first | (go_at_call 23; refine (hn _).mono ?_; rintro e w' ⟨rfl, rfl⟩))
  exact bodyPost_ret (v := .bool true) (by simp [results, Tryz.results8, go_sem] <;> simpa using hq) rfl ⟨rfl, rfl⟩
theorem snd_read8 (a b : Nat) (ha : a < 18446744073709551616) (hb : b < 18446744073709551616) (s1 : Fq.snd a b = true) : Fq.snd (Fq.rlo a b) (Fq.rhi a b) = true := by
  obtain ⟨n, m, hm, rfl⟩ := Fq.exD a ha
  obtain ⟨g, r, hr, rfl⟩ := Fq.exD b hb
  have e1 : Fq.rlo (Fq.wD n m) (Fq.wD g r) = Fq.wD (if n = true ∧ m = 0 then false else n) m := by
    simp only [Fq.rlo, s1, if_true]
    unfold Fq.pla Fq.wD
    cases n <;> by_cases z : m = 0 <;> simp [z] <;> omega
  have e2 : Fq.rhi (Fq.wD n m) (Fq.wD g r) = Fq.wD (if g = true ∧ r = 0 then false else g) r := by
    simp only [Fq.rhi, s1, if_true]
    unfold Fq.pla Fq.wD
    cases g <;> by_cases z : r = 0 <;> simp [z] <;> omega
  rw [e1, e2, Fq.snd_w _ _ _ _ hm hr]
  rw [Fq.snd_w _ _ _ _ hm hr] at s1
  have h := of_decide_eq_true s1
  apply decide_eq_true
  have p1 : Fq.plz (if n = true ∧ m = 0 then false else n) m = Fq.plz n m := by
    unfold Fq.plz; cases n <;> by_cases z : m = 0 <;> simp [z]
  have p2 : Fq.plz (if g = true ∧ r = 0 then false else g) r = Fq.plz g r := by
    unfold Fq.plz; cases g <;> by_cases z : r = 0 <;> simp [z]
  rw [p1, p2]
  refine ⟨h.1, h.2.1, h.2.2.1, ?_, ?_⟩
  · rintro ⟨h1, h2⟩
    rw [if_neg (by omega)] at h1
    exact h.2.2.2.1 ⟨h1, h2⟩
  · rintro ⟨h1, h2⟩
    rw [if_neg (by omega)] at h1
    exact h.2.2.2.2 ⟨h1, h2⟩
theorem pla_pla8 (x : Nat) : Fq.pla (Fq.pla x) = Fq.pla x := by unfold Fq.pla; split <;> simp_all
theorem rlo_read8 (a b : Nat) (ha : a < 18446744073709551616) (hb : b < 18446744073709551616) (s1 : Fq.snd a b = true) : Fq.rlo (Fq.rlo a b) (Fq.rhi a b) = Fq.rlo a b := by
  have h := snd_read8 a b ha hb s1
  rw [Fq.rlo, if_pos h]
  simp only [Fq.rlo, s1, if_true, pla_pla8]
theorem rhi_read8 (a b : Nat) (ha : a < 18446744073709551616) (hb : b < 18446744073709551616) (s1 : Fq.snd a b = true) : Fq.rhi (Fq.rlo a b) (Fq.rhi a b) = Fq.rhi a b := by
  have h := snd_read8 a b ha hb s1
  rw [Fq.rhi, if_pos h]
  simp only [Fq.rhi, s1, if_true, pla_pla8]
theorem isZ8_ (Z : Nat) (h : Z ≤ 9218868437227405312 ∨ Z = 9221120237041090561) (w : World) : Calls Tryz.prog 8 #[.float .f64 Z, .int .u64 (Z : Int)] w fun e w' => e = .returned (.bool true) ∧ Kp w w' := by
  rcases h with h | h
  · exact (is8_ false Z h w).mono (fun e w' h => ⟨h.1, by rw [h.2]; exact Kp.refl _⟩)
  · subst h
    exact (isN8_ w).mono (fun e w' h => ⟨h.1, by rw [h.2]; exact Kp.refl _⟩)
namespace Fq
theorem eqInM (a c : Nat) (w : World) : (Op.equalIn 9999 25 (.float .f64 a) (.float .f64 c)).run Tryz.prog w = .ok (FloatKind.f64.format.order a c == some Ordering.eq) w := by kernel_rfl
set_option maxRecDepth 20000 in
set_option maxHeartbeats 1000000 in
theorem voidM_ (a b : Nat) (ha : a < 18446744073709551616) (hb : b < 18446744073709551616) (w : World) : Calls Tryz.prog 18 #[.agg #[.float .f64 a, .float .f64 b]] w fun e w' => e = .returned (.bool (decide (a = 9218868437227405312 ∧ b = 18442240474082181120))) ∧ Grown w w' := by
  have t2 := feqI a ha
  have t3 := feqM b hb
  have e1 : (decide (a = 9218868437227405312 ∧ b = 18442240474082181120)) = ((FloatKind.f64.format.order a 9218868437227405312 == some Ordering.eq) && (FloatKind.f64.format.order b 18442240474082181120 == some Ordering.eq)) := by
    rw [t2, t3]; by_cases c1 : a = 9218868437227405312 <;> by_cases c2 : b = 18442240474082181120 <;> simp [c1, c2]
  rw [e1]
  clear e1 t2 t3 ha hb
  have h0 := eqInM a 9218868437227405312
  have h1 := eqInM b 18442240474082181120
  generalize g1 : (FloatKind.f64.format.order a 9218868437227405312 == some Ordering.eq) = B1 at h0 ⊢
  generalize g2 : (FloatKind.f64.format.order b 18442240474082181120 == some Ordering.eq) = B2 at h1 ⊢
  cases B1 <;> cases B2
  · go_enter Tryz.func18, Tryz.ntmps18
    go_wp2
    go_region_held3 (fun w' => w'.cell? ⟨w.heap.size, 0, none⟩ = some (.float .f64 a) ∧ w'.cell? ⟨w.heap.size, 1, none⟩ = some (.float .f64 b)) (simp [go_sem, World.cell?_alloc_past]) (first | (go_at_call 39; refine (empty6_ _).mono ?_; rintro e w' ⟨rfl, rfl⟩))
    go_wp2
    exact bodyPost_ret (v := .bool false) (by simp [results, Tryz.results18, go_sem] <;> simp only [*]) rfl ⟨rfl, (by repeat (with_reducible (first | assumption | exact Grown.refl _ | apply Grown.drew | apply Grown.alloc | apply gdrewN | (refine Grown.setCell ?_ (by simp <;> omega) _) | (refine gtrans ?_ (by assumption)))))⟩
  · go_enter Tryz.func18, Tryz.ntmps18
    go_wp2
    go_region_held3 (fun w' => w'.cell? ⟨w.heap.size, 0, none⟩ = some (.float .f64 a) ∧ w'.cell? ⟨w.heap.size, 1, none⟩ = some (.float .f64 b)) (simp [go_sem, World.cell?_alloc_past]) (first | (go_at_call 39; refine (empty6_ _).mono ?_; rintro e w' ⟨rfl, rfl⟩))
    go_wp2
    exact bodyPost_ret (v := .bool false) (by simp [results, Tryz.results18, go_sem] <;> simp only [*]) rfl ⟨rfl, (by repeat (with_reducible (first | assumption | exact Grown.refl _ | apply Grown.drew | apply Grown.alloc | apply gdrewN | (refine Grown.setCell ?_ (by simp <;> omega) _) | (refine gtrans ?_ (by assumption)))))⟩
  · go_enter Tryz.func18, Tryz.ntmps18
    go_wp2
    go_region_held3 (fun w' => w'.cell? ⟨w.heap.size, 0, none⟩ = some (.float .f64 a) ∧ w'.cell? ⟨w.heap.size, 1, none⟩ = some (.float .f64 b)) (simp [go_sem, World.cell?_alloc_past]) (first | (go_at_call 39; refine (empty6_ _).mono ?_; rintro e w' ⟨rfl, rfl⟩))
    go_wp2
    exact bodyPost_ret (v := .bool false) (by simp [results, Tryz.results18, go_sem] <;> simp only [*]) rfl ⟨rfl, (by repeat (with_reducible (first | assumption | exact Grown.refl _ | apply Grown.drew | apply Grown.alloc | apply gdrewN | (refine Grown.setCell ?_ (by simp <;> omega) _) | (refine gtrans ?_ (by assumption)))))⟩
  · go_enter Tryz.func18, Tryz.ntmps18
    go_wp2
    go_region_held3 (fun w' => w'.cell? ⟨w.heap.size, 0, none⟩ = some (.float .f64 a) ∧ w'.cell? ⟨w.heap.size, 1, none⟩ = some (.float .f64 b)) (simp [go_sem, World.cell?_alloc_past]) (first | (go_at_call 39; refine (empty6_ _).mono ?_; rintro e w' ⟨rfl, rfl⟩))
    go_wp2
    exact bodyPost_ret (v := .bool true) (by simp [results, Tryz.results18, go_sem] <;> simp only [*]) rfl ⟨rfl, (by repeat (with_reducible (first | assumption | exact Grown.refl _ | apply Grown.drew | apply Grown.alloc | apply gdrewN | (refine Grown.setCell ?_ (by simp <;> omega) _) | (refine gtrans ?_ (by assumption)))))⟩
end Fq

open Ieee in
theorem fgt8 (n n' : Bool) (m m' : Nat) (h : m < 9223372036854775808) (h' : m' < 9223372036854775808) : (FloatKind.f64.format.order (Fq.wD n m) (Fq.wD n' m') == some Ordering.gt) = decide (m ≤ 9218868437227405312 ∧ m' ≤ 9218868437227405312 ∧ Fq.plz n' m' < Fq.plz n m) := by
  by_cases c : 9218868437227405312 < m
  · rw [Fq.ordD_nanl n m _ c h, decide_eq_false (by omega)]; rfl
  by_cases c' : 9218868437227405312 < m'
  · rw [Fq.ordD_nanr n' m' _ c' h', decide_eq_false (by omega)]; rfl
  rw [Fq.ordD n n' m m' (by omega) (by omega)]
  rcases Int.lt_trichotomy (Fq.plz n m) (Fq.plz n' m') with g | g | g
  · rw [Fq.cmp_lt g, decide_eq_false (by omega)]; rfl
  · rw [Fq.cmp_eq g, decide_eq_false (by omega)]; rfl
  · rw [Fq.cmp_gt g, decide_eq_true ⟨by omega, by omega, by omega⟩]; rfl
theorem flip8 (n : Bool) (m : Nat) (hm : m < 9223372036854775808) : Fq.wD n m ^^^ 9223372036854775808 = Fq.wD (!n) m := by
  obtain ⟨x, hx⟩ : ∃ x, x = Fq.wD n m := ⟨_, rfl⟩
  have h1 : (x ^^^ 9223372036854775808) % 2 ^ 63 = x % 2 ^ 63 := by
    rw [Nat.xor_mod_two_pow, show (9223372036854775808 : Nat) % 2 ^ 63 = 0 from by decide, Nat.xor_zero]
  have h2 : (x ^^^ 9223372036854775808) / 2 ^ 63 = x / 2 ^ 63 ^^^ 1 := by
    rw [← Nat.shiftRight_eq_div_pow, ← Nat.shiftRight_eq_div_pow, Nat.shiftRight_xor_distrib, show (9223372036854775808 : Nat) >>> 63 = 1 from by decide]
  rw [show (2 : Nat) ^ 63 = 9223372036854775808 from by decide] at h1 h2
  rw [← hx]
  generalize hz : x ^^^ 9223372036854775808 = z at h1 h2 ⊢
  clear hz
  cases n
  · have e : x = m := by rw [hx]; unfold Fq.wD; simp
    rw [e, Nat.div_eq_of_lt hm, show (0 : Nat) ^^^ 1 = 1 from by decide] at h2
    rw [e, Nat.mod_eq_of_lt hm] at h1
    unfold Fq.wD
    simp
    omega
  · have e : x = 9223372036854775808 + m := by rw [hx]; unfold Fq.wD; simp
    have e2 : x / 9223372036854775808 = 1 := by omega
    have e3 : x % 9223372036854775808 = m := by omega
    rw [e2, show (1 : Nat) ^^^ 1 = 0 from by decide] at h2
    rw [e3] at h1
    unfold Fq.wD
    simp
    omega
theorem negW8 (n : Bool) (m : Nat) (hm : m < 9223372036854775808) (w : World) : (Op.unary .neg (.float .f64 (Fq.wD n m))).run Tryz.prog w = .ok (.float .f64 (Fq.wD (!n) m)) w := by
  have h : Op.negFloat .f64 (Fq.wD n m) = Fq.wD (!n) m := by
    unfold Op.negFloat
    exact flip8 n m hm
  rw [← h]; rfl
set_option maxRecDepth 20000 in
set_option maxHeartbeats 400000 in
theorem nan8_ (w : World) : Calls Tryz.prog 19 #[] w fun e w' => e = .returned (.float .f64 9221120237041090561) ∧ Kp w w' := by
  have h1 : ∀ w : World, (callFunc 22 #[.int .u64 9221120237041090561]).run Tryz.prog w = .ok (.value (.float .f64 9221120237041090561)) w := Fq.ff64 9221120237041090561
  go_enter Tryz.func19, Tryz.ntmps19
  go_wp2
  exact bodyPost_ret (v := .float .f64 9221120237041090561) (by simp [results, Tryz.results19, go_sem]) rfl ⟨rfl, (by repeat (with_reducible (first | assumption | exact Kp.refl _ | apply Kp.drew | apply Kp.alloc | apply Kp.drewN | (refine Kp.setCell ?_ (by first | omega | (simp <;> omega)) _) | (refine Kp.trans ?_ (by assumption)))))⟩
set_option maxRecDepth 20000 in
set_option maxHeartbeats 400000 in
theorem greater8t_ (X Y : Nat) (t : (FloatKind.f64.format.order X Y == some Ordering.gt) = true) (w : World) : Calls Tryz.prog 20 #[.float .f64 X, .float .f64 Y] w fun e w' => e = .returned (.float .f64 X) ∧ w' = w := by
  go_enter Tryz.func20, Tryz.ntmps20
  go_wp2
  exact bodyPost_ret (v := .float .f64 X) (by simp [results, Tryz.results20, go_sem]) rfl ⟨rfl, rfl⟩
set_option maxRecDepth 20000 in
set_option maxHeartbeats 400000 in
theorem greater8f_ (X Y : Nat) (t : (FloatKind.f64.format.order X Y == some Ordering.gt) = false) (w : World) : Calls Tryz.prog 20 #[.float .f64 X, .float .f64 Y] w fun e w' => e = .returned (.float .f64 Y) ∧ w' = w := by
  go_enter Tryz.func20, Tryz.ntmps20
  go_wp2
  exact bodyPost_ret (v := .float .f64 Y) (by simp [results, Tryz.results20, go_sem]) rfl ⟨rfl, rfl⟩
theorem greater8_ (m m' : Nat) (h : m ≤ 9218868437227405312) (h' : m' ≤ 9218868437227405312) (w : World) : Calls Tryz.prog 20 #[.float .f64 m, .float .f64 m'] w fun e w' => e = .returned (.float .f64 (if m' < m then m else m')) ∧ w' = w := by
  have t := fgt8 false false m m' (by omega) (by omega)
  rw [show Fq.wD false m = m from rfl, show Fq.wD false m' = m' from rfl] at t
  by_cases c : m' < m
  · rw [if_pos c]
    exact greater8t_ m m' (by rw [t]; exact decide_eq_true ⟨h, h', by unfold Fq.plz; simp; omega⟩) w
  · rw [if_neg c]
    exact greater8f_ m m' (by rw [t]; exact decide_eq_false (fun x => c (by have := x.2.2; unfold Fq.plz at this; simp at this; omega))) w
theorem void8_ (a b : Nat) (ha : a < 18446744073709551616) (hb : b < 18446744073709551616) (V : Bool) (hs : Fq.snd a b = !V) (w : World) : Calls Tryz.prog 18 #[.agg #[.float .f64 (Fq.rlo a b), .float .f64 (Fq.rhi a b)]] w fun e w' => e = .returned (.bool V) ∧ Kp w w' := by
  have h := Fq.voidM_ (Fq.rlo a b) (Fq.rhi a b) (Fq.rlo_lt a b ha) (Fq.rhi_lt a b hb) w
  rw [Fq.void_read, hs, Bool.not_not] at h
  exact h
set_option maxRecDepth 20000 in
set_option maxHeartbeats 400000 in
theorem psubA_ (X Y V R : Nat) (d : Int) (h2 : ∀ w : World, (Op.unary .neg (.float .f64 Y)).run Tryz.prog w = .ok (.float .f64 V) w) (w : World) (h1 : Calls Tryz.prog 60 #[.int .i64 d, .float .f64 X, .float .f64 V] w fun e w' => e = .returned (.float .f64 R) ∧ Kp w w') : Calls Tryz.prog 43 #[.int .i64 d, .float .f64 X, .float .f64 Y] w fun e w' => e = .returned (.float .f64 R) ∧ Kp w w' := by
  go_enter Tryz.func43, Tryz.ntmps43
  go_wp2_with (first | (go_at_call 60; refine h1.mono ?_; rintro e w1 ⟨rfl, g1⟩))
  exact bodyPost_ret (v := .float .f64 R) (by simp [results, Tryz.results43, go_sem]) rfl ⟨rfl, g1⟩
set_option maxRecDepth 20000 in
set_option maxHeartbeats 400000 in
theorem apL_ (X Y R : Nat) (t1 : (FloatKind.f64.format.order X Y == some Ordering.lt) = true) (w : World) (h1 : Calls Tryz.prog 43 #[.int .i64 1, .float .f64 Y, .float .f64 X] w fun e w' => e = .returned (.float .f64 R) ∧ Kp w w') : Calls Tryz.prog 21 #[.float .f64 X, .float .f64 Y] w fun e w' => e = .returned (.float .f64 R) ∧ Kp w w' := by
  go_enter Tryz.func21, Tryz.ntmps21
  go_wp2_with (first | (go_at_call 43; refine h1.mono ?_; rintro e w1 ⟨rfl, g1⟩))
  exact bodyPost_ret (v := .float .f64 R) (by simp [results, Tryz.results21, go_sem]) rfl ⟨rfl, g1⟩
set_option maxRecDepth 20000 in
set_option maxHeartbeats 400000 in
theorem apG_ (X Y R : Nat) (t1 : (FloatKind.f64.format.order X Y == some Ordering.lt) = false) (t2 : (FloatKind.f64.format.order X Y == some Ordering.gt) = true) (w : World) (h1 : Calls Tryz.prog 43 #[.int .i64 1, .float .f64 X, .float .f64 Y] w fun e w' => e = .returned (.float .f64 R) ∧ Kp w w') : Calls Tryz.prog 21 #[.float .f64 X, .float .f64 Y] w fun e w' => e = .returned (.float .f64 R) ∧ Kp w w' := by
  go_enter Tryz.func21, Tryz.ntmps21
  go_wp2_with (first | (go_at_call 43; refine h1.mono ?_; rintro e w1 ⟨rfl, g1⟩))
  exact bodyPost_ret (v := .float .f64 R) (by simp [results, Tryz.results21, go_sem]) rfl ⟨rfl, g1⟩
set_option maxRecDepth 20000 in
set_option maxHeartbeats 400000 in
theorem apE_ (X Y : Nat) (t1 : (FloatKind.f64.format.order X Y == some Ordering.lt) = false) (t2 : (FloatKind.f64.format.order X Y == some Ordering.gt) = false) (w : World) : Calls Tryz.prog 21 #[.float .f64 X, .float .f64 Y] w fun e w' => e = .returned (.float .f64 0) ∧ Kp w w' := by
  go_enter Tryz.func21, Tryz.ntmps21
  go_wp2
  exact bodyPost_ret (v := .float .f64 0) (by simp [results, Tryz.results21, go_sem]) rfl ⟨rfl, (by repeat (with_reducible (first | assumption | exact Kp.refl _ | apply Kp.drew | apply Kp.alloc | apply Kp.drewN | (refine Kp.setCell ?_ (by first | omega | (simp <;> omega)) _) | (refine Kp.trans ?_ (by assumption)))))⟩
/-- how far two ends lie apart, rounded up -/
def apW (n : Bool) (m : Nat) (n' : Bool) (m' : Nat) : Nat := if Fq.plz n m = Fq.plz n' m' then 0 else if m = 9218868437227405312 ∨ m' = 9218868437227405312 then 9218868437227405312 else sumW 1 (if Fq.plz n m < Fq.plz n' m' then Iv n' m' - Iv n m else Iv n m - Iv n' m')
theorem fin_le8 (d : Int) (U : Nat) : finU 53 2098 9218868437227405311 9218868437227405312 d U ≤ 9218868437227405312 := by
  unfold finU
  split
  · next h =>
    unfold rgU
    by_cases c : U = 0
    · rw [c, blen_zero]; simp
    · obtain ⟨h1, h2, h3⟩ := blen_spec U c
      have h4 : U / 2 ^ (blen U - 53) < 9007199254740992 := by
        have := blen_shr U (blen U - 53)
        have h5 : blen (U / 2 ^ (blen U - 53)) ≤ 53 := by omega
        rw [blen_le_iff, show (2 : Nat) ^ 53 = 9007199254740992 from by decide] at h5
        exact h5
      rw [show (2 : Nat) ^ (53 - 1) = 4503599627370496 from by decide]
      omega
  · split <;> omega
theorem sumW_le8 (d V : Int) (h : 0 ≤ V) : sumW d V ≤ 9218868437227405312 := by
  unfold sumW
  by_cases c : V = 0
  · rw [if_pos c]; omega
  · rw [if_neg c, decide_eq_false (by omega)]
    unfold mdW
    split
    · omega
    · rw [if_neg (by decide)]
      exact fin_le8 _ _
theorem apW_le (n n' : Bool) (m m' : Nat) : apW n m n' m' ≤ 9218868437227405312 := by
  unfold apW
  by_cases c1 : Fq.plz n m = Fq.plz n' m'
  · rw [if_pos c1]; omega
  · rw [if_neg c1]
    by_cases c2 : m = 9218868437227405312 ∨ m' = 9218868437227405312
    · rw [if_pos c2]; omega
    · rw [if_neg c2]
      apply sumW_le8
      by_cases c3 : Fq.plz n m < Fq.plz n' m'
      · rw [if_pos c3]; have := (iv_lt8 n n' m m').2 c3; omega
      · rw [if_neg c3]; have := (iv_lt8 n' n m' m).2 (by omega); omega
theorem psub8_ (n n' : Bool) (m m' : Nat) (hm : m ≤ 9218868437227405312) (hm' : m' ≤ 9218868437227405312) (hlt : Fq.plz n' m' < Fq.plz n m) (w : World) (hT : Tab w) (hQ : Fq.Tab w) : Calls Tryz.prog 43 #[.int .i64 1, .float .f64 (Fq.wD n m), .float .f64 (Fq.wD n' m')] w fun e w' => e = .returned (.float .f64 (if m = 9218868437227405312 ∨ m' = 9218868437227405312 then 9218868437227405312 else sumW 1 (Iv n m - Iv n' m'))) ∧ Kp w w' := by
  have P1 : Fq.plz n m = if n then -(m : Int) else m := by unfold Fq.plz; cases n <;> rfl
  have P2 : Fq.plz n' m' = if n' then -(m' : Int) else m' := by unfold Fq.plz; cases n' <;> rfl
  by_cases c : m = 9218868437227405312 ∨ m' = 9218868437227405312
  · rw [if_pos c]
    have i1 : m = 9218868437227405312 → n = false := fun h => by
      cases n
      · rfl
      · rw [P1, P2, h] at hlt; cases n' <;> simp at hlt <;> omega
    have i2 : m' = 9218868437227405312 → n' = true := fun h => by
      cases n'
      · rw [P1, P2, h] at hlt; cases n <;> simp at hlt <;> omega
      · rfl
    have h := paddI_ 1 n (!n') m m' (by omega) (by omega) (by omega) (fun h => by
      rcases h with h | h | h
      · omega
      · omega
      · exact h.2.2 (by rw [i1 h.1, i2 h.2.1]; rfl)) w
    have e : Fq.wD (if m = 9218868437227405312 then n else !n') 9218868437227405312 = 9218868437227405312 := by
      by_cases c1 : m = 9218868437227405312
      · rw [if_pos c1, i1 c1]; rfl
      · rw [if_neg c1, i2 (by omega)]; rfl
    rw [e] at h
    exact psubA_ _ _ _ _ 1 (negW8 n' m' (by omega)) w h
  · rw [if_neg c, show Iv n m - Iv n' m' = Iv n m + Iv (!n') m' from by rw [iv_not]; omega]
    exact psubA_ _ _ _ _ 1 (negW8 n' m' (by omega)) w (paddF_ 1 n (!n') m m' (by omega) (by omega) w hT hQ (by decide) (by decide))
theorem apart8_ (n n' : Bool) (m m' : Nat) (hm : m ≤ 9218868437227405312) (hm' : m' ≤ 9218868437227405312) (w : World) (hT : Tab w) (hQ : Fq.Tab w) : Calls Tryz.prog 21 #[.float .f64 (Fq.wD n m), .float .f64 (Fq.wD n' m')] w fun e w' => e = .returned (.float .f64 (apW n m n' m')) ∧ Kp w w' := by
  have f1 := Fq.flt n n' m m' (by omega) (by omega)
  have f2 := fgt8 n n' m m' (by omega) (by omega)
  unfold apW
  rcases Int.lt_trichotomy (Fq.plz n m) (Fq.plz n' m') with g | g | g
  · rw [decide_eq_true ⟨hm, hm', g⟩] at f1
    rw [if_neg (by omega), if_pos g]
    have h := psub8_ n' n m' m hm' hm g w hT hQ
    have e9 : (if m' = 9218868437227405312 ∨ m = 9218868437227405312 then 9218868437227405312 else sumW 1 (Iv n' m' - Iv n m)) = (if m = 9218868437227405312 ∨ m' = 9218868437227405312 then 9218868437227405312 else sumW 1 (Iv n' m' - Iv n m)) := by
      by_cases c : m = 9218868437227405312 ∨ m' = 9218868437227405312
      · rw [if_pos c, if_pos c.symm]
      · rw [if_neg c, if_neg (fun h => c h.symm)]
    rw [e9] at h
    exact apL_ _ _ _ f1 w h
  · rw [decide_eq_false (by omega)] at f1 f2
    rw [if_pos g]
    exact apE_ _ _ f1 f2 w
  · rw [decide_eq_false (by omega)] at f1
    rw [decide_eq_true ⟨hm, hm', g⟩] at f2
    rw [if_neg (show ¬ Fq.plz n m = Fq.plz n' m' by omega), if_neg (show ¬ Fq.plz n m < Fq.plz n' m' by omega)]
    exact apG_ _ _ _ f1 f2 w (psub8_ n n' m m' hm hm' g w hT hQ)
set_option maxRecDepth 20000 in
set_option maxHeartbeats 400000 in
theorem wild1_ (X Y : Int) (h1 : ∀ w : World, Calls Tryz.prog 46 #[.int .u64 X] w fun e w' => e = .returned (.bool true) ∧ w' = w) (w : World) : Calls Tryz.prog 27 #[.agg #[.int .u64 X, .int .u64 Y]] w fun e w' => e = .returned (.bool true) ∧ Kp w w' := by
  go_enter Tryz.func27, Tryz.ntmps27
  go_wp2_with (first | (go_at_call_of 46 (Value.int .u64 X); refine (h1 _).mono ?_; rintro e w' ⟨rfl, rfl⟩))
  exact bodyPost_ret (v := .bool true) (by simp [results, Tryz.results27, go_sem]) rfl ⟨rfl, (by repeat (with_reducible (first | assumption | exact Kp.refl _ | apply Kp.drew | apply Kp.alloc | apply Kp.drewN | (refine Kp.setCell ?_ (by first | omega | (simp <;> omega)) _) | (refine Kp.trans ?_ (by assumption)))))⟩
set_option maxRecDepth 20000 in
set_option maxHeartbeats 400000 in
theorem wild2_ (X Y : Int) (V : Bool) (h1 : ∀ w : World, Calls Tryz.prog 46 #[.int .u64 X] w fun e w' => e = .returned (.bool false) ∧ w' = w) (h2 : ∀ w : World, Calls Tryz.prog 46 #[.int .u64 Y] w fun e w' => e = .returned (.bool V) ∧ w' = w) (w : World) : Calls Tryz.prog 27 #[.agg #[.int .u64 X, .int .u64 Y]] w fun e w' => e = .returned (.bool V) ∧ Kp w w' := by
  go_enter Tryz.func27, Tryz.ntmps27
  go_wp2_with (first | (go_at_call_of 46 (Value.int .u64 X); refine (h1 _).mono ?_; rintro e w' ⟨rfl, rfl⟩) | (go_at_call_of 46 (Value.int .u64 Y); refine (h2 _).mono ?_; rintro e w' ⟨rfl, rfl⟩))
  exact bodyPost_ret (v := .bool V) (by simp [results, Tryz.results27, go_sem]) rfl ⟨rfl, (by repeat (with_reducible (first | assumption | exact Kp.refl _ | apply Kp.drew | apply Kp.alloc | apply Kp.drewN | (refine Kp.setCell ?_ (by first | omega | (simp <;> omega)) _) | (refine Kp.trans ?_ (by assumption)))))⟩
theorem wild8_ (n n' : Bool) (m m' : Nat) (hm : m ≤ 9218868437227405312) (hm' : m' ≤ 9218868437227405312) (w : World) : Calls Tryz.prog 27 #[.agg #[.int .u64 ((Fq.wD n m : Nat) : Int), .int .u64 ((Fq.wD n' m' : Nat) : Int)]] w fun e w' => e = .returned (.bool (decide (m = 9218868437227405312 ∨ m' = 9218868437227405312))) ∧ Kp w w' := by
  have h1 := isinf_ n m (by omega)
  have h2 := isinf_ n' m' (by omega)
  by_cases c : m = 9218868437227405312
  · rw [decide_eq_true c] at h1
    rw [decide_eq_true (Or.inl c)]
    exact wild1_ _ _ h1 w
  · rw [decide_eq_false c] at h1
    rw [show decide (m = 9218868437227405312 ∨ m' = 9218868437227405312) = decide (m' = 9218868437227405312) from by congr 1; apply propext; omega]
    exact wild2_ _ _ _ h1 h2 w
set_option maxRecDepth 20000 in
set_option maxHeartbeats 1000000 in
theorem rwidN_ (X Y LO HI : Int) (hr : ∀ w : World, Calls Tryz.prog 25 #[.agg #[.int .u64 X, .int .u64 Y]] w fun e w' => e = .returned (.agg #[.int .u64 LO, .int .u64 HI]) ∧ Kp w w') (t1 : (LO == 9218868437227405312) = true) (t2 : (HI == 18442240474082181120) = true) (w : World) : Calls Tryz.prog 13 #[.agg #[.int .u64 X, .int .u64 Y]] w fun e w' => e = .returned (.int .u64 9221120237041090561) ∧ Kp w w' := by
  go_enter Tryz.func13, Tryz.ntmps13
  go_wp2_with (first | (go_at_call 25; refine (hr _).mono ?_; rintro e w1 ⟨rfl, g1⟩; have kw : Kp w w1 := Kp.trans ((Kp.refl w).alloc _) g1))
  refine Fq.wp_region_grow (by kernel_rfl) (by kernel_rfl) (fun ι _ G hG hall => ?_)
  have c0 : ∀ n, (G n).cell? ⟨w1.heap.size, 0, none⟩ = some (.int .u64 LO) := fun n => Fq.gkeep (hG n) (by simp [go_sem])
  have c1 : ∀ n, (G n).cell? ⟨w1.heap.size, 1, none⟩ = some (.int .u64 HI) := fun n => Fq.gkeep (hG n) (by simp [go_sem])
  have kG : ∀ n, Kp w1 (G n) := fun n => Kp.trans ((Kp.refl w1).alloc _) (hG n)
  repeat (go_big_quiet_step (first | (go_at_call 26; exact (Fq.rempty_ _).mono (fun e w' h => ⟨h.1, hall _ (by rw [h.2]; exact (hG _).alloc _ _)⟩))))
  refine wpQuiet_nil ?_
  rintro _ ⟨nq, rfl⟩
  have y0 := c0 nq
  have y1 := c1 nq
  have kW := kG nq
  clear c0 c1 kG hall
  generalize G nq = W at y0 y1 kW ⊢
  clear hG
  go_wp2
  exact bodyPost_ret (v := .int .u64 9221120237041090561) (by simp [results, Tryz.results13, go_sem]) rfl ⟨rfl, Kp.trans kw kW⟩
set_option maxRecDepth 20000 in
set_option maxHeartbeats 1000000 in
theorem rwidI_ (X Y LO HI : Int) (hr : ∀ w : World, Calls Tryz.prog 25 #[.agg #[.int .u64 X, .int .u64 Y]] w fun e w' => e = .returned (.agg #[.int .u64 LO, .int .u64 HI]) ∧ Kp w w') (t1 : (LO == 9218868437227405312) = false) (hw : ∀ w : World, Calls Tryz.prog 27 #[.agg #[.int .u64 LO, .int .u64 HI]] w fun e w' => e = .returned (.bool true) ∧ Kp w w') (w : World) : Calls Tryz.prog 13 #[.agg #[.int .u64 X, .int .u64 Y]] w fun e w' => e = .returned (.int .u64 9218868437227405312) ∧ Kp w w' := by
  go_enter Tryz.func13, Tryz.ntmps13
  go_wp2_with (first | (go_at_call 25; refine (hr _).mono ?_; rintro e w1 ⟨rfl, g1⟩; have kw : Kp w w1 := Kp.trans ((Kp.refl w).alloc _) g1))
  refine Fq.wp_region_grow (by kernel_rfl) (by kernel_rfl) (fun ι _ G hG hall => ?_)
  have c0 : ∀ n, (G n).cell? ⟨w1.heap.size, 0, none⟩ = some (.int .u64 LO) := fun n => Fq.gkeep (hG n) (by simp [go_sem])
  have c1 : ∀ n, (G n).cell? ⟨w1.heap.size, 1, none⟩ = some (.int .u64 HI) := fun n => Fq.gkeep (hG n) (by simp [go_sem])
  have kG : ∀ n, Kp w1 (G n) := fun n => Kp.trans ((Kp.refl w1).alloc _) (hG n)
  repeat (go_big_quiet_step (first | (go_at_call 26; exact (Fq.rempty_ _).mono (fun e w' h => ⟨h.1, hall _ (by rw [h.2]; exact (hG _).alloc _ _)⟩))))
  refine wpQuiet_nil ?_
  rintro _ ⟨nq, rfl⟩
  have y0 := c0 nq
  have y1 := c1 nq
  have kW := kG nq
  clear c0 c1 kG hall
  generalize G nq = W at y0 y1 kW ⊢
  clear hG
  go_wp2_with (first | (go_at_call 27; refine (hw _).mono ?_; rintro e w2 ⟨rfl, g2⟩; have z0 := kkeep g2 y0; have z1 := kkeep g2 y1; have kz : Kp w w2 := Kp.trans (Kp.trans kw kW) g2))
  exact bodyPost_ret (v := .int .u64 9218868437227405312) (by simp [results, Tryz.results13, go_sem]) rfl ⟨rfl, kz⟩
set_option maxRecDepth 20000 in
set_option maxHeartbeats 1000000 in
theorem rwidF_ (X Y LO HI : Int) (N1 N2 : Bool) (M1 M2 : Nat) (hr : ∀ w : World, Calls Tryz.prog 25 #[.agg #[.int .u64 X, .int .u64 Y]] w fun e w' => e = .returned (.agg #[.int .u64 LO, .int .u64 HI]) ∧ Kp w w') (t1 : (LO == 9218868437227405312) = false) (hw : ∀ w : World, Calls Tryz.prog 27 #[.agg #[.int .u64 LO, .int .u64 HI]] w fun e w' => e = .returned (.bool false) ∧ Kp w w') (hf1 : ∀ w : World, Calls Tryz.prog 28 #[.int .u64 HI] w fun e w' => ∃ (s : Bool) (p : Option Addr) (l c : Nat) (q : Option Addr) (k d : Nat), e = .returned (.agg #[.bool s, .slice p l c, .slice q k d]) ∧ RP w.heap.size w' s p l c q k d N1 M1 ∧ Kp w w') (hf2 : ∀ w : World, Calls Tryz.prog 28 #[.int .u64 LO] w fun e w' => ∃ (s : Bool) (p : Option Addr) (l c : Nat) (q : Option Addr) (k d : Nat), e = .returned (.agg #[.bool s, .slice p l c, .slice q k d]) ∧ RP w.heap.size w' s p l c q k d N2 M2 ∧ Kp w w') (w : World) : Calls Tryz.prog 13 #[.agg #[.int .u64 X, .int .u64 Y]] w fun e w' => e = .returned (.int .u64 ((sumW 1 (Iv N1 M1 - Iv N2 M2) : Nat) : Int)) ∧ Kp w w' := by
  go_enter Tryz.func13, Tryz.ntmps13
  go_wp2_with (first | (go_at_call 25; refine (hr _).mono ?_; rintro e w1 ⟨rfl, g1⟩; have kw : Kp w w1 := Kp.trans ((Kp.refl w).alloc _) g1))
  refine Fq.wp_region_grow (by kernel_rfl) (by kernel_rfl) (fun ι _ G hG hall => ?_)
  have c0 : ∀ n, (G n).cell? ⟨w1.heap.size, 0, none⟩ = some (.int .u64 LO) := fun n => Fq.gkeep (hG n) (by simp [go_sem])
  have c1 : ∀ n, (G n).cell? ⟨w1.heap.size, 1, none⟩ = some (.int .u64 HI) := fun n => Fq.gkeep (hG n) (by simp [go_sem])
  have kG : ∀ n, Kp w1 (G n) := fun n => Kp.trans ((Kp.refl w1).alloc _) (hG n)
  repeat (go_big_quiet_step (first | (go_at_call 26; exact (Fq.rempty_ _).mono (fun e w' h => ⟨h.1, hall _ (by rw [h.2]; exact (hG _).alloc _ _)⟩))))
  refine wpQuiet_nil ?_
  rintro _ ⟨nq, rfl⟩
  have y0 := c0 nq
  have y1 := c1 nq
  have kW := kG nq
  clear c0 c1 kG hall
  generalize G nq = W at y0 y1 kW ⊢
  clear hG
  go_wp2_with (first | (go_at_call 27; refine (hw _).mono ?_; rintro e w2 ⟨rfl, g2⟩; have z0 := kkeep g2 y0; have z1 := kkeep g2 y1; have kz : Kp w w2 := Kp.trans (Kp.trans kw kW) g2))
  have d0 : w2.drew.cell? ⟨w1.heap.size, 0, none⟩ = some (.int .u64 LO) := z0
  have d1 : w2.drew.cell? ⟨w1.heap.size, 1, none⟩ = some (.int .u64 HI) := z1
  go_region_held3 (fun w' => w'.cell? ⟨w1.heap.size, 0, none⟩ = some (.int .u64 LO) ∧ w'.cell? ⟨w1.heap.size, 1, none⟩ = some (.int .u64 HI)) (first | (with_reducible exact ⟨d0, d1⟩) | (with_reducible exact ⟨z0, z1⟩) | (with_reducible exact ⟨a0, a1⟩) | (with_reducible exact ⟨b0, b1⟩) | (with_reducible exact ⟨e0, e1⟩) | (with_reducible exact ⟨h0, h1⟩)) (first | (go_at_call_of 28 (Value.int .u64 HI); refine (hf1 _).mono ?_; rintro e w3 ⟨s, p, l, c, q, k, d, rfl, hp, g3⟩; have k3 : Kp w2 w3 := Kp.trans (Kp.drew (Kp.refl _)) g3; have a0 := kkeep k3 z0; have a1 := kkeep k3 z1) | (go_at_call_of 28 (Value.int .u64 LO); refine (hf2 _).mono ?_; rintro e w4 ⟨s2, p2, l2, c2, q2, k2, d2, rfl, hp2, g4⟩; have k4 : Kp w2 w4 := Kp.trans k3 g4; have b0 := kkeep k4 z0; have b1 := kkeep k4 z1) | (go_at_call 29; refine (vsub_ N1 N2 M1 M2 s p l c q k d s2 p2 l2 c2 q2 k2 d2 _ _ _ (hp.kp g4) hp2).mono ?_; rintro e w5 ⟨s3, p3, l3, c3, q3, k3', d3, rfl, hq, g5⟩; have k5 : Kp w2 w5 := Kp.trans k4 g5; have e0 := kkeep k5 z0; have e1 := kkeep k5 z1) | (go_at_call 30; refine (vbits_ s3 p3 l3 c3 q3 k3' d3 _ 1 _ _ hq).mono ?_; rintro e w6 ⟨rfl, g6⟩; have k6 : Kp w2 w6 := Kp.trans k5 g6; have h0 := kkeep k6 z0; have h1 := kkeep k6 z1))
  go_wp2
  exact bodyPost_ret (v := .int .u64 ((sumW 1 (Iv N1 M1 - Iv N2 M2) : Nat) : Int)) (by simp [results, Tryz.results13, go_sem]) rfl ⟨rfl, Kp.trans kz k6⟩
theorem rlo_inf (a b : Nat) (hs : Fq.snd a b = true) (n : Bool) (m : Nat) (e1 : Fq.rlo a b = Fq.wD n m) (c : m = 9218868437227405312) : n = true := by
  have h2 : a ≠ 9218868437227405312 := by intro h; rw [h] at hs; simp [Fq.snd] at hs
  have h1 : Fq.rlo a b ≠ 9218868437227405312 := by simp only [Fq.rlo, hs, if_true, Fq.pla]; split <;> omega
  rw [e1, c] at h1
  cases n
  · exact absurd rfl h1
  · rfl
theorem rhi_inf (a b : Nat) (hs : Fq.snd a b = true) (n : Bool) (m : Nat) (e1 : Fq.rhi a b = Fq.wD n m) (c : m = 9218868437227405312) : n = false := by
  have h2 : b ≠ 18442240474082181120 := by intro h; rw [h] at hs; simp [Fq.snd] at hs
  have h1 : Fq.rhi a b ≠ 18442240474082181120 := by simp only [Fq.rhi, hs, if_true, Fq.pla]; split <;> omega
  rw [e1, c] at h1
  cases n
  · rfl
  · exact absurd rfl h1
theorem wD_inj6 (n n' : Bool) (m m' : Nat) (h : m < 9223372036854775808) (h' : m' < 9223372036854775808) (e : Fq.wD n m = Fq.wD n' m') : n = n' ∧ m = m' := by
  unfold Fq.wD at e
  cases n <;> cases n' <;> simp at e ⊢ <;> omega
theorem pla_ne (x : Nat) : Fq.pla x ≠ 9223372036854775808 := by unfold Fq.pla; split <;> omega
theorem rlo_ne (a b : Nat) : Fq.rlo a b ≠ 9223372036854775808 := by
  unfold Fq.rlo
  split
  · exact pla_ne a
  · decide
theorem rhi_ne (a b : Nat) : Fq.rhi a b ≠ 9223372036854775808 := by
  unfold Fq.rhi
  split
  · exact pla_ne b
  · decide

theorem lo_inf8 (a b : Nat) (s1 : Fq.snd a b = true) (n : Bool) (m : Nat) (l1 : m ≤ 9218868437227405312) (e1 : Fq.rlo a b = Fq.wD n m) : ((((Fq.wD n m : Nat) : Int)) == 9218868437227405312) = false := by
  have i1 := rlo_inf a b s1 n m e1
  have h2 : Fq.wD n m ≠ 9218868437227405312 := by
    intro h
    have hh := wD_inj6 n false m 9218868437227405312 (by omega) (by decide) (h.trans rfl)
    have := i1 hh.2
    rw [hh.1] at this; cases this
  simp; omega
theorem rread8 (a b : Nat) (ha : a < 18446744073709551616) (hb : b < 18446744073709551616) (w : World) : Calls Tryz.prog 25 #[.agg #[.int .u64 ((a : Nat) : Int), .int .u64 ((b : Nat) : Int)]] w fun e w' => e = .returned (.agg #[.int .u64 ((Fq.rlo a b : Nat) : Int), .int .u64 ((Fq.rhi a b : Nat) : Int)]) ∧ Kp w w' := by
  obtain ⟨n, m, hm, rfl⟩ := Fq.exD a ha
  obtain ⟨n', m', hm', rfl⟩ := Fq.exD b hb
  exact Fq.rread_ n n' m m' hm hm' w
theorem rempty8 (a b : Nat) (s1 : Fq.snd a b = false) : Fq.rlo a b = 9218868437227405312 ∧ Fq.rhi a b = 18442240474082181120 := by
  constructor
  · rw [Fq.rlo, if_neg (by rw [s1]; decide)]
  · rw [Fq.rhi, if_neg (by rw [s1]; decide)]
theorem le_read8 (a b : Nat) (ha : a < 18446744073709551616) (hb : b < 18446744073709551616) (s1 : Fq.snd a b = true) (n g : Bool) (m r : Nat) (l1 : m ≤ 9218868437227405312) (l2 : r ≤ 9218868437227405312) (e1 : Fq.rlo a b = Fq.wD n m) (e2 : Fq.rhi a b = Fq.wD g r) : Fq.plz n m ≤ Fq.plz g r := by
  have h := snd_read8 a b ha hb s1
  rw [e1, e2, Fq.snd_w n g m r (by omega) (by omega)] at h
  exact (of_decide_eq_true h).2.2.1
set_option maxRecDepth 20000 in
set_option maxHeartbeats 400000 in
theorem isInfA_ (X R : Nat) (V : Bool) (h1 : ∀ w : World, Calls Tryz.prog 72 #[.float .f64 X] w fun e w' => e = .returned (.float .f64 R) ∧ w' = w) (t : (FloatKind.f64.format.order R 9218868437227405311 == some Ordering.gt) = V) (w : World) : Calls Tryz.prog 58 #[.float .f64 X, .int .i64 0] w fun e w' => e = .returned (.bool V) ∧ w' = w := by
  go_enter Tryz.func58, Tryz.ntmps58
  go_wp2_with (first | (go_at_call 72; refine (h1 _).mono ?_; rintro e w' ⟨rfl, hw'⟩; obtain rfl := hw'.symm; clear hw'))
  exact bodyPost_ret (v := .bool V) (by simp [results, Tryz.results58, go_sem] <;> simpa using t) rfl ⟨rfl, rfl⟩
theorem isInf8_ (n : Bool) (m : Nat) (hm : m ≤ 9218868437227405312) (w : World) : Calls Tryz.prog 58 #[.float .f64 (Fq.wD n m), .int .i64 0] w fun e w' => e = .returned (.bool (decide (m = 9218868437227405312))) ∧ w' = w := by
  have t := fgt8 false false m 9218868437227405311 (by omega) (by decide)
  rw [show Fq.wD false m = m from rfl, show Fq.wD false 9218868437227405311 = 9218868437227405311 from rfl, show decide (m ≤ 9218868437227405312 ∧ 9218868437227405311 ≤ 9218868437227405312 ∧ Fq.plz false 9218868437227405311 < Fq.plz false m) = decide (m = 9218868437227405312) from by congr 1; apply propext; unfold Fq.plz; simp; omega] at t
  exact isInfA_ _ m _ (abs_ n m (by omega)) t w
set_option maxRecDepth 20000 in
set_option maxHeartbeats 400000 in
theorem halfQ_ (X Y S H R : Nat) (h1 : ∀ w : World, (binOp .add 25 (.float .f64 X) (.float .f64 Y)).run Tryz.prog w = .ok (.float .f64 S) w) (h2 : ∀ w : World, Calls Tryz.prog 58 #[.float .f64 S, .int .i64 0] w fun e w' => e = .returned (.bool false) ∧ w' = w) (h3 : ∀ w : World, (binOp .quo 25 (.float .f64 S) (.float .f64 4611686018427387904)).run Tryz.prog w = .ok (.float .f64 H) w) (h4 : ∀ w : World, Calls Tryz.prog 59 #[.float .f64 H] w fun e w' => e = .returned (.float .f64 R) ∧ w' = w) (w : World) : Calls Tryz.prog 42 #[.float .f64 X, .float .f64 Y] w fun e w' => e = .returned (.float .f64 R) ∧ Kp w w' := by
  go_enter Tryz.func42, Tryz.ntmps42
  go_wp2_with (first | (go_at_call 58; refine (h2 _).mono ?_; rintro e w' ⟨rfl, hw'⟩; obtain rfl := hw'.symm; clear hw') | (go_at_call 59; refine (h4 _).mono ?_; rintro e w' ⟨rfl, hw'⟩; obtain rfl := hw'.symm; clear hw'))
  exact bodyPost_ret (v := .float .f64 R) (by simp [results, Tryz.results42, go_sem]) rfl ⟨rfl, (by repeat (with_reducible (first | assumption | exact Kp.refl _ | apply Kp.drew | apply Kp.alloc | apply Kp.drewN | (refine Kp.setCell ?_ (by first | omega | (simp <;> omega)) _) | (refine Kp.trans ?_ (by assumption)))))⟩
set_option maxRecDepth 20000 in
set_option maxHeartbeats 400000 in
theorem halfI_ (X Y S H J R : Nat) (h1 : ∀ w : World, (binOp .add 25 (.float .f64 X) (.float .f64 Y)).run Tryz.prog w = .ok (.float .f64 S) w) (h2 : ∀ w : World, Calls Tryz.prog 58 #[.float .f64 S, .int .i64 0] w fun e w' => e = .returned (.bool true) ∧ w' = w) (h3 : ∀ w : World, (binOp .quo 25 (.float .f64 X) (.float .f64 4611686018427387904)).run Tryz.prog w = .ok (.float .f64 H) w) (h4 : ∀ w : World, (binOp .quo 25 (.float .f64 Y) (.float .f64 4611686018427387904)).run Tryz.prog w = .ok (.float .f64 J) w) (h5 : ∀ w : World, (binOp .add 25 (.float .f64 H) (.float .f64 J)).run Tryz.prog w = .ok (.float .f64 R) w) (w : World) : Calls Tryz.prog 42 #[.float .f64 X, .float .f64 Y] w fun e w' => e = .returned (.float .f64 R) ∧ Kp w w' := by
  go_enter Tryz.func42, Tryz.ntmps42
  go_wp2_with (first | (go_at_call 58; refine (h2 _).mono ?_; rintro e w' ⟨rfl, hw'⟩; obtain rfl := hw'.symm; clear hw'))
  exact bodyPost_ret (v := .float .f64 R) (by simp [results, Tryz.results42, go_sem]) rfl ⟨rfl, (by repeat (with_reducible (first | assumption | exact Kp.refl _ | apply Kp.drew | apply Kp.alloc | apply Kp.drewN | (refine Kp.setCell ?_ (by first | omega | (simp <;> omega)) _) | (refine Kp.trans ?_ (by assumption)))))⟩
theorem half8_ (n n' : Bool) (m m' : Nat) (hm : m < 9218868437227405312) (hm' : m' < 9218868437227405312) (w : World) : Calls Tryz.prog 42 #[.float .f64 (Fq.wD n m), .float .f64 (Fq.wD n' m')] w fun e w' => e = .returned (.float .f64 (hfW (Iv n m + Iv n' m'))) ∧ Kp w w' := by
  obtain ⟨s, r, l1, ha, hq, hi⟩ := half_math n n' m m' hm hm' _ rfl
  have h1 : ∀ w : World, (binOp .add 25 (.float .f64 (Fq.wD n m)) (.float .f64 (Fq.wD n' m'))).run Tryz.prog w = .ok (.float .f64 (Fq.wD s r)) w := fun w => run_float_arith w .add 25 .f64 _ _ _ ha
  have h2 := isInf8_ s r l1
  by_cases c : r = 9218868437227405312
  · obtain ⟨x, y, e1, e2, e3⟩ := hi c
    rw [decide_eq_true c] at h2
    exact halfI_ _ _ _ x y _ h1 h2 (fun w => run_float_arith w .quo 25 .f64 _ _ _ e1) (fun w => run_float_arith w .quo 25 .f64 _ _ _ e2) (fun w => run_float_arith w .add 25 .f64 _ _ _ e3) w
  · obtain ⟨r2, l2, e1, e2⟩ := hq c
    rw [decide_eq_false c] at h2
    have hp := Fq.plain_d s r2 l2
    rw [e2] at hp
    exact halfQ_ _ _ _ _ _ h1 h2 (fun w => run_float_arith w .quo 25 .f64 _ _ _ e1) hp w
set_option maxRecDepth 20000 in
set_option maxHeartbeats 1000000 in
theorem midN_ (a b LO HI : Nat) (hr : ∀ w : World, Calls Tryz.prog 16 #[.agg #[.float .f64 a, .float .f64 b]] w fun e w' => e = .returned (.agg #[.float .f64 LO, .float .f64 HI]) ∧ Kp w w') (hv : ∀ w : World, Calls Tryz.prog 18 #[.agg #[.float .f64 LO, .float .f64 HI]] w fun e w' => e = .returned (.bool true) ∧ Kp w w') (w : World) : Calls Tryz.prog 17 #[.agg #[.float .f64 a, .float .f64 b]] w fun e w' => e = .returned (.float .f64 9221120237041090561) ∧ Kp w w' := by
  go_enter Tryz.func17, Tryz.ntmps17
  go_wp2_with (first | (go_at_call 16; refine (hr _).mono ?_; rintro e w1 ⟨rfl, g1⟩; have q0 := Fq.H2.keep (Fq.H2.new w (.float .f64 a) (.float .f64 b) 29) g1; have kw : Kp w w1 := Kp.trans ((Kp.refl w).alloc _) g1; obtain ⟨x0, x1, x2, x3⟩ := id q0) | (go_at_call 18; refine (hv _).mono ?_; rintro e w2 ⟨rfl, g2⟩; have qx := Fq.H2.keep (Fq.H2.put q0 (.float .f64 LO) (.float .f64 HI)) g2; have kv : Kp w w2 := Kp.trans ((kw.setCell (Nat.le_refl _) _).setCell (Nat.le_refl _) _) g2; obtain ⟨u0, u1, u2, u3⟩ := id qx) | (go_at_call 19; refine (nan8_ _).mono ?_; rintro e w3 ⟨rfl, g3⟩; have kn : Kp w w3 := Kp.trans kv g3))
  exact bodyPost_ret (v := .float .f64 9221120237041090561) (by simp [results, Tryz.results17, go_sem]) rfl ⟨rfl, kn⟩
set_option maxRecDepth 20000 in
set_option maxHeartbeats 1000000 in
theorem midE_ (a b LO HI : Nat) (hr : ∀ w : World, Calls Tryz.prog 16 #[.agg #[.float .f64 a, .float .f64 b]] w fun e w' => e = .returned (.agg #[.float .f64 LO, .float .f64 HI]) ∧ Kp w w') (hv : ∀ w : World, Calls Tryz.prog 18 #[.agg #[.float .f64 LO, .float .f64 HI]] w fun e w' => e = .returned (.bool false) ∧ Kp w w') (q1 : (FloatKind.f64.format.order LO 18442240474082181120 == some Ordering.eq) = true) (q2 : (FloatKind.f64.format.order HI 9218868437227405312 == some Ordering.eq) = true) (w : World) : Calls Tryz.prog 17 #[.agg #[.float .f64 a, .float .f64 b]] w fun e w' => e = .returned (.float .f64 0) ∧ Kp w w' := by
  have k0 := Fq.eqInM LO 18442240474082181120
  have k1 := Fq.eqInM HI 9218868437227405312
  rw [q1] at k0
  rw [q2] at k1
  go_enter Tryz.func17, Tryz.ntmps17
  go_wp2_with (first | (go_at_call 16; refine (hr _).mono ?_; rintro e w1 ⟨rfl, g1⟩; have q0 := Fq.H2.keep (Fq.H2.new w (.float .f64 a) (.float .f64 b) 29) g1; have kw : Kp w w1 := Kp.trans ((Kp.refl w).alloc _) g1; obtain ⟨x0, x1, x2, x3⟩ := id q0) | (go_at_call 18; refine (hv _).mono ?_; rintro e w2 ⟨rfl, g2⟩; have qx := Fq.H2.keep (Fq.H2.put q0 (.float .f64 LO) (.float .f64 HI)) g2; have kv : Kp w w2 := Kp.trans ((kw.setCell (Nat.le_refl _) _).setCell (Nat.le_refl _) _) g2; obtain ⟨u0, u1, u2, u3⟩ := id qx))
  have d0 : w2.drew.cell? ⟨w.heap.size, 0, none⟩ = some (.float .f64 LO) := u0
  have d1 : w2.drew.cell? ⟨w.heap.size, 1, none⟩ = some (.float .f64 HI) := u1
  refine Fq.wp_region_grow (by kernel_rfl) (by kernel_rfl) (fun ι _ G hG hall => ?_)
  have c0 : ∀ n, (G n).cell? ⟨w.heap.size, 0, none⟩ = some (.float .f64 LO) := fun n => Fq.gkeep (hG n) u0
  have c1 : ∀ n, (G n).cell? ⟨w.heap.size, 1, none⟩ = some (.float .f64 HI) := fun n => Fq.gkeep (hG n) u1
  have kG : ∀ n, Kp w (G n) := fun n => Kp.trans kv (hG n)
  repeat (go_big_quiet_step (first | (go_at_call 41; exact (Fq.entire6_ _).mono (fun e w' h => ⟨h.1, hall _ (by rw [h.2]; exact (hG _).alloc _ _)⟩))))
  refine wpQuiet_nil ?_
  rintro _ ⟨nq, rfl⟩
  have y0 := c0 nq
  have y1 := c1 nq
  have kW := kG nq
  clear c0 c1 kG hall
  generalize G nq = W at y0 y1 kW ⊢
  clear hG
  go_wp2_with (first | fail)
  exact bodyPost_ret (v := .float .f64 0) (by simp [results, Tryz.results17, go_sem]) rfl ⟨rfl, kW⟩
set_option maxRecDepth 20000 in
set_option maxHeartbeats 1000000 in
theorem midL_ (a b LO HI : Nat) (hr : ∀ w : World, Calls Tryz.prog 16 #[.agg #[.float .f64 a, .float .f64 b]] w fun e w' => e = .returned (.agg #[.float .f64 LO, .float .f64 HI]) ∧ Kp w w') (hv : ∀ w : World, Calls Tryz.prog 18 #[.agg #[.float .f64 LO, .float .f64 HI]] w fun e w' => e = .returned (.bool false) ∧ Kp w w') (q1 : (FloatKind.f64.format.order LO 18442240474082181120 == some Ordering.eq) = true) (q2 : (FloatKind.f64.format.order HI 9218868437227405312 == some Ordering.eq) = false) (t1 : (FloatKind.f64.format.order LO 18442240474082181119 == some Ordering.lt) = true) (w : World) : Calls Tryz.prog 17 #[.agg #[.float .f64 a, .float .f64 b]] w fun e w' => e = .returned (.float .f64 18442240474082181119) ∧ Kp w w' := by
  have k0 := Fq.eqInM LO 18442240474082181120
  have k1 := Fq.eqInM HI 9218868437227405312
  rw [q1] at k0
  rw [q2] at k1
  go_enter Tryz.func17, Tryz.ntmps17
  go_wp2_with (first | (go_at_call 16; refine (hr _).mono ?_; rintro e w1 ⟨rfl, g1⟩; have q0 := Fq.H2.keep (Fq.H2.new w (.float .f64 a) (.float .f64 b) 29) g1; have kw : Kp w w1 := Kp.trans ((Kp.refl w).alloc _) g1; obtain ⟨x0, x1, x2, x3⟩ := id q0) | (go_at_call 18; refine (hv _).mono ?_; rintro e w2 ⟨rfl, g2⟩; have qx := Fq.H2.keep (Fq.H2.put q0 (.float .f64 LO) (.float .f64 HI)) g2; have kv : Kp w w2 := Kp.trans ((kw.setCell (Nat.le_refl _) _).setCell (Nat.le_refl _) _) g2; obtain ⟨u0, u1, u2, u3⟩ := id qx))
  have d0 : w2.drew.cell? ⟨w.heap.size, 0, none⟩ = some (.float .f64 LO) := u0
  have d1 : w2.drew.cell? ⟨w.heap.size, 1, none⟩ = some (.float .f64 HI) := u1
  refine Fq.wp_region_grow (by kernel_rfl) (by kernel_rfl) (fun ι _ G hG hall => ?_)
  have c0 : ∀ n, (G n).cell? ⟨w.heap.size, 0, none⟩ = some (.float .f64 LO) := fun n => Fq.gkeep (hG n) u0
  have c1 : ∀ n, (G n).cell? ⟨w.heap.size, 1, none⟩ = some (.float .f64 HI) := fun n => Fq.gkeep (hG n) u1
  have kG : ∀ n, Kp w (G n) := fun n => Kp.trans kv (hG n)
  repeat (go_big_quiet_step (first | (go_at_call 41; exact (Fq.entire6_ _).mono (fun e w' h => ⟨h.1, hall _ (by rw [h.2]; exact (hG _).alloc _ _)⟩))))
  refine wpQuiet_nil ?_
  rintro _ ⟨nq, rfl⟩
  have y0 := c0 nq
  have y1 := c1 nq
  have kW := kG nq
  clear c0 c1 kG hall
  generalize G nq = W at y0 y1 kW ⊢
  clear hG
  go_wp2_with (first | fail)
  exact bodyPost_ret (v := .float .f64 18442240474082181119) (by simp [results, Tryz.results17, go_sem]) rfl ⟨rfl, kW⟩
set_option maxRecDepth 20000 in
set_option maxHeartbeats 1000000 in
theorem midH_ (a b LO HI : Nat) (hr : ∀ w : World, Calls Tryz.prog 16 #[.agg #[.float .f64 a, .float .f64 b]] w fun e w' => e = .returned (.agg #[.float .f64 LO, .float .f64 HI]) ∧ Kp w w') (hv : ∀ w : World, Calls Tryz.prog 18 #[.agg #[.float .f64 LO, .float .f64 HI]] w fun e w' => e = .returned (.bool false) ∧ Kp w w') (q1 : (FloatKind.f64.format.order LO 18442240474082181120 == some Ordering.eq) = false) (t1 : (FloatKind.f64.format.order LO 18442240474082181119 == some Ordering.lt) = false) (t2 : (FloatKind.f64.format.order HI 9218868437227405311 == some Ordering.gt) = true) (w : World) : Calls Tryz.prog 17 #[.agg #[.float .f64 a, .float .f64 b]] w fun e w' => e = .returned (.float .f64 9218868437227405311) ∧ Kp w w' := by
  have k0 := Fq.eqInM LO 18442240474082181120
  rw [q1] at k0
  go_enter Tryz.func17, Tryz.ntmps17
  go_wp2_with (first | (go_at_call 16; refine (hr _).mono ?_; rintro e w1 ⟨rfl, g1⟩; have q0 := Fq.H2.keep (Fq.H2.new w (.float .f64 a) (.float .f64 b) 29) g1; have kw : Kp w w1 := Kp.trans ((Kp.refl w).alloc _) g1; obtain ⟨x0, x1, x2, x3⟩ := id q0) | (go_at_call 18; refine (hv _).mono ?_; rintro e w2 ⟨rfl, g2⟩; have qx := Fq.H2.keep (Fq.H2.put q0 (.float .f64 LO) (.float .f64 HI)) g2; have kv : Kp w w2 := Kp.trans ((kw.setCell (Nat.le_refl _) _).setCell (Nat.le_refl _) _) g2; obtain ⟨u0, u1, u2, u3⟩ := id qx))
  have d0 : w2.drew.cell? ⟨w.heap.size, 0, none⟩ = some (.float .f64 LO) := u0
  have d1 : w2.drew.cell? ⟨w.heap.size, 1, none⟩ = some (.float .f64 HI) := u1
  refine Fq.wp_region_grow (by kernel_rfl) (by kernel_rfl) (fun ι _ G hG hall => ?_)
  have c0 : ∀ n, (G n).cell? ⟨w.heap.size, 0, none⟩ = some (.float .f64 LO) := fun n => Fq.gkeep (hG n) u0
  have c1 : ∀ n, (G n).cell? ⟨w.heap.size, 1, none⟩ = some (.float .f64 HI) := fun n => Fq.gkeep (hG n) u1
  have kG : ∀ n, Kp w (G n) := fun n => Kp.trans kv (hG n)
  repeat (go_big_quiet_step (first | (go_at_call 41; exact (Fq.entire6_ _).mono (fun e w' h => ⟨h.1, hall _ (by rw [h.2]; exact (hG _).alloc _ _)⟩))))
  refine wpQuiet_nil ?_
  rintro _ ⟨nq, rfl⟩
  have y0 := c0 nq
  have y1 := c1 nq
  have kW := kG nq
  clear c0 c1 kG hall
  generalize G nq = W at y0 y1 kW ⊢
  clear hG
  go_wp2_with (first | fail)
  exact bodyPost_ret (v := .float .f64 9218868437227405311) (by simp [results, Tryz.results17, go_sem]) rfl ⟨rfl, kW⟩
set_option maxRecDepth 20000 in
set_option maxHeartbeats 1000000 in
theorem midF_ (a b LO HI : Nat) (hr : ∀ w : World, Calls Tryz.prog 16 #[.agg #[.float .f64 a, .float .f64 b]] w fun e w' => e = .returned (.agg #[.float .f64 LO, .float .f64 HI]) ∧ Kp w w') (hv : ∀ w : World, Calls Tryz.prog 18 #[.agg #[.float .f64 LO, .float .f64 HI]] w fun e w' => e = .returned (.bool false) ∧ Kp w w') (q1 : (FloatKind.f64.format.order LO 18442240474082181120 == some Ordering.eq) = false) (t1 : (FloatKind.f64.format.order LO 18442240474082181119 == some Ordering.lt) = false) (t2 : (FloatKind.f64.format.order HI 9218868437227405311 == some Ordering.gt) = false) (G9 : Nat) (h1 : ∀ w : World, Calls Tryz.prog 42 #[.float .f64 LO, .float .f64 HI] w fun e w' => e = .returned (.float .f64 G9) ∧ Kp w w') (w : World) : Calls Tryz.prog 17 #[.agg #[.float .f64 a, .float .f64 b]] w fun e w' => e = .returned (.float .f64 G9) ∧ Kp w w' := by
  have k0 := Fq.eqInM LO 18442240474082181120
  rw [q1] at k0
  go_enter Tryz.func17, Tryz.ntmps17
  go_wp2_with (first | (go_at_call 16; refine (hr _).mono ?_; rintro e w1 ⟨rfl, g1⟩; have q0 := Fq.H2.keep (Fq.H2.new w (.float .f64 a) (.float .f64 b) 29) g1; have kw : Kp w w1 := Kp.trans ((Kp.refl w).alloc _) g1; obtain ⟨x0, x1, x2, x3⟩ := id q0) | (go_at_call 18; refine (hv _).mono ?_; rintro e w2 ⟨rfl, g2⟩; have qx := Fq.H2.keep (Fq.H2.put q0 (.float .f64 LO) (.float .f64 HI)) g2; have kv : Kp w w2 := Kp.trans ((kw.setCell (Nat.le_refl _) _).setCell (Nat.le_refl _) _) g2; obtain ⟨u0, u1, u2, u3⟩ := id qx))
  have d0 : w2.drew.cell? ⟨w.heap.size, 0, none⟩ = some (.float .f64 LO) := u0
  have d1 : w2.drew.cell? ⟨w.heap.size, 1, none⟩ = some (.float .f64 HI) := u1
  refine Fq.wp_region_grow (by kernel_rfl) (by kernel_rfl) (fun ι _ G hG hall => ?_)
  have c0 : ∀ n, (G n).cell? ⟨w.heap.size, 0, none⟩ = some (.float .f64 LO) := fun n => Fq.gkeep (hG n) u0
  have c1 : ∀ n, (G n).cell? ⟨w.heap.size, 1, none⟩ = some (.float .f64 HI) := fun n => Fq.gkeep (hG n) u1
  have kG : ∀ n, Kp w (G n) := fun n => Kp.trans kv (hG n)
  repeat (go_big_quiet_step (first | (go_at_call 41; exact (Fq.entire6_ _).mono (fun e w' h => ⟨h.1, hall _ (by rw [h.2]; exact (hG _).alloc _ _)⟩))))
  refine wpQuiet_nil ?_
  rintro _ ⟨nq, rfl⟩
  have y0 := c0 nq
  have y1 := c1 nq
  have kW := kG nq
  clear c0 c1 kG hall
  generalize G nq = W at y0 y1 kW ⊢
  clear hG
  go_wp2_with (first | (go_at_call 42; refine (h1 _).mono ?_; rintro e w7 ⟨rfl, g7⟩))
  exact bodyPost_ret (v := .float .f64 G9) (by simp [results, Tryz.results17, go_sem]) rfl ⟨rfl, Kp.trans kW g7⟩
end Go.Proofs.YtmcjjfkicpcfcaaGreatDoor
