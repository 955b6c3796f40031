import Derived.Test.YtgebabhfcgmjlaaGreatDoorProg
import Derived.Test.YtgebabhfcgmjlaaGreatDoorKXA0
import Derived.Test.YtgebabhfcgmjlaaGreatDoorKXM
import Derived.Test.YtgebabhfcgmjlaaGreatDoorKXY
import Derived.Test.YtgebabhfcgmjlaaGreatDoorKXQF
import Derived.Test.YtgebabhfcgmjlaaGreatDoorKQA
import Derived.Test.YtgebabhfcgmjlaaGreatDoorKQP
import Derived.Test.YtgebabhfcgmjlaaGreatDoorKXQU
import Derived.Test.YtgebabhfcgmjlaaGreatDoorKQB
import Derived.Test.YtgebabhfcgmjlaaGreatDoorKQBT
import Derived.Test.YtgebabhfcgmjlaaGreatDoorKQJd
import Derived.Test.YtgebabhfcgmjlaaGreatDoorKXEA
import Derived.Test.YtgebabhfcgmjlaaGreatDoorKXEE
import Derived.Test.YtgebabhfcgmjlaaGreatDoorKMR7Q
import Derived.Test.YtgebabhfcgmjlaaGreatDoorKXMR
import Derived.Test.YtgebabhfcgmjlaaGreatDoorKXM3
import Derived.Test.YtgebabhfcgmjlaaGreatDoorKXO
import Derived.Test.YtgebabhfcgmjlaaGreatDoorKXO3
import Derived.Test.YtgebabhfcgmjlaaGreatDoorKXH2Q
import Derived.Test.YtgebabhfcgmjlaaGreatDoorKXT
import Derived.Test.YtgebabhfcgmjlaaGreatDoorKHB
import Derived.Test.YtgebabhfcgmjlaaGreatDoorKLX
import Derived.Test.YtgebabhfcgmjlaaGreatDoorKRX
import Derived.Test.YtgebabhfcgmjlaaGreatDoorKXRL
import Derived.Test.YtgebabhfcgmjlaaGreatDoorKXCO
import Derived.Test.YtgebabhfcgmjlaaGreatDoorKLN
import Derived.Test.YtgebabhfcgmjlaaGreatDoorKXRN
import Derived.Test.YtgebabhfcgmjlaaGreatDoorKW4
import Derived.Test.YtgebabhfcgmjlaaGreatDoorKXBY
import Derived.Test.YtgebabhfcgmjlaaGreatDoorKXTZ
import Derived.Test.YtgebabhfcgmjlaaGreatDoorKXG1
import Derived.Test.YtgebabhfcgmjlaaGreatDoorKNSm
import Derived.Test.YtgebabhfcgmjlaaGreatDoorKXG4
import Derived.Test.YtgebabhfcgmjlaaGreatDoorKXS1
import Derived.Test.YtgebabhfcgmjlaaGreatDoorKXET
import Derived.Test.YtgebabhfcgmjlaaGreatDoorKXS4
import Derived.Test.YtgebabhfcgmjlaaGreatDoorKXS8
import Derived.WalkKit
import Derived.ProofKit
import Derived.RowKit3
import Derived.WalkSpells
import Derived.StillTactics
import Derived.Deep.QuietTactic
import Derived.BigQuiet
import Derived.Below
import Derived.Deep.OwnRows
import Derived.OwnWalk
import Derived.Laws.BitsAllLaws
import Derived.Laws.Slices
import Derived.Laws.Bits64b
import Derived.Laws.FloatArith
import Derived.Deep.RegionHeld3
namespace Go.Proofs.YtgebabhfcgmjlaaGreatDoor
open Go.RowKit
set_option maxRecDepth 20000 in
set_option maxHeartbeats 1000000 in
theorem in8_ (a b : Nat) (w : World) : Calls Tryz.prog 8 #[.agg #[.int .u64 ((a : Nat) : Int), .int .u64 ((b : Nat) : Int)]] w fun e w' => e = .returned (.agg #[.float .f64 a, .float .f64 b]) ∧ Kp w w' := by
  have h1 := Fq.ff64 a
  have h2 := Fq.ff64 b
  generalize (a : Int) = X at h1 ⊢
  generalize (b : Int) = Y at h2 ⊢
  go_enter Tryz.func8, Tryz.ntmps8
  go_wp2
  go_region_held3 (fun w' => w'.cell? ⟨w.heap.size, 0, none⟩ = some (.int .u64 X) ∧ w'.cell? ⟨w.heap.size, 1, none⟩ = some (.int .u64 Y)) (simp [go_sem]) (fail)
  go_wp2
  exact bodyPost_ret (v := .agg #[.float .f64 a, .float .f64 b]) (by simp [results, Tryz.results8, go_sem]) rfl ⟨rfl, (by repeat (with_reducible (first | assumption | exact Kp.refl _ | apply Kp.drew | apply Kp.alloc | apply Kp.drewN | (refine Kp.setCell ?_ (by first | omega | (simp <;> omega)) _) | (refine Kp.trans ?_ (by assumption)))))⟩
theorem snd_read8 (a b : Nat) (ha : a < 18446744073709551616) (hb : b < 18446744073709551616) (s1 : Fq.snd a b = true) : Fq.snd (Fq.rlo a b) (Fq.rhi a b) = true := by
  obtain ⟨n, m, hm, rfl⟩ := Fq.exD a ha
  obtain ⟨g, r, hr, rfl⟩ := Fq.exD b hb
  have e1 : Fq.rlo (Fq.wD n m) (Fq.wD g r) = Fq.wD (if n = true ∧ m = 0 then false else n) m := by
    simp only [Fq.rlo, s1, if_true]
    unfold Fq.pla Fq.wD
    cases n <;> by_cases z : m = 0 <;> simp [z] <;> omega
  have e2 : Fq.rhi (Fq.wD n m) (Fq.wD g r) = Fq.wD (if g = true ∧ r = 0 then false else g) r := by
    simp only [Fq.rhi, s1, if_true]
    unfold Fq.pla Fq.wD
    cases g <;> by_cases z : r = 0 <;> simp [z] <;> omega
  rw [e1, e2, Fq.snd_w _ _ _ _ hm hr]
  rw [Fq.snd_w _ _ _ _ hm hr] at s1
  have h := of_decide_eq_true s1
  apply decide_eq_true
  have p1 : Fq.plz (if n = true ∧ m = 0 then false else n) m = Fq.plz n m := by
    unfold Fq.plz; cases n <;> by_cases z : m = 0 <;> simp [z]
  have p2 : Fq.plz (if g = true ∧ r = 0 then false else g) r = Fq.plz g r := by
    unfold Fq.plz; cases g <;> by_cases z : r = 0 <;> simp [z]
  rw [p1, p2]
  refine ⟨h.1, h.2.1, h.2.2.1, ?_, ?_⟩
  · rintro ⟨h1, h2⟩
    rw [if_neg (by omega)] at h1
    exact h.2.2.2.1 ⟨h1, h2⟩
  · rintro ⟨h1, h2⟩
    rw [if_neg (by omega)] at h1
    exact h.2.2.2.2 ⟨h1, h2⟩
theorem pla_pla8 (x : Nat) : Fq.pla (Fq.pla x) = Fq.pla x := by unfold Fq.pla; split <;> simp_all
theorem rlo_read8 (a b : Nat) (ha : a < 18446744073709551616) (hb : b < 18446744073709551616) (s1 : Fq.snd a b = true) : Fq.rlo (Fq.rlo a b) (Fq.rhi a b) = Fq.rlo a b := by
  have h := snd_read8 a b ha hb s1
  rw [Fq.rlo, if_pos h]
  simp only [Fq.rlo, s1, if_true, pla_pla8]
theorem rhi_read8 (a b : Nat) (ha : a < 18446744073709551616) (hb : b < 18446744073709551616) (s1 : Fq.snd a b = true) : Fq.rhi (Fq.rlo a b) (Fq.rhi a b) = Fq.rhi a b := by
  have h := snd_read8 a b ha hb s1
  rw [Fq.rhi, if_pos h]
  simp only [Fq.rhi, s1, if_true, pla_pla8]
namespace Fq
theorem eqInM (a c : Nat) (w : World) : (Op.equalIn 9999 25 (.float .f64 a) (.float .f64 c)).run Tryz.prog w = .ok (FloatKind.f64.format.order a c == some Ordering.eq) w := by kernel_rfl
set_option maxRecDepth 20000 in
set_option maxHeartbeats 1000000 in
theorem voidM_ (a b : Nat) (ha : a < 18446744073709551616) (hb : b < 18446744073709551616) (w : World) : Calls Tryz.prog 14 #[.agg #[.float .f64 a, .float .f64 b]] w fun e w' => e = .returned (.bool (decide (a = 9218868437227405312 ∧ b = 18442240474082181120))) ∧ Grown w w' := by
  have t2 := feqI a ha
  have t3 := feqM b hb
  have e1 : (decide (a = 9218868437227405312 ∧ b = 18442240474082181120)) = ((FloatKind.f64.format.order a 9218868437227405312 == some Ordering.eq) && (FloatKind.f64.format.order b 18442240474082181120 == some Ordering.eq)) := by
    rw [t2, t3]; by_cases c1 : a = 9218868437227405312 <;> by_cases c2 : b = 18442240474082181120 <;> simp [c1, c2]
  rw [e1]
  clear e1 t2 t3 ha hb
  have h0 := eqInM a 9218868437227405312
  have h1 := eqInM b 18442240474082181120
  generalize g1 : (FloatKind.f64.format.order a 9218868437227405312 == some Ordering.eq) = B1 at h0 ⊢
  generalize g2 : (FloatKind.f64.format.order b 18442240474082181120 == some Ordering.eq) = B2 at h1 ⊢
  cases B1 <;> cases B2
  · go_enter Tryz.func14, Tryz.ntmps14
    go_wp2
    go_region_held3 (fun w' => w'.cell? ⟨w.heap.size, 0, none⟩ = some (.float .f64 a) ∧ w'.cell? ⟨w.heap.size, 1, none⟩ = some (.float .f64 b)) (simp [go_sem, World.cell?_alloc_past]) (first | (go_at_call 28; refine (empty6_ _).mono ?_; rintro e w' ⟨rfl, rfl⟩))
    go_wp2
    exact bodyPost_ret (v := .bool false) (by simp [results, Tryz.results14, go_sem] <;> simp only [*]) rfl ⟨rfl, (by repeat (with_reducible (first | assumption | exact Grown.refl _ | apply Grown.drew | apply Grown.alloc | apply gdrewN | (refine Grown.setCell ?_ (by simp <;> omega) _) | (refine gtrans ?_ (by assumption)))))⟩
  · go_enter Tryz.func14, Tryz.ntmps14
    go_wp2
    go_region_held3 (fun w' => w'.cell? ⟨w.heap.size, 0, none⟩ = some (.float .f64 a) ∧ w'.cell? ⟨w.heap.size, 1, none⟩ = some (.float .f64 b)) (simp [go_sem, World.cell?_alloc_past]) (first | (go_at_call 28; refine (empty6_ _).mono ?_; rintro e w' ⟨rfl, rfl⟩))
    go_wp2
    exact bodyPost_ret (v := .bool false) (by simp [results, Tryz.results14, go_sem] <;> simp only [*]) rfl ⟨rfl, (by repeat (with_reducible (first | assumption | exact Grown.refl _ | apply Grown.drew | apply Grown.alloc | apply gdrewN | (refine Grown.setCell ?_ (by simp <;> omega) _) | (refine gtrans ?_ (by assumption)))))⟩
  · go_enter Tryz.func14, Tryz.ntmps14
    go_wp2
    go_region_held3 (fun w' => w'.cell? ⟨w.heap.size, 0, none⟩ = some (.float .f64 a) ∧ w'.cell? ⟨w.heap.size, 1, none⟩ = some (.float .f64 b)) (simp [go_sem, World.cell?_alloc_past]) (first | (go_at_call 28; refine (empty6_ _).mono ?_; rintro e w' ⟨rfl, rfl⟩))
    go_wp2
    exact bodyPost_ret (v := .bool false) (by simp [results, Tryz.results14, go_sem] <;> simp only [*]) rfl ⟨rfl, (by repeat (with_reducible (first | assumption | exact Grown.refl _ | apply Grown.drew | apply Grown.alloc | apply gdrewN | (refine Grown.setCell ?_ (by simp <;> omega) _) | (refine gtrans ?_ (by assumption)))))⟩
  · go_enter Tryz.func14, Tryz.ntmps14
    go_wp2
    go_region_held3 (fun w' => w'.cell? ⟨w.heap.size, 0, none⟩ = some (.float .f64 a) ∧ w'.cell? ⟨w.heap.size, 1, none⟩ = some (.float .f64 b)) (simp [go_sem, World.cell?_alloc_past]) (first | (go_at_call 28; refine (empty6_ _).mono ?_; rintro e w' ⟨rfl, rfl⟩))
    go_wp2
    exact bodyPost_ret (v := .bool true) (by simp [results, Tryz.results14, go_sem] <;> simp only [*]) rfl ⟨rfl, (by repeat (with_reducible (first | assumption | exact Grown.refl _ | apply Grown.drew | apply Grown.alloc | apply gdrewN | (refine Grown.setCell ?_ (by simp <;> omega) _) | (refine gtrans ?_ (by assumption)))))⟩
end Fq

theorem iv_lt8 (n n' : Bool) (m m' : Nat) : Iv n m < Iv n' m' ↔ Fq.plz n m < Fq.plz n' m' := by
  have h1 := Fq.vV_lt_iff Ieee.double m m'
  have h2 := Fq.vV_lt_iff Ieee.double m' m
  have h3 := vV_zero_iff m
  have h4 := vV_zero_iff m'
  unfold Iv Fq.plz
  cases n <;> cases n' <;> simp <;> omega
open Ieee in
theorem fgt8 (n n' : Bool) (m m' : Nat) (h : m < 9223372036854775808) (h' : m' < 9223372036854775808) : (FloatKind.f64.format.order (Fq.wD n m) (Fq.wD n' m') == some Ordering.gt) = decide (m ≤ 9218868437227405312 ∧ m' ≤ 9218868437227405312 ∧ Fq.plz n' m' < Fq.plz n m) := by
  by_cases c : 9218868437227405312 < m
  · rw [Fq.ordD_nanl n m _ c h, decide_eq_false (by omega)]; rfl
  by_cases c' : 9218868437227405312 < m'
  · rw [Fq.ordD_nanr n' m' _ c' h', decide_eq_false (by omega)]; rfl
  rw [Fq.ordD n n' m m' (by omega) (by omega)]
  rcases Int.lt_trichotomy (Fq.plz n m) (Fq.plz n' m') with g | g | g
  · rw [Fq.cmp_lt g, decide_eq_false (by omega)]; rfl
  · rw [Fq.cmp_eq g, decide_eq_false (by omega)]; rfl
  · rw [Fq.cmp_gt g, decide_eq_true ⟨by omega, by omega, by omega⟩]; rfl
theorem flip8 (n : Bool) (m : Nat) (hm : m < 9223372036854775808) : Fq.wD n m ^^^ 9223372036854775808 = Fq.wD (!n) m := by
  obtain ⟨x, hx⟩ : ∃ x, x = Fq.wD n m := ⟨_, rfl⟩
  have h1 : (x ^^^ 9223372036854775808) % 2 ^ 63 = x % 2 ^ 63 := by
    rw [Nat.xor_mod_two_pow, show (9223372036854775808 : Nat) % 2 ^ 63 = 0 from by decide, Nat.xor_zero]
  have h2 : (x ^^^ 9223372036854775808) / 2 ^ 63 = x / 2 ^ 63 ^^^ 1 := by
    rw [← Nat.shiftRight_eq_div_pow, ← Nat.shiftRight_eq_div_pow, Nat.shiftRight_xor_distrib, show (9223372036854775808 : Nat) >>> 63 = 1 from by decide]
  rw [show (2 : Nat) ^ 63 = 9223372036854775808 from by decide] at h1 h2
  rw [← hx]
  generalize hz : x ^^^ 9223372036854775808 = z at h1 h2 ⊢
  clear hz
  cases n
  · have e : x = m := by rw [hx]; unfold Fq.wD; simp
    rw [e, Nat.div_eq_of_lt hm, show (0 : Nat) ^^^ 1 = 1 from by decide] at h2
    rw [e, Nat.mod_eq_of_lt hm] at h1
    unfold Fq.wD
    simp
    omega
  · have e : x = 9223372036854775808 + m := by rw [hx]; unfold Fq.wD; simp
    have e2 : x / 9223372036854775808 = 1 := by omega
    have e3 : x % 9223372036854775808 = m := by omega
    rw [e2, show (1 : Nat) ^^^ 1 = 0 from by decide] at h2
    rw [e3] at h1
    unfold Fq.wD
    simp
    omega
theorem negW8 (n : Bool) (m : Nat) (hm : m < 9223372036854775808) (w : World) : (Op.unary .neg (.float .f64 (Fq.wD n m))).run Tryz.prog w = .ok (.float .f64 (Fq.wD (!n) m)) w := by
  have h : Op.negFloat .f64 (Fq.wD n m) = Fq.wD (!n) m := by
    unfold Op.negFloat
    exact flip8 n m hm
  rw [← h]; rfl
set_option maxRecDepth 20000 in
set_option maxHeartbeats 400000 in
theorem nan8_ (w : World) : Calls Tryz.prog 15 #[] w fun e w' => e = .returned (.float .f64 9221120237041090561) ∧ Kp w w' := by
  have h1 : ∀ w : World, (callFunc 25 #[.int .u64 9221120237041090561]).run Tryz.prog w = .ok (.value (.float .f64 9221120237041090561)) w := Fq.ff64 9221120237041090561
  go_enter Tryz.func15, Tryz.ntmps15
  go_wp2
  exact bodyPost_ret (v := .float .f64 9221120237041090561) (by simp [results, Tryz.results15, go_sem]) rfl ⟨rfl, (by repeat (with_reducible (first | assumption | exact Kp.refl _ | apply Kp.drew | apply Kp.alloc | apply Kp.drewN | (refine Kp.setCell ?_ (by first | omega | (simp <;> omega)) _) | (refine Kp.trans ?_ (by assumption)))))⟩
set_option maxRecDepth 20000 in
set_option maxHeartbeats 400000 in
theorem greater8t_ (X Y : Nat) (t : (FloatKind.f64.format.order X Y == some Ordering.gt) = true) (w : World) : Calls Tryz.prog 23 #[.float .f64 X, .float .f64 Y] w fun e w' => e = .returned (.float .f64 X) ∧ w' = w := by
  go_enter Tryz.func23, Tryz.ntmps23
  go_wp2
  exact bodyPost_ret (v := .float .f64 X) (by simp [results, Tryz.results23, go_sem]) rfl ⟨rfl, rfl⟩
set_option maxRecDepth 20000 in
set_option maxHeartbeats 400000 in
theorem greater8f_ (X Y : Nat) (t : (FloatKind.f64.format.order X Y == some Ordering.gt) = false) (w : World) : Calls Tryz.prog 23 #[.float .f64 X, .float .f64 Y] w fun e w' => e = .returned (.float .f64 Y) ∧ w' = w := by
  go_enter Tryz.func23, Tryz.ntmps23
  go_wp2
  exact bodyPost_ret (v := .float .f64 Y) (by simp [results, Tryz.results23, go_sem]) rfl ⟨rfl, rfl⟩
theorem greater8_ (m m' : Nat) (h : m ≤ 9218868437227405312) (h' : m' ≤ 9218868437227405312) (w : World) : Calls Tryz.prog 23 #[.float .f64 m, .float .f64 m'] w fun e w' => e = .returned (.float .f64 (if m' < m then m else m')) ∧ w' = w := by
  have t := fgt8 false false m m' (by omega) (by omega)
  rw [show Fq.wD false m = m from rfl, show Fq.wD false m' = m' from rfl] at t
  by_cases c : m' < m
  · rw [if_pos c]
    exact greater8t_ m m' (by rw [t]; exact decide_eq_true ⟨h, h', by unfold Fq.plz; simp; omega⟩) w
  · rw [if_neg c]
    exact greater8f_ m m' (by rw [t]; exact decide_eq_false (fun x => c (by have := x.2.2; unfold Fq.plz at this; simp at this; omega))) w
theorem void8_ (a b : Nat) (ha : a < 18446744073709551616) (hb : b < 18446744073709551616) (V : Bool) (hs : Fq.snd a b = !V) (w : World) : Calls Tryz.prog 14 #[.agg #[.float .f64 (Fq.rlo a b), .float .f64 (Fq.rhi a b)]] w fun e w' => e = .returned (.bool V) ∧ Kp w w' := by
  have h := Fq.voidM_ (Fq.rlo a b) (Fq.rhi a b) (Fq.rlo_lt a b ha) (Fq.rhi_lt a b hb) w
  rw [Fq.void_read, hs, Bool.not_not] at h
  exact h
set_option maxRecDepth 20000 in
set_option maxHeartbeats 400000 in
theorem psubA_ (X Y V R : Nat) (d : Int) (h2 : ∀ w : World, (Op.unary .neg (.float .f64 Y)).run Tryz.prog w = .ok (.float .f64 V) w) (w : World) (h1 : Calls Tryz.prog 46 #[.int .i64 d, .float .f64 X, .float .f64 V] w fun e w' => e = .returned (.float .f64 R) ∧ Kp w w') : Calls Tryz.prog 39 #[.int .i64 d, .float .f64 X, .float .f64 Y] w fun e w' => e = .returned (.float .f64 R) ∧ Kp w w' := by
  go_enter Tryz.func39, Tryz.ntmps39
  go_wp2_with (first | (go_at_call 46; refine h1.mono ?_; rintro e w1 ⟨rfl, g1⟩))
  exact bodyPost_ret (v := .float .f64 R) (by simp [results, Tryz.results39, go_sem]) rfl ⟨rfl, g1⟩
set_option maxRecDepth 20000 in
set_option maxHeartbeats 400000 in
theorem apL_ (X Y R : Nat) (t1 : (FloatKind.f64.format.order X Y == some Ordering.lt) = true) (w : World) (h1 : Calls Tryz.prog 39 #[.int .i64 1, .float .f64 Y, .float .f64 X] w fun e w' => e = .returned (.float .f64 R) ∧ Kp w w') : Calls Tryz.prog 24 #[.float .f64 X, .float .f64 Y] w fun e w' => e = .returned (.float .f64 R) ∧ Kp w w' := by
  go_enter Tryz.func24, Tryz.ntmps24
  go_wp2_with (first | (go_at_call 39; refine h1.mono ?_; rintro e w1 ⟨rfl, g1⟩))
  exact bodyPost_ret (v := .float .f64 R) (by simp [results, Tryz.results24, go_sem]) rfl ⟨rfl, g1⟩
set_option maxRecDepth 20000 in
set_option maxHeartbeats 400000 in
theorem apG_ (X Y R : Nat) (t1 : (FloatKind.f64.format.order X Y == some Ordering.lt) = false) (t2 : (FloatKind.f64.format.order X Y == some Ordering.gt) = true) (w : World) (h1 : Calls Tryz.prog 39 #[.int .i64 1, .float .f64 X, .float .f64 Y] w fun e w' => e = .returned (.float .f64 R) ∧ Kp w w') : Calls Tryz.prog 24 #[.float .f64 X, .float .f64 Y] w fun e w' => e = .returned (.float .f64 R) ∧ Kp w w' := by
  go_enter Tryz.func24, Tryz.ntmps24
  go_wp2_with (first | (go_at_call 39; refine h1.mono ?_; rintro e w1 ⟨rfl, g1⟩))
  exact bodyPost_ret (v := .float .f64 R) (by simp [results, Tryz.results24, go_sem]) rfl ⟨rfl, g1⟩
set_option maxRecDepth 20000 in
set_option maxHeartbeats 400000 in
theorem apE_ (X Y : Nat) (t1 : (FloatKind.f64.format.order X Y == some Ordering.lt) = false) (t2 : (FloatKind.f64.format.order X Y == some Ordering.gt) = false) (w : World) : Calls Tryz.prog 24 #[.float .f64 X, .float .f64 Y] w fun e w' => e = .returned (.float .f64 0) ∧ Kp w w' := by
  go_enter Tryz.func24, Tryz.ntmps24
  go_wp2
  exact bodyPost_ret (v := .float .f64 0) (by simp [results, Tryz.results24, go_sem]) rfl ⟨rfl, (by repeat (with_reducible (first | assumption | exact Kp.refl _ | apply Kp.drew | apply Kp.alloc | apply Kp.drewN | (refine Kp.setCell ?_ (by first | omega | (simp <;> omega)) _) | (refine Kp.trans ?_ (by assumption)))))⟩
/-- how far two ends lie apart, rounded up -/
def apW (n : Bool) (m : Nat) (n' : Bool) (m' : Nat) : Nat := if Fq.plz n m = Fq.plz n' m' then 0 else if m = 9218868437227405312 ∨ m' = 9218868437227405312 then 9218868437227405312 else sumW 1 (if Fq.plz n m < Fq.plz n' m' then Iv n' m' - Iv n m else Iv n m - Iv n' m')
theorem fin_le8 (d : Int) (U : Nat) : finU 53 2098 9218868437227405311 9218868437227405312 d U ≤ 9218868437227405312 := by
  unfold finU
  split
  · next h =>
    unfold rgU
    by_cases c : U = 0
    · rw [c, blen_zero]; simp
    · obtain ⟨h1, h2, h3⟩ := blen_spec U c
      have h4 : U / 2 ^ (blen U - 53) < 9007199254740992 := by
        have := blen_shr U (blen U - 53)
        have h5 : blen (U / 2 ^ (blen U - 53)) ≤ 53 := by omega
        rw [blen_le_iff, show (2 : Nat) ^ 53 = 9007199254740992 from by decide] at h5
        exact h5
      rw [show (2 : Nat) ^ (53 - 1) = 4503599627370496 from by decide]
      omega
  · split <;> omega
theorem sumW_le8 (d V : Int) (h : 0 ≤ V) : sumW d V ≤ 9218868437227405312 := by
  unfold sumW
  by_cases c : V = 0
  · rw [if_pos c]; omega
  · rw [if_neg c, decide_eq_false (by omega)]
    unfold mdW
    split
    · omega
    · rw [if_neg (by decide)]
      exact fin_le8 _ _
theorem apW_le (n n' : Bool) (m m' : Nat) : apW n m n' m' ≤ 9218868437227405312 := by
  unfold apW
  by_cases c1 : Fq.plz n m = Fq.plz n' m'
  · rw [if_pos c1]; omega
  · rw [if_neg c1]
    by_cases c2 : m = 9218868437227405312 ∨ m' = 9218868437227405312
    · rw [if_pos c2]; omega
    · rw [if_neg c2]
      apply sumW_le8
      by_cases c3 : Fq.plz n m < Fq.plz n' m'
      · rw [if_pos c3]; have := (iv_lt8 n n' m m').2 c3; omega
      · rw [if_neg c3]; have := (iv_lt8 n' n m' m).2 (by omega); omega
theorem psub8_ (n n' : Bool) (m m' : Nat) (hm : m ≤ 9218868437227405312) (hm' : m' ≤ 9218868437227405312) (hlt : Fq.plz n' m' < Fq.plz n m) (w : World) (hT : Tab w) (hQ : Fq.Tab w) : Calls Tryz.prog 39 #[.int .i64 1, .float .f64 (Fq.wD n m), .float .f64 (Fq.wD n' m')] w fun e w' => e = .returned (.float .f64 (if m = 9218868437227405312 ∨ m' = 9218868437227405312 then 9218868437227405312 else sumW 1 (Iv n m - Iv n' m'))) ∧ Kp w w' := by
  have P1 : Fq.plz n m = if n then -(m : Int) else m := by unfold Fq.plz; cases n <;> rfl
  have P2 : Fq.plz n' m' = if n' then -(m' : Int) else m' := by unfold Fq.plz; cases n' <;> rfl
  by_cases c : m = 9218868437227405312 ∨ m' = 9218868437227405312
  · rw [if_pos c]
    have i1 : m = 9218868437227405312 → n = false := fun h => by
      cases n
      · rfl
      · rw [P1, P2, h] at hlt; cases n' <;> simp at hlt <;> omega
    have i2 : m' = 9218868437227405312 → n' = true := fun h => by
      cases n'
      · rw [P1, P2, h] at hlt; cases n <;> simp at hlt <;> omega
      · rfl
    have h := paddI_ 1 n (!n') m m' (by omega) (by omega) (by omega) (fun h => by
      rcases h with h | h | h
      · omega
      · omega
      · exact h.2.2 (by rw [i1 h.1, i2 h.2.1]; rfl)) w
    have e : Fq.wD (if m = 9218868437227405312 then n else !n') 9218868437227405312 = 9218868437227405312 := by
      by_cases c1 : m = 9218868437227405312
      · rw [if_pos c1, i1 c1]; rfl
      · rw [if_neg c1, i2 (by omega)]; rfl
    rw [e] at h
    exact psubA_ _ _ _ _ 1 (negW8 n' m' (by omega)) w h
  · rw [if_neg c, show Iv n m - Iv n' m' = Iv n m + Iv (!n') m' from by rw [iv_not]; omega]
    exact psubA_ _ _ _ _ 1 (negW8 n' m' (by omega)) w (paddF_ 1 n (!n') m m' (by omega) (by omega) w hT hQ (by decide) (by decide))
theorem apart8_ (n n' : Bool) (m m' : Nat) (hm : m ≤ 9218868437227405312) (hm' : m' ≤ 9218868437227405312) (w : World) (hT : Tab w) (hQ : Fq.Tab w) : Calls Tryz.prog 24 #[.float .f64 (Fq.wD n m), .float .f64 (Fq.wD n' m')] w fun e w' => e = .returned (.float .f64 (apW n m n' m')) ∧ Kp w w' := by
  have f1 := Fq.flt n n' m m' (by omega) (by omega)
  have f2 := fgt8 n n' m m' (by omega) (by omega)
  unfold apW
  rcases Int.lt_trichotomy (Fq.plz n m) (Fq.plz n' m') with g | g | g
  · rw [decide_eq_true ⟨hm, hm', g⟩] at f1
    rw [if_neg (by omega), if_pos g]
    have h := psub8_ n' n m' m hm' hm g w hT hQ
    have e9 : (if m' = 9218868437227405312 ∨ m = 9218868437227405312 then 9218868437227405312 else sumW 1 (Iv n' m' - Iv n m)) = (if m = 9218868437227405312 ∨ m' = 9218868437227405312 then 9218868437227405312 else sumW 1 (Iv n' m' - Iv n m)) := by
      by_cases c : m = 9218868437227405312 ∨ m' = 9218868437227405312
      · rw [if_pos c, if_pos c.symm]
      · rw [if_neg c, if_neg (fun h => c h.symm)]
    rw [e9] at h
    exact apL_ _ _ _ f1 w h
  · rw [decide_eq_false (by omega)] at f1 f2
    rw [if_pos g]
    exact apE_ _ _ f1 f2 w
  · rw [decide_eq_false (by omega)] at f1
    rw [decide_eq_true ⟨hm, hm', g⟩] at f2
    rw [if_neg (show ¬ Fq.plz n m = Fq.plz n' m' by omega), if_neg (show ¬ Fq.plz n m < Fq.plz n' m' by omega)]
    exact apG_ _ _ _ f1 f2 w (psub8_ n n' m m' hm hm' g w hT hQ)
set_option maxRecDepth 20000 in
set_option maxHeartbeats 1000000 in
theorem widN_ (a b LO HI : Nat) (hr : ∀ w : World, Calls Tryz.prog 13 #[.agg #[.float .f64 a, .float .f64 b]] w fun e w' => e = .returned (.agg #[.float .f64 LO, .float .f64 HI]) ∧ Kp w w') (hv : ∀ w : World, Calls Tryz.prog 14 #[.agg #[.float .f64 LO, .float .f64 HI]] w fun e w' => e = .returned (.bool true) ∧ Kp w w') (w : World) : Calls Tryz.prog 10 #[.agg #[.float .f64 a, .float .f64 b]] w fun e w' => e = .returned (.float .f64 9221120237041090561) ∧ Kp w w' := by
  go_enter Tryz.func10, Tryz.ntmps10
  go_wp2_with (first | (go_at_call 13; refine (hr _).mono ?_; rintro e w1 ⟨rfl, g1⟩; have q0 := Fq.H2.keep (Fq.H2.new w (.float .f64 a) (.float .f64 b) 28) g1; have kw : Kp w w1 := Kp.trans ((Kp.refl w).alloc _) g1; obtain ⟨x0, x1, x2, x3⟩ := id q0) | (go_at_call 14; refine (hv _).mono ?_; rintro e w2 ⟨rfl, g2⟩; have qx := Fq.H2.keep (Fq.H2.put q0 (.float .f64 LO) (.float .f64 HI)) g2; have kv : Kp w w2 := Kp.trans ((kw.setCell (Nat.le_refl _) _).setCell (Nat.le_refl _) _) g2; obtain ⟨u0, u1, u2, u3⟩ := id qx) | (go_at_call 15; refine (nan8_ _).mono ?_; rintro e w3 ⟨rfl, g3⟩; have kn : Kp w w3 := Kp.trans kv g3))
  exact bodyPost_ret (v := .float .f64 9221120237041090561) (by simp [results, Tryz.results10, go_sem]) rfl ⟨rfl, kn⟩
set_option maxRecDepth 20000 in
set_option maxHeartbeats 1000000 in
theorem widS_ (a b LO HI : Nat) (hr : ∀ w : World, Calls Tryz.prog 13 #[.agg #[.float .f64 a, .float .f64 b]] w fun e w' => e = .returned (.agg #[.float .f64 LO, .float .f64 HI]) ∧ Kp w w') (hv : ∀ w : World, Calls Tryz.prog 14 #[.agg #[.float .f64 LO, .float .f64 HI]] w fun e w' => e = .returned (.bool false) ∧ Kp w w') (G9 : Nat) (w : World) (h1 : ∀ W : World, Kp w W → Calls Tryz.prog 24 #[.float .f64 LO, .float .f64 HI] W fun e w' => e = .returned (.float .f64 G9) ∧ Kp W w') : Calls Tryz.prog 10 #[.agg #[.float .f64 a, .float .f64 b]] w fun e w' => e = .returned (.float .f64 G9) ∧ Kp w w' := by
  go_enter Tryz.func10, Tryz.ntmps10
  go_wp2_with (first | (go_at_call 13; refine (hr _).mono ?_; rintro e w1 ⟨rfl, g1⟩; have q0 := Fq.H2.keep (Fq.H2.new w (.float .f64 a) (.float .f64 b) 28) g1; have kw : Kp w w1 := Kp.trans ((Kp.refl w).alloc _) g1; obtain ⟨x0, x1, x2, x3⟩ := id q0) | (go_at_call 14; refine (hv _).mono ?_; rintro e w2 ⟨rfl, g2⟩; have qx := Fq.H2.keep (Fq.H2.put q0 (.float .f64 LO) (.float .f64 HI)) g2; have kv : Kp w w2 := Kp.trans ((kw.setCell (Nat.le_refl _) _).setCell (Nat.le_refl _) _) g2; obtain ⟨u0, u1, u2, u3⟩ := id qx) | (go_at_call 24; refine (h1 _ kv).mono ?_; rintro e w3 ⟨rfl, g3⟩; have k3 : Kp w w3 := Kp.trans kv g3))
  exact bodyPost_ret (v := .float .f64 G9) (by simp [results, Tryz.results10, go_sem]) rfl ⟨rfl, k3⟩
theorem rlo_inf (a b : Nat) (hs : Fq.snd a b = true) (n : Bool) (m : Nat) (e1 : Fq.rlo a b = Fq.wD n m) (c : m = 9218868437227405312) : n = true := by
  have h2 : a ≠ 9218868437227405312 := by intro h; rw [h] at hs; simp [Fq.snd] at hs
  have h1 : Fq.rlo a b ≠ 9218868437227405312 := by simp only [Fq.rlo, hs, if_true, Fq.pla]; split <;> omega
  rw [e1, c] at h1
  cases n
  · exact absurd rfl h1
  · rfl
theorem rhi_inf (a b : Nat) (hs : Fq.snd a b = true) (n : Bool) (m : Nat) (e1 : Fq.rhi a b = Fq.wD n m) (c : m = 9218868437227405312) : n = false := by
  have h2 : b ≠ 18442240474082181120 := by intro h; rw [h] at hs; simp [Fq.snd] at hs
  have h1 : Fq.rhi a b ≠ 18442240474082181120 := by simp only [Fq.rhi, hs, if_true, Fq.pla]; split <;> omega
  rw [e1, c] at h1
  cases n
  · rfl
  · exact absurd rfl h1
theorem wD_inj6 (n n' : Bool) (m m' : Nat) (h : m < 9223372036854775808) (h' : m' < 9223372036854775808) (e : Fq.wD n m = Fq.wD n' m') : n = n' ∧ m = m' := by
  unfold Fq.wD at e
  cases n <;> cases n' <;> simp at e ⊢ <;> omega
theorem pla_ne (x : Nat) : Fq.pla x ≠ 9223372036854775808 := by unfold Fq.pla; split <;> omega
theorem rlo_ne (a b : Nat) : Fq.rlo a b ≠ 9223372036854775808 := by
  unfold Fq.rlo
  split
  · exact pla_ne a
  · decide
theorem rhi_ne (a b : Nat) : Fq.rhi a b ≠ 9223372036854775808 := by
  unfold Fq.rhi
  split
  · exact pla_ne b
  · decide

theorem lo_inf8 (a b : Nat) (s1 : Fq.snd a b = true) (n : Bool) (m : Nat) (l1 : m ≤ 9218868437227405312) (e1 : Fq.rlo a b = Fq.wD n m) : ((((Fq.wD n m : Nat) : Int)) == 9218868437227405312) = false := by
  have i1 := rlo_inf a b s1 n m e1
  have h2 : Fq.wD n m ≠ 9218868437227405312 := by
    intro h
    have hh := wD_inj6 n false m 9218868437227405312 (by omega) (by decide) (h.trans rfl)
    have := i1 hh.2
    rw [hh.1] at this; cases this
  simp; omega
theorem rread8 (a b : Nat) (ha : a < 18446744073709551616) (hb : b < 18446744073709551616) (w : World) : Calls Tryz.prog 5 #[.agg #[.int .u64 ((a : Nat) : Int), .int .u64 ((b : Nat) : Int)]] w fun e w' => e = .returned (.agg #[.int .u64 ((Fq.rlo a b : Nat) : Int), .int .u64 ((Fq.rhi a b : Nat) : Int)]) ∧ Kp w w' := by
  obtain ⟨n, m, hm, rfl⟩ := Fq.exD a ha
  obtain ⟨n', m', hm', rfl⟩ := Fq.exD b hb
  exact Fq.rread_ n n' m m' hm hm' w
theorem rempty8 (a b : Nat) (s1 : Fq.snd a b = false) : Fq.rlo a b = 9218868437227405312 ∧ Fq.rhi a b = 18442240474082181120 := by
  constructor
  · rw [Fq.rlo, if_neg (by rw [s1]; decide)]
  · rw [Fq.rhi, if_neg (by rw [s1]; decide)]
theorem le_read8 (a b : Nat) (ha : a < 18446744073709551616) (hb : b < 18446744073709551616) (s1 : Fq.snd a b = true) (n g : Bool) (m r : Nat) (l1 : m ≤ 9218868437227405312) (l2 : r ≤ 9218868437227405312) (e1 : Fq.rlo a b = Fq.wD n m) (e2 : Fq.rhi a b = Fq.wD g r) : Fq.plz n m ≤ Fq.plz g r := by
  have h := snd_read8 a b ha hb s1
  rw [e1, e2, Fq.snd_w n g m r (by omega) (by omega)] at h
  exact (of_decide_eq_true h).2.2.1
set_option maxRecDepth 20000 in
set_option maxHeartbeats 400000 in
theorem isInfA_ (X R : Nat) (V : Bool) (h1 : ∀ w : World, Calls Tryz.prog 26 #[.float .f64 X] w fun e w' => e = .returned (.float .f64 R) ∧ w' = w) (t : (FloatKind.f64.format.order R 9218868437227405311 == some Ordering.gt) = V) (w : World) : Calls Tryz.prog 30 #[.float .f64 X, .int .i64 0] w fun e w' => e = .returned (.bool V) ∧ w' = w := by
  go_enter Tryz.func30, Tryz.ntmps30
  go_wp2_with (first | (go_at_call 26; refine (h1 _).mono ?_; rintro e w' ⟨rfl, hw'⟩; obtain rfl := hw'.symm; clear hw'))
  exact bodyPost_ret (v := .bool V) (by simp [results, Tryz.results30, go_sem] <;> simpa using t) rfl ⟨rfl, rfl⟩
theorem isInf8_ (n : Bool) (m : Nat) (hm : m ≤ 9218868437227405312) (w : World) : Calls Tryz.prog 30 #[.float .f64 (Fq.wD n m), .int .i64 0] w fun e w' => e = .returned (.bool (decide (m = 9218868437227405312))) ∧ w' = w := by
  have t := fgt8 false false m 9218868437227405311 (by omega) (by decide)
  rw [show Fq.wD false m = m from rfl, show Fq.wD false 9218868437227405311 = 9218868437227405311 from rfl, show decide (m ≤ 9218868437227405312 ∧ 9218868437227405311 ≤ 9218868437227405312 ∧ Fq.plz false 9218868437227405311 < Fq.plz false m) = decide (m = 9218868437227405312) from by congr 1; apply propext; unfold Fq.plz; simp; omega] at t
  exact isInfA_ _ m _ (abs_ n m (by omega)) t w
set_option maxRecDepth 20000 in
set_option maxHeartbeats 400000 in
theorem halfQ_ (X Y S H R : Nat) (h1 : ∀ w : World, (binOp .add 25 (.float .f64 X) (.float .f64 Y)).run Tryz.prog w = .ok (.float .f64 S) w) (h2 : ∀ w : World, Calls Tryz.prog 30 #[.float .f64 S, .int .i64 0] w fun e w' => e = .returned (.bool false) ∧ w' = w) (h3 : ∀ w : World, (binOp .quo 25 (.float .f64 S) (.float .f64 4611686018427387904)).run Tryz.prog w = .ok (.float .f64 H) w) (h4 : ∀ w : World, Calls Tryz.prog 31 #[.float .f64 H] w fun e w' => e = .returned (.float .f64 R) ∧ w' = w) (w : World) : Calls Tryz.prog 17 #[.float .f64 X, .float .f64 Y] w fun e w' => e = .returned (.float .f64 R) ∧ Kp w w' := by
  go_enter Tryz.func17, Tryz.ntmps17
  go_wp2_with (first | (go_at_call 30; refine (h2 _).mono ?_; rintro e w' ⟨rfl, hw'⟩; obtain rfl := hw'.symm; clear hw') | (go_at_call 31; refine (h4 _).mono ?_; rintro e w' ⟨rfl, hw'⟩; obtain rfl := hw'.symm; clear hw'))
  exact bodyPost_ret (v := .float .f64 R) (by simp [results, Tryz.results17, go_sem]) rfl ⟨rfl, (by repeat (with_reducible (first | assumption | exact Kp.refl _ | apply Kp.drew | apply Kp.alloc | apply Kp.drewN | (refine Kp.setCell ?_ (by first | omega | (simp <;> omega)) _) | (refine Kp.trans ?_ (by assumption)))))⟩
set_option maxRecDepth 20000 in
set_option maxHeartbeats 400000 in
theorem halfI_ (X Y S H J R : Nat) (h1 : ∀ w : World, (binOp .add 25 (.float .f64 X) (.float .f64 Y)).run Tryz.prog w = .ok (.float .f64 S) w) (h2 : ∀ w : World, Calls Tryz.prog 30 #[.float .f64 S, .int .i64 0] w fun e w' => e = .returned (.bool true) ∧ w' = w) (h3 : ∀ w : World, (binOp .quo 25 (.float .f64 X) (.float .f64 4611686018427387904)).run Tryz.prog w = .ok (.float .f64 H) w) (h4 : ∀ w : World, (binOp .quo 25 (.float .f64 Y) (.float .f64 4611686018427387904)).run Tryz.prog w = .ok (.float .f64 J) w) (h5 : ∀ w : World, (binOp .add 25 (.float .f64 H) (.float .f64 J)).run Tryz.prog w = .ok (.float .f64 R) w) (w : World) : Calls Tryz.prog 17 #[.float .f64 X, .float .f64 Y] w fun e w' => e = .returned (.float .f64 R) ∧ Kp w w' := by
  go_enter Tryz.func17, Tryz.ntmps17
  go_wp2_with (first | (go_at_call 30; refine (h2 _).mono ?_; rintro e w' ⟨rfl, hw'⟩; obtain rfl := hw'.symm; clear hw'))
  exact bodyPost_ret (v := .float .f64 R) (by simp [results, Tryz.results17, go_sem]) rfl ⟨rfl, (by repeat (with_reducible (first | assumption | exact Kp.refl _ | apply Kp.drew | apply Kp.alloc | apply Kp.drewN | (refine Kp.setCell ?_ (by first | omega | (simp <;> omega)) _) | (refine Kp.trans ?_ (by assumption)))))⟩
theorem half8_ (n n' : Bool) (m m' : Nat) (hm : m < 9218868437227405312) (hm' : m' < 9218868437227405312) (w : World) : Calls Tryz.prog 17 #[.float .f64 (Fq.wD n m), .float .f64 (Fq.wD n' m')] w fun e w' => e = .returned (.float .f64 (hfW (Iv n m + Iv n' m'))) ∧ Kp w w' := by
  obtain ⟨s, r, l1, ha, hq, hi⟩ := half_math n n' m m' hm hm' _ rfl
  have h1 : ∀ w : World, (binOp .add 25 (.float .f64 (Fq.wD n m)) (.float .f64 (Fq.wD n' m'))).run Tryz.prog w = .ok (.float .f64 (Fq.wD s r)) w := fun w => run_float_arith w .add 25 .f64 _ _ _ ha
  have h2 := isInf8_ s r l1
  by_cases c : r = 9218868437227405312
  · obtain ⟨x, y, e1, e2, e3⟩ := hi c
    rw [decide_eq_true c] at h2
    exact halfI_ _ _ _ x y _ h1 h2 (fun w => run_float_arith w .quo 25 .f64 _ _ _ e1) (fun w => run_float_arith w .quo 25 .f64 _ _ _ e2) (fun w => run_float_arith w .add 25 .f64 _ _ _ e3) w
  · obtain ⟨r2, l2, e1, e2⟩ := hq c
    rw [decide_eq_false c] at h2
    have hp := Fq.plain_d s r2 l2
    rw [e2] at hp
    exact halfQ_ _ _ _ _ _ h1 h2 (fun w => run_float_arith w .quo 25 .f64 _ _ _ e1) hp w
set_option maxRecDepth 20000 in
set_option maxHeartbeats 1000000 in
theorem midN_ (a b LO HI : Nat) (hr : ∀ w : World, Calls Tryz.prog 13 #[.agg #[.float .f64 a, .float .f64 b]] w fun e w' => e = .returned (.agg #[.float .f64 LO, .float .f64 HI]) ∧ Kp w w') (hv : ∀ w : World, Calls Tryz.prog 14 #[.agg #[.float .f64 LO, .float .f64 HI]] w fun e w' => e = .returned (.bool true) ∧ Kp w w') (w : World) : Calls Tryz.prog 4 #[.agg #[.float .f64 a, .float .f64 b]] w fun e w' => e = .returned (.float .f64 9221120237041090561) ∧ Kp w w' := by
  go_enter Tryz.func4, Tryz.ntmps4
  go_wp2_with (first | (go_at_call 13; refine (hr _).mono ?_; rintro e w1 ⟨rfl, g1⟩; have q0 := Fq.H2.keep (Fq.H2.new w (.float .f64 a) (.float .f64 b) 28) g1; have kw : Kp w w1 := Kp.trans ((Kp.refl w).alloc _) g1; obtain ⟨x0, x1, x2, x3⟩ := id q0) | (go_at_call 14; refine (hv _).mono ?_; rintro e w2 ⟨rfl, g2⟩; have qx := Fq.H2.keep (Fq.H2.put q0 (.float .f64 LO) (.float .f64 HI)) g2; have kv : Kp w w2 := Kp.trans ((kw.setCell (Nat.le_refl _) _).setCell (Nat.le_refl _) _) g2; obtain ⟨u0, u1, u2, u3⟩ := id qx) | (go_at_call 15; refine (nan8_ _).mono ?_; rintro e w3 ⟨rfl, g3⟩; have kn : Kp w w3 := Kp.trans kv g3))
  exact bodyPost_ret (v := .float .f64 9221120237041090561) (by simp [results, Tryz.results4, go_sem]) rfl ⟨rfl, kn⟩
set_option maxRecDepth 20000 in
set_option maxHeartbeats 1000000 in
theorem midE_ (a b LO HI : Nat) (hr : ∀ w : World, Calls Tryz.prog 13 #[.agg #[.float .f64 a, .float .f64 b]] w fun e w' => e = .returned (.agg #[.float .f64 LO, .float .f64 HI]) ∧ Kp w w') (hv : ∀ w : World, Calls Tryz.prog 14 #[.agg #[.float .f64 LO, .float .f64 HI]] w fun e w' => e = .returned (.bool false) ∧ Kp w w') (q1 : (FloatKind.f64.format.order LO 18442240474082181120 == some Ordering.eq) = true) (q2 : (FloatKind.f64.format.order HI 9218868437227405312 == some Ordering.eq) = true) (w : World) : Calls Tryz.prog 4 #[.agg #[.float .f64 a, .float .f64 b]] w fun e w' => e = .returned (.float .f64 0) ∧ Kp w w' := by
  have k0 := Fq.eqInM LO 18442240474082181120
  have k1 := Fq.eqInM HI 9218868437227405312
  rw [q1] at k0
  rw [q2] at k1
  go_enter Tryz.func4, Tryz.ntmps4
  go_wp2_with (first | (go_at_call 13; refine (hr _).mono ?_; rintro e w1 ⟨rfl, g1⟩; have q0 := Fq.H2.keep (Fq.H2.new w (.float .f64 a) (.float .f64 b) 28) g1; have kw : Kp w w1 := Kp.trans ((Kp.refl w).alloc _) g1; obtain ⟨x0, x1, x2, x3⟩ := id q0) | (go_at_call 14; refine (hv _).mono ?_; rintro e w2 ⟨rfl, g2⟩; have qx := Fq.H2.keep (Fq.H2.put q0 (.float .f64 LO) (.float .f64 HI)) g2; have kv : Kp w w2 := Kp.trans ((kw.setCell (Nat.le_refl _) _).setCell (Nat.le_refl _) _) g2; obtain ⟨u0, u1, u2, u3⟩ := id qx))
  have d0 : w2.drew.cell? ⟨w.heap.size, 0, none⟩ = some (.float .f64 LO) := u0
  have d1 : w2.drew.cell? ⟨w.heap.size, 1, none⟩ = some (.float .f64 HI) := u1
  refine Fq.wp_region_grow (by kernel_rfl) (by kernel_rfl) (fun ι _ G hG hall => ?_)
  have c0 : ∀ n, (G n).cell? ⟨w.heap.size, 0, none⟩ = some (.float .f64 LO) := fun n => Fq.gkeep (hG n) u0
  have c1 : ∀ n, (G n).cell? ⟨w.heap.size, 1, none⟩ = some (.float .f64 HI) := fun n => Fq.gkeep (hG n) u1
  have kG : ∀ n, Kp w (G n) := fun n => Kp.trans kv (hG n)
  repeat (go_big_quiet_step (first | (go_at_call 16; exact (Fq.entire6_ _).mono (fun e w' h => ⟨h.1, hall _ (by rw [h.2]; exact (hG _).alloc _ _)⟩))))
  refine wpQuiet_nil ?_
  rintro _ ⟨nq, rfl⟩
  have y0 := c0 nq
  have y1 := c1 nq
  have kW := kG nq
  clear c0 c1 kG hall
  generalize G nq = W at y0 y1 kW ⊢
  clear hG
  go_wp2_with (first | fail)
  exact bodyPost_ret (v := .float .f64 0) (by simp [results, Tryz.results4, go_sem]) rfl ⟨rfl, kW⟩
set_option maxRecDepth 20000 in
set_option maxHeartbeats 1000000 in
theorem midL_ (a b LO HI : Nat) (hr : ∀ w : World, Calls Tryz.prog 13 #[.agg #[.float .f64 a, .float .f64 b]] w fun e w' => e = .returned (.agg #[.float .f64 LO, .float .f64 HI]) ∧ Kp w w') (hv : ∀ w : World, Calls Tryz.prog 14 #[.agg #[.float .f64 LO, .float .f64 HI]] w fun e w' => e = .returned (.bool false) ∧ Kp w w') (q1 : (FloatKind.f64.format.order LO 18442240474082181120 == some Ordering.eq) = true) (q2 : (FloatKind.f64.format.order HI 9218868437227405312 == some Ordering.eq) = false) (t1 : (FloatKind.f64.format.order LO 18442240474082181119 == some Ordering.lt) = true) (w : World) : Calls Tryz.prog 4 #[.agg #[.float .f64 a, .float .f64 b]] w fun e w' => e = .returned (.float .f64 18442240474082181119) ∧ Kp w w' := by
  have k0 := Fq.eqInM LO 18442240474082181120
  have k1 := Fq.eqInM HI 9218868437227405312
  rw [q1] at k0
  rw [q2] at k1
  go_enter Tryz.func4, Tryz.ntmps4
  go_wp2_with (first | (go_at_call 13; refine (hr _).mono ?_; rintro e w1 ⟨rfl, g1⟩; have q0 := Fq.H2.keep (Fq.H2.new w (.float .f64 a) (.float .f64 b) 28) g1; have kw : Kp w w1 := Kp.trans ((Kp.refl w).alloc _) g1; obtain ⟨x0, x1, x2, x3⟩ := id q0) | (go_at_call 14; refine (hv _).mono ?_; rintro e w2 ⟨rfl, g2⟩; have qx := Fq.H2.keep (Fq.H2.put q0 (.float .f64 LO) (.float .f64 HI)) g2; have kv : Kp w w2 := Kp.trans ((kw.setCell (Nat.le_refl _) _).setCell (Nat.le_refl _) _) g2; obtain ⟨u0, u1, u2, u3⟩ := id qx))
  have d0 : w2.drew.cell? ⟨w.heap.size, 0, none⟩ = some (.float .f64 LO) := u0
  have d1 : w2.drew.cell? ⟨w.heap.size, 1, none⟩ = some (.float .f64 HI) := u1
  refine Fq.wp_region_grow (by kernel_rfl) (by kernel_rfl) (fun ι _ G hG hall => ?_)
  have c0 : ∀ n, (G n).cell? ⟨w.heap.size, 0, none⟩ = some (.float .f64 LO) := fun n => Fq.gkeep (hG n) u0
  have c1 : ∀ n, (G n).cell? ⟨w.heap.size, 1, none⟩ = some (.float .f64 HI) := fun n => Fq.gkeep (hG n) u1
  have kG : ∀ n, Kp w (G n) := fun n => Kp.trans kv (hG n)
  repeat (go_big_quiet_step (first | (go_at_call 16; exact (Fq.entire6_ _).mono (fun e w' h => ⟨h.1, hall _ (by rw [h.2]; exact (hG _).alloc _ _)⟩))))
  refine wpQuiet_nil ?_
  rintro _ ⟨nq, rfl⟩
  have y0 := c0 nq
  have y1 := c1 nq
  have kW := kG nq
  clear c0 c1 kG hall
  generalize G nq = W at y0 y1 kW ⊢
  clear hG
  go_wp2_with (first | fail)
  exact bodyPost_ret (v := .float .f64 18442240474082181119) (by simp [results, Tryz.results4, go_sem]) rfl ⟨rfl, kW⟩
set_option maxRecDepth 20000 in
set_option maxHeartbeats 1000000 in
theorem midH_ (a b LO HI : Nat) (hr : ∀ w : World, Calls Tryz.prog 13 #[.agg #[.float .f64 a, .float .f64 b]] w fun e w' => e = .returned (.agg #[.float .f64 LO, .float .f64 HI]) ∧ Kp w w') (hv : ∀ w : World, Calls Tryz.prog 14 #[.agg #[.float .f64 LO, .float .f64 HI]] w fun e w' => e = .returned (.bool false) ∧ Kp w w') (q1 : (FloatKind.f64.format.order LO 18442240474082181120 == some Ordering.eq) = false) (t1 : (FloatKind.f64.format.order LO 18442240474082181119 == some Ordering.lt) = false) (t2 : (FloatKind.f64.format.order HI 9218868437227405311 == some Ordering.gt) = true) (w : World) : Calls Tryz.prog 4 #[.agg #[.float .f64 a, .float .f64 b]] w fun e w' => e = .returned (.float .f64 9218868437227405311) ∧ Kp w w' := by
  have k0 := Fq.eqInM LO 18442240474082181120
  rw [q1] at k0
  go_enter Tryz.func4, Tryz.ntmps4
  go_wp2_with (first | (go_at_call 13; refine (hr _).mono ?_; rintro e w1 ⟨rfl, g1⟩; have q0 := Fq.H2.keep (Fq.H2.new w (.float .f64 a) (.float .f64 b) 28) g1; have kw : Kp w w1 := Kp.trans ((Kp.refl w).alloc _) g1; obtain ⟨x0, x1, x2, x3⟩ := id q0) | (go_at_call 14; refine (hv _).mono ?_; rintro e w2 ⟨rfl, g2⟩; have qx := Fq.H2.keep (Fq.H2.put q0 (.float .f64 LO) (.float .f64 HI)) g2; have kv : Kp w w2 := Kp.trans ((kw.setCell (Nat.le_refl _) _).setCell (Nat.le_refl _) _) g2; obtain ⟨u0, u1, u2, u3⟩ := id qx))
  have d0 : w2.drew.cell? ⟨w.heap.size, 0, none⟩ = some (.float .f64 LO) := u0
  have d1 : w2.drew.cell? ⟨w.heap.size, 1, none⟩ = some (.float .f64 HI) := u1
  refine Fq.wp_region_grow (by kernel_rfl) (by kernel_rfl) (fun ι _ G hG hall => ?_)
  have c0 : ∀ n, (G n).cell? ⟨w.heap.size, 0, none⟩ = some (.float .f64 LO) := fun n => Fq.gkeep (hG n) u0
  have c1 : ∀ n, (G n).cell? ⟨w.heap.size, 1, none⟩ = some (.float .f64 HI) := fun n => Fq.gkeep (hG n) u1
  have kG : ∀ n, Kp w (G n) := fun n => Kp.trans kv (hG n)
  repeat (go_big_quiet_step (first | (go_at_call 16; exact (Fq.entire6_ _).mono (fun e w' h => ⟨h.1, hall _ (by rw [h.2]; exact (hG _).alloc _ _)⟩))))
  refine wpQuiet_nil ?_
  rintro _ ⟨nq, rfl⟩
  have y0 := c0 nq
  have y1 := c1 nq
  have kW := kG nq
  clear c0 c1 kG hall
  generalize G nq = W at y0 y1 kW ⊢
  clear hG
  go_wp2_with (first | fail)
  exact bodyPost_ret (v := .float .f64 9218868437227405311) (by simp [results, Tryz.results4, go_sem]) rfl ⟨rfl, kW⟩
set_option maxRecDepth 20000 in
set_option maxHeartbeats 1000000 in
theorem midF_ (a b LO HI : Nat) (hr : ∀ w : World, Calls Tryz.prog 13 #[.agg #[.float .f64 a, .float .f64 b]] w fun e w' => e = .returned (.agg #[.float .f64 LO, .float .f64 HI]) ∧ Kp w w') (hv : ∀ w : World, Calls Tryz.prog 14 #[.agg #[.float .f64 LO, .float .f64 HI]] w fun e w' => e = .returned (.bool false) ∧ Kp w w') (q1 : (FloatKind.f64.format.order LO 18442240474082181120 == some Ordering.eq) = false) (t1 : (FloatKind.f64.format.order LO 18442240474082181119 == some Ordering.lt) = false) (t2 : (FloatKind.f64.format.order HI 9218868437227405311 == some Ordering.gt) = false) (G9 : Nat) (h1 : ∀ w : World, Calls Tryz.prog 17 #[.float .f64 LO, .float .f64 HI] w fun e w' => e = .returned (.float .f64 G9) ∧ Kp w w') (w : World) : Calls Tryz.prog 4 #[.agg #[.float .f64 a, .float .f64 b]] w fun e w' => e = .returned (.float .f64 G9) ∧ Kp w w' := by
  have k0 := Fq.eqInM LO 18442240474082181120
  rw [q1] at k0
  go_enter Tryz.func4, Tryz.ntmps4
  go_wp2_with (first | (go_at_call 13; refine (hr _).mono ?_; rintro e w1 ⟨rfl, g1⟩; have q0 := Fq.H2.keep (Fq.H2.new w (.float .f64 a) (.float .f64 b) 28) g1; have kw : Kp w w1 := Kp.trans ((Kp.refl w).alloc _) g1; obtain ⟨x0, x1, x2, x3⟩ := id q0) | (go_at_call 14; refine (hv _).mono ?_; rintro e w2 ⟨rfl, g2⟩; have qx := Fq.H2.keep (Fq.H2.put q0 (.float .f64 LO) (.float .f64 HI)) g2; have kv : Kp w w2 := Kp.trans ((kw.setCell (Nat.le_refl _) _).setCell (Nat.le_refl _) _) g2; obtain ⟨u0, u1, u2, u3⟩ := id qx))
  have d0 : w2.drew.cell? ⟨w.heap.size, 0, none⟩ = some (.float .f64 LO) := u0
  have d1 : w2.drew.cell? ⟨w.heap.size, 1, none⟩ = some (.float .f64 HI) := u1
  refine Fq.wp_region_grow (by kernel_rfl) (by kernel_rfl) (fun ι _ G hG hall => ?_)
  have c0 : ∀ n, (G n).cell? ⟨w.heap.size, 0, none⟩ = some (.float .f64 LO) := fun n => Fq.gkeep (hG n) u0
  have c1 : ∀ n, (G n).cell? ⟨w.heap.size, 1, none⟩ = some (.float .f64 HI) := fun n => Fq.gkeep (hG n) u1
  have kG : ∀ n, Kp w (G n) := fun n => Kp.trans kv (hG n)
  repeat (go_big_quiet_step (first | (go_at_call 16; exact (Fq.entire6_ _).mono (fun e w' h => ⟨h.1, hall _ (by rw [h.2]; exact (hG _).alloc _ _)⟩))))
  refine wpQuiet_nil ?_
  rintro _ ⟨nq, rfl⟩
  have y0 := c0 nq
  have y1 := c1 nq
  have kW := kG nq
  clear c0 c1 kG hall
  generalize G nq = W at y0 y1 kW ⊢
  clear hG
  go_wp2_with (first | (go_at_call 17; refine (h1 _).mono ?_; rintro e w7 ⟨rfl, g7⟩))
  exact bodyPost_ret (v := .float .f64 G9) (by simp [results, Tryz.results4, go_sem]) rfl ⟨rfl, Kp.trans kW g7⟩

theorem hfW_pat (V : Int) : ∃ s r, r ≤ 9218868437227405312 ∧ hfW V = Fq.wD s r ∧ (r = 0 → s = false) := by
  unfold hfW
  by_cases c : V = 0
  · exact ⟨false, 0, by decide, by rw [if_pos c]; rfl, fun _ => rfl⟩
  · rw [if_neg c]
    have h := fin_leH 0 (rU 0 53 V.natAbs 2)
    generalize finU 53 2098 9218868437227405311 9218868437227405312 0 (rU 0 53 V.natAbs 2) = x at h ⊢
    by_cases z : x = 0
    · exact ⟨false, 0, by decide, by rw [z]; rfl, fun _ => rfl⟩
    · exact ⟨decide (V < 0), x, h, by unfold mdW Fq.wD; rw [if_neg z], fun h0 => absurd h0 z⟩
/-- the middle, by the ends -/
def mdP (n : Bool) (m : Nat) (g : Bool) (r : Nat) : Nat := if m = 9218868437227405312 then (if r = 9218868437227405312 then 0 else 18442240474082181119) else if r = 9218868437227405312 then 9218868437227405311 else hfW (Iv n m + Iv g r)
theorem mdP_pat (n : Bool) (m : Nat) (g : Bool) (r : Nat) : ∃ s x, x ≤ 9218868437227405312 ∧ mdP n m g r = Fq.wD s x ∧ (x = 0 → s = false) := by
  unfold mdP
  by_cases c1 : m = 9218868437227405312
  · rw [if_pos c1]
    by_cases c2 : r = 9218868437227405312
    · rw [if_pos c2]; exact ⟨false, 0, by decide, rfl, fun _ => rfl⟩
    · rw [if_neg c2]; exact ⟨true, 9218868437227405311, by decide, rfl, fun h => absurd h (by decide)⟩
  · rw [if_neg c1]
    by_cases c2 : r = 9218868437227405312
    · rw [if_pos c2]; exact ⟨false, 9218868437227405311, by decide, rfl, fun _ => rfl⟩
    · rw [if_neg c2]; exact hfW_pat _
theorem midS8_ (a b : Nat) (ha : a < 18446744073709551616) (hb : b < 18446744073709551616) (s1 : Fq.snd a b = true) (n g : Bool) (m r : Nat) (l1 : m ≤ 9218868437227405312) (l2 : r ≤ 9218868437227405312) (e1 : Fq.rlo a b = Fq.wD n m) (e2 : Fq.rhi a b = Fq.wD g r) (w : World) : Calls Tryz.prog 4 #[.agg #[.float .f64 a, .float .f64 b]] w fun e w' => e = .returned (.float .f64 (mdP n m g r)) ∧ Kp w w' := by
  have hp := Fq.read_ a b ha hb
  have hv := void8_ a b ha hb false (by simpa using s1)
  have i1 := rlo_inf a b s1 n m e1
  have i2 := rhi_inf a b s1 g r e2
  rw [e1, e2] at hp hv
  have q1 := Fq.feq n true m 9218868437227405312 (by omega) (by decide)
  have q2 := Fq.feq g false r 9218868437227405312 (by omega) (by decide)
  have t1 := Fq.flt n true m 9218868437227405311 (by omega) (by decide)
  have t2 := fgt8 g false r 9218868437227405311 (by omega) (by decide)
  rw [show Fq.wD true 9218868437227405312 = 18442240474082181120 from rfl] at q1
  rw [show Fq.wD false 9218868437227405312 = 9218868437227405312 from rfl] at q2
  rw [show Fq.wD true 9218868437227405311 = 18442240474082181119 from rfl] at t1
  rw [show Fq.wD false 9218868437227405311 = 9218868437227405311 from rfl] at t2
  have P1 : Fq.plz n m = if n then -(m : Int) else m := by unfold Fq.plz; cases n <;> rfl
  have P2 : Fq.plz g r = if g then -(r : Int) else r := by unfold Fq.plz; cases g <;> rfl
  have P3 : Fq.plz true 9218868437227405312 = -9218868437227405312 := rfl
  have P4 : Fq.plz false 9218868437227405312 = 9218868437227405312 := rfl
  have P5 : Fq.plz true 9218868437227405311 = -9218868437227405311 := rfl
  have P6 : Fq.plz false 9218868437227405311 = 9218868437227405311 := rfl
  rw [P1, P3] at q1
  rw [P2, P4] at q2
  rw [P1, P5] at t1
  rw [P2, P6] at t2
  unfold mdP
  by_cases c1 : m = 9218868437227405312
  · have nn := i1 c1
    rw [decide_eq_true ⟨l1, by decide, by rw [nn, c1]; rfl⟩] at q1
    rw [decide_eq_true ⟨l1, by decide, by rw [nn, c1]; decide⟩] at t1
    rw [if_pos c1]
    by_cases c2 : r = 9218868437227405312
    · have gg := i2 c2
      rw [decide_eq_true ⟨l2, by decide, by rw [gg, c2]; rfl⟩] at q2
      rw [if_pos c2]
      exact midE_ a b _ _ hp hv q1 q2 w
    · rw [decide_eq_false (by cases g <;> simp <;> omega)] at q2
      rw [if_neg c2]
      exact midL_ a b _ _ hp hv q1 q2 t1 w
  · rw [decide_eq_false (by cases n <;> simp <;> omega)] at q1
    rw [decide_eq_false (by cases n <;> simp <;> omega)] at t1
    rw [if_neg c1]
    by_cases c2 : r = 9218868437227405312
    · have gg := i2 c2
      rw [decide_eq_true ⟨l2, by decide, by rw [gg, c2]; decide⟩] at t2
      rw [if_pos c2]
      exact midH_ a b _ _ hp hv q1 t1 t2 w
    · rw [decide_eq_false (by cases g <;> simp <;> omega)] at t2
      rw [if_neg c2]
      exact midF_ a b _ _ hp hv q1 t1 t2 _ (half8_ n g m r (by omega) (by omega)) w
set_option maxRecDepth 20000 in
set_option maxHeartbeats 1000000 in
theorem magN_ (a b LO HI : Nat) (hr : ∀ w : World, Calls Tryz.prog 13 #[.agg #[.float .f64 a, .float .f64 b]] w fun e w' => e = .returned (.agg #[.float .f64 LO, .float .f64 HI]) ∧ Kp w w') (hv : ∀ w : World, Calls Tryz.prog 14 #[.agg #[.float .f64 LO, .float .f64 HI]] w fun e w' => e = .returned (.bool true) ∧ Kp w w') (w : World) : Calls Tryz.prog 11 #[.agg #[.float .f64 a, .float .f64 b]] w fun e w' => e = .returned (.float .f64 9221120237041090561) ∧ Kp w w' := by
  go_enter Tryz.func11, Tryz.ntmps11
  go_wp2_with (first | (go_at_call 13; refine (hr _).mono ?_; rintro e w1 ⟨rfl, g1⟩; have q0 := Fq.H2.keep (Fq.H2.new w (.float .f64 a) (.float .f64 b) 28) g1; have kw : Kp w w1 := Kp.trans ((Kp.refl w).alloc _) g1; obtain ⟨x0, x1, x2, x3⟩ := id q0) | (go_at_call 14; refine (hv _).mono ?_; rintro e w2 ⟨rfl, g2⟩; have qx := Fq.H2.keep (Fq.H2.put q0 (.float .f64 LO) (.float .f64 HI)) g2; have kv : Kp w w2 := Kp.trans ((kw.setCell (Nat.le_refl _) _).setCell (Nat.le_refl _) _) g2; obtain ⟨u0, u1, u2, u3⟩ := id qx) | (go_at_call 15; refine (nan8_ _).mono ?_; rintro e w3 ⟨rfl, g3⟩; have kn : Kp w w3 := Kp.trans kv g3))
  exact bodyPost_ret (v := .float .f64 9221120237041090561) (by simp [results, Tryz.results11, go_sem]) rfl ⟨rfl, kn⟩
set_option maxRecDepth 20000 in
set_option maxHeartbeats 1000000 in
theorem migN_ (a b LO HI : Nat) (hr : ∀ w : World, Calls Tryz.prog 13 #[.agg #[.float .f64 a, .float .f64 b]] w fun e w' => e = .returned (.agg #[.float .f64 LO, .float .f64 HI]) ∧ Kp w w') (hv : ∀ w : World, Calls Tryz.prog 14 #[.agg #[.float .f64 LO, .float .f64 HI]] w fun e w' => e = .returned (.bool true) ∧ Kp w w') (w : World) : Calls Tryz.prog 12 #[.agg #[.float .f64 a, .float .f64 b]] w fun e w' => e = .returned (.float .f64 9221120237041090561) ∧ Kp w w' := by
  go_enter Tryz.func12, Tryz.ntmps12
  go_wp2_with (first | (go_at_call 13; refine (hr _).mono ?_; rintro e w1 ⟨rfl, g1⟩; have q0 := Fq.H2.keep (Fq.H2.new w (.float .f64 a) (.float .f64 b) 28) g1; have kw : Kp w w1 := Kp.trans ((Kp.refl w).alloc _) g1; obtain ⟨x0, x1, x2, x3⟩ := id q0) | (go_at_call 14; refine (hv _).mono ?_; rintro e w2 ⟨rfl, g2⟩; have qx := Fq.H2.keep (Fq.H2.put q0 (.float .f64 LO) (.float .f64 HI)) g2; have kv : Kp w w2 := Kp.trans ((kw.setCell (Nat.le_refl _) _).setCell (Nat.le_refl _) _) g2; obtain ⟨u0, u1, u2, u3⟩ := id qx) | (go_at_call 15; refine (nan8_ _).mono ?_; rintro e w3 ⟨rfl, g3⟩; have kn : Kp w w3 := Kp.trans kv g3))
  exact bodyPost_ret (v := .float .f64 9221120237041090561) (by simp [results, Tryz.results12, go_sem]) rfl ⟨rfl, kn⟩
set_option maxRecDepth 20000 in
set_option maxHeartbeats 1000000 in
theorem magS_ (a b LO HI : Nat) (hr : ∀ w : World, Calls Tryz.prog 13 #[.agg #[.float .f64 a, .float .f64 b]] w fun e w' => e = .returned (.agg #[.float .f64 LO, .float .f64 HI]) ∧ Kp w w') (hv : ∀ w : World, Calls Tryz.prog 14 #[.agg #[.float .f64 LO, .float .f64 HI]] w fun e w' => e = .returned (.bool false) ∧ Kp w w') (A9 B9 G9 : Nat) (h1 : ∀ w : World, Calls Tryz.prog 26 #[.float .f64 LO] w fun e w' => e = .returned (.float .f64 A9) ∧ w' = w) (h2 : ∀ w : World, Calls Tryz.prog 26 #[.float .f64 HI] w fun e w' => e = .returned (.float .f64 B9) ∧ w' = w) (h3 : ∀ w : World, Calls Tryz.prog 23 #[.float .f64 A9, .float .f64 B9] w fun e w' => e = .returned (.float .f64 G9) ∧ w' = w) (w : World) : Calls Tryz.prog 11 #[.agg #[.float .f64 a, .float .f64 b]] w fun e w' => e = .returned (.float .f64 G9) ∧ Kp w w' := by
  go_enter Tryz.func11, Tryz.ntmps11
  go_wp2_with (first | (go_at_call 13; refine (hr _).mono ?_; rintro e w1 ⟨rfl, g1⟩; have q0 := Fq.H2.keep (Fq.H2.new w (.float .f64 a) (.float .f64 b) 28) g1; have kw : Kp w w1 := Kp.trans ((Kp.refl w).alloc _) g1; obtain ⟨x0, x1, x2, x3⟩ := id q0) | (go_at_call 14; refine (hv _).mono ?_; rintro e w2 ⟨rfl, g2⟩; have qx := Fq.H2.keep (Fq.H2.put q0 (.float .f64 LO) (.float .f64 HI)) g2; have kv : Kp w w2 := Kp.trans ((kw.setCell (Nat.le_refl _) _).setCell (Nat.le_refl _) _) g2; obtain ⟨u0, u1, u2, u3⟩ := id qx))
  go_quiet (first | (go_at_call_of 26 (Value.float .f64 LO); exact Calls.quiet_of_same (h1 _)) | (go_at_call_of 26 (Value.float .f64 HI); exact Calls.quiet_of_same (h2 _)) | (go_at_call 23; exact Calls.quiet_of_same (h3 _)))
  go_wp2
  exact bodyPost_ret (v := .float .f64 G9) (by simp [results, Tryz.results11, go_sem]) rfl ⟨rfl, (by repeat (with_reducible (first | assumption | exact Kp.refl _ | apply Kp.drew | apply Kp.alloc | apply Kp.drewN | (refine Kp.setCell ?_ (by first | omega | (simp <;> omega)) _) | (refine Kp.trans ?_ (by assumption)))))⟩
set_option maxRecDepth 20000 in
set_option maxHeartbeats 1000000 in
theorem mig1_ (a b LO HI : Nat) (hr : ∀ w : World, Calls Tryz.prog 13 #[.agg #[.float .f64 a, .float .f64 b]] w fun e w' => e = .returned (.agg #[.float .f64 LO, .float .f64 HI]) ∧ Kp w w') (hv : ∀ w : World, Calls Tryz.prog 14 #[.agg #[.float .f64 LO, .float .f64 HI]] w fun e w' => e = .returned (.bool false) ∧ Kp w w') (t1 : (FloatKind.f64.format.order LO 0 == some Ordering.gt) = true) (w : World) : Calls Tryz.prog 12 #[.agg #[.float .f64 a, .float .f64 b]] w fun e w' => e = .returned (.float .f64 LO) ∧ Kp w w' := by
  go_enter Tryz.func12, Tryz.ntmps12
  go_wp2_with (first | (go_at_call 13; refine (hr _).mono ?_; rintro e w1 ⟨rfl, g1⟩; have q0 := Fq.H2.keep (Fq.H2.new w (.float .f64 a) (.float .f64 b) 28) g1; have kw : Kp w w1 := Kp.trans ((Kp.refl w).alloc _) g1; obtain ⟨x0, x1, x2, x3⟩ := id q0) | (go_at_call 14; refine (hv _).mono ?_; rintro e w2 ⟨rfl, g2⟩; have qx := Fq.H2.keep (Fq.H2.put q0 (.float .f64 LO) (.float .f64 HI)) g2; have kv : Kp w w2 := Kp.trans ((kw.setCell (Nat.le_refl _) _).setCell (Nat.le_refl _) _) g2; obtain ⟨u0, u1, u2, u3⟩ := id qx))
  exact bodyPost_ret (v := .float .f64 LO) (by simp [results, Tryz.results12, go_sem]) rfl ⟨rfl, kv⟩
set_option maxRecDepth 20000 in
set_option maxHeartbeats 1000000 in
theorem mig2_ (a b LO HI : Nat) (hr : ∀ w : World, Calls Tryz.prog 13 #[.agg #[.float .f64 a, .float .f64 b]] w fun e w' => e = .returned (.agg #[.float .f64 LO, .float .f64 HI]) ∧ Kp w w') (hv : ∀ w : World, Calls Tryz.prog 14 #[.agg #[.float .f64 LO, .float .f64 HI]] w fun e w' => e = .returned (.bool false) ∧ Kp w w') (G9 : Nat) (hg : ∀ w : World, (Op.unary .neg (.float .f64 HI)).run Tryz.prog w = .ok (.float .f64 G9) w) (t1 : (FloatKind.f64.format.order LO 0 == some Ordering.gt) = false) (t2 : (FloatKind.f64.format.order HI 0 == some Ordering.lt) = true) (w : World) : Calls Tryz.prog 12 #[.agg #[.float .f64 a, .float .f64 b]] w fun e w' => e = .returned (.float .f64 G9) ∧ Kp w w' := by
  go_enter Tryz.func12, Tryz.ntmps12
  go_wp2_with (first | (go_at_call 13; refine (hr _).mono ?_; rintro e w1 ⟨rfl, g1⟩; have q0 := Fq.H2.keep (Fq.H2.new w (.float .f64 a) (.float .f64 b) 28) g1; have kw : Kp w w1 := Kp.trans ((Kp.refl w).alloc _) g1; obtain ⟨x0, x1, x2, x3⟩ := id q0) | (go_at_call 14; refine (hv _).mono ?_; rintro e w2 ⟨rfl, g2⟩; have qx := Fq.H2.keep (Fq.H2.put q0 (.float .f64 LO) (.float .f64 HI)) g2; have kv : Kp w w2 := Kp.trans ((kw.setCell (Nat.le_refl _) _).setCell (Nat.le_refl _) _) g2; obtain ⟨u0, u1, u2, u3⟩ := id qx))
  exact bodyPost_ret (v := .float .f64 G9) (by simp [results, Tryz.results12, go_sem]) rfl ⟨rfl, kv⟩
set_option maxRecDepth 20000 in
set_option maxHeartbeats 1000000 in
theorem mig3_ (a b LO HI : Nat) (hr : ∀ w : World, Calls Tryz.prog 13 #[.agg #[.float .f64 a, .float .f64 b]] w fun e w' => e = .returned (.agg #[.float .f64 LO, .float .f64 HI]) ∧ Kp w w') (hv : ∀ w : World, Calls Tryz.prog 14 #[.agg #[.float .f64 LO, .float .f64 HI]] w fun e w' => e = .returned (.bool false) ∧ Kp w w') (t1 : (FloatKind.f64.format.order LO 0 == some Ordering.gt) = false) (t2 : (FloatKind.f64.format.order HI 0 == some Ordering.lt) = false) (w : World) : Calls Tryz.prog 12 #[.agg #[.float .f64 a, .float .f64 b]] w fun e w' => e = .returned (.float .f64 0) ∧ Kp w w' := by
  go_enter Tryz.func12, Tryz.ntmps12
  go_wp2_with (first | (go_at_call 13; refine (hr _).mono ?_; rintro e w1 ⟨rfl, g1⟩; have q0 := Fq.H2.keep (Fq.H2.new w (.float .f64 a) (.float .f64 b) 28) g1; have kw : Kp w w1 := Kp.trans ((Kp.refl w).alloc _) g1; obtain ⟨x0, x1, x2, x3⟩ := id q0) | (go_at_call 14; refine (hv _).mono ?_; rintro e w2 ⟨rfl, g2⟩; have qx := Fq.H2.keep (Fq.H2.put q0 (.float .f64 LO) (.float .f64 HI)) g2; have kv : Kp w w2 := Kp.trans ((kw.setCell (Nat.le_refl _) _).setCell (Nat.le_refl _) _) g2; obtain ⟨u0, u1, u2, u3⟩ := id qx))
  exact bodyPost_ret (v := .float .f64 0) (by simp [results, Tryz.results12, go_sem]) rfl ⟨rfl, kv⟩
set_option maxRecDepth 20000 in
set_option maxHeartbeats 1000000 in
theorem mradN_ (a b LO HI M9 : Nat) (hr : ∀ w : World, Calls Tryz.prog 13 #[.agg #[.float .f64 a, .float .f64 b]] w fun e w' => e = .returned (.agg #[.float .f64 LO, .float .f64 HI]) ∧ Kp w w') (hm : ∀ w : World, Calls Tryz.prog 4 #[.agg #[.float .f64 LO, .float .f64 HI]] w fun e w' => e = .returned (.float .f64 M9) ∧ Kp w w') (hv : ∀ w : World, Calls Tryz.prog 14 #[.agg #[.float .f64 LO, .float .f64 HI]] w fun e w' => e = .returned (.bool true) ∧ Kp w w') (w : World) : Calls Tryz.prog 7 #[.agg #[.float .f64 a, .float .f64 b]] w fun e w' => e = .returned (.tuple #[.float .f64 M9, .float .f64 9221120237041090561]) ∧ Kp w w' := by
  go_enter Tryz.func7, Tryz.ntmps7
  go_wp2_with (first | (go_at_call 13; refine (hr _).mono ?_; rintro e w1 ⟨rfl, g1⟩; have q0 := Fq.H2.keep (Fq.H2.new w (.float .f64 a) (.float .f64 b) 28) g1; have kw : Kp w w1 := Kp.trans ((Kp.refl w).alloc _) g1; obtain ⟨x0, x1, x2, x3⟩ := id q0) | (go_at_call 4; refine (hm _).mono ?_; rintro e w2 ⟨rfl, g2⟩; have qx := Fq.H2.keep (Fq.H2.put q0 (.float .f64 LO) (.float .f64 HI)) g2; have km : Kp w w2 := Kp.trans ((kw.setCell (Nat.le_refl _) _).setCell (Nat.le_refl _) _) g2; obtain ⟨u0, u1, u2, u3⟩ := id qx) | (go_at_call 14; refine (hv _).mono ?_; rintro e w3 ⟨rfl, g3⟩; have qv := Fq.H2.keep qx g3; have kv : Kp w w3 := Kp.trans km g3; obtain ⟨v0, v1, v2, v3⟩ := id qv) | (go_at_call 15; refine (nan8_ _).mono ?_; rintro e w4 ⟨rfl, g4⟩; have kn : Kp w w4 := Kp.trans kv g4))
  exact bodyPost_ret (v := .tuple #[.float .f64 M9, .float .f64 9221120237041090561]) (by simp [results, Tryz.results7, go_sem]) rfl ⟨rfl, kn⟩
set_option maxRecDepth 20000 in
set_option maxHeartbeats 2000000 in
theorem mradS_ (a b LO HI M9 : Nat) (hr : ∀ w : World, Calls Tryz.prog 13 #[.agg #[.float .f64 a, .float .f64 b]] w fun e w' => e = .returned (.agg #[.float .f64 LO, .float .f64 HI]) ∧ Kp w w') (hm : ∀ w : World, Calls Tryz.prog 4 #[.agg #[.float .f64 LO, .float .f64 HI]] w fun e w' => e = .returned (.float .f64 M9) ∧ Kp w w') (hv : ∀ w : World, Calls Tryz.prog 14 #[.agg #[.float .f64 LO, .float .f64 HI]] w fun e w' => e = .returned (.bool false) ∧ Kp w w') (PL PH G9 : Nat) (w : World) (hA1 : ∀ W : World, Kp w W → Calls Tryz.prog 24 #[.float .f64 LO, .float .f64 M9] W fun e w' => e = .returned (.float .f64 PL) ∧ Kp W w') (hA2 : ∀ W : World, Kp w W → Calls Tryz.prog 24 #[.float .f64 M9, .float .f64 HI] W fun e w' => e = .returned (.float .f64 PH) ∧ Kp W w') (hg : ∀ w : World, Calls Tryz.prog 23 #[.float .f64 PL, .float .f64 PH] w fun e w' => e = .returned (.float .f64 G9) ∧ w' = w) : Calls Tryz.prog 7 #[.agg #[.float .f64 a, .float .f64 b]] w fun e w' => e = .returned (.tuple #[.float .f64 M9, .float .f64 G9]) ∧ Kp w w' := by
  go_enter Tryz.func7, Tryz.ntmps7
  go_wp2_with (first | (go_at_call 13; refine (hr _).mono ?_; rintro e w1 ⟨rfl, g1⟩; have q0 := Fq.H2.keep (Fq.H2.new w (.float .f64 a) (.float .f64 b) 28) g1; have kw : Kp w w1 := Kp.trans ((Kp.refl w).alloc _) g1; obtain ⟨x0, x1, x2, x3⟩ := id q0) | (go_at_call 4; refine (hm _).mono ?_; rintro e w2 ⟨rfl, g2⟩; have qx := Fq.H2.keep (Fq.H2.put q0 (.float .f64 LO) (.float .f64 HI)) g2; have km : Kp w w2 := Kp.trans ((kw.setCell (Nat.le_refl _) _).setCell (Nat.le_refl _) _) g2; obtain ⟨u0, u1, u2, u3⟩ := id qx) | (go_at_call 14; refine (hv _).mono ?_; rintro e w3 ⟨rfl, g3⟩; have qv := Fq.H2.keep qx g3; have kv : Kp w w3 := Kp.trans km g3; obtain ⟨v0, v1, v2, v3⟩ := id qv))
  refine Fq.wp_region_grow (by kernel_rfl) (by kernel_rfl) (fun ι _ G hG hall => ?_)
  have cc0 : ∀ n, (G n).cell? ⟨w.heap.size, 0, none⟩ = some (.float .f64 LO) := fun n => Fq.gkeep (hG n) v0
  have cc1 : ∀ n, (G n).cell? ⟨w.heap.size, 1, none⟩ = some (.float .f64 HI) := fun n => Fq.gkeep (hG n) v1
  have kG : ∀ n, Kp w (G n) := fun n => Kp.trans kv (hG n)
  repeat (go_big_quiet_step (first | (go_at_call_of 24 (Value.float .f64 LO); exact (hA1 _ (kG _)).mono (fun e w' h => ⟨h.1, hall _ (Fq.gtrans (hG _) h.2)⟩)) | (go_at_call_of 24 (Value.float .f64 HI); exact (hA2 _ (kG _)).mono (fun e w' h => ⟨h.1, hall _ (Fq.gtrans (hG _) h.2)⟩)) | (go_at_call 23; exact (hg _).mono (fun e w' h => ⟨h.1, hall _ (by rw [h.2]; exact hG _)⟩))))
  refine wpQuiet_nil ?_
  rintro _ ⟨nq, rfl⟩
  have gq := kG nq
  clear cc0 cc1 hall hG kG
  go_wp2
  exact bodyPost_ret (v := .tuple #[.float .f64 M9, .float .f64 G9]) (by simp [results, Tryz.results7, go_sem]) rfl ⟨rfl, gq⟩
theorem magX_ (a b : Nat) (ha : a < 18446744073709551616) (hb : b < 18446744073709551616) (s1 : Fq.snd a b = true) (n g : Bool) (m r : Nat) (l1 : m ≤ 9218868437227405312) (l2 : r ≤ 9218868437227405312) (e1 : Fq.rlo a b = Fq.wD n m) (e2 : Fq.rhi a b = Fq.wD g r) (w : World) : Calls Tryz.prog 11 #[.agg #[.float .f64 a, .float .f64 b]] w fun e w' => e = .returned (.float .f64 (if r < m then m else r)) ∧ Kp w w' := by
  have hp := Fq.read_ a b ha hb
  have hv := void8_ a b ha hb false (by simpa using s1)
  rw [e1, e2] at hp hv
  exact magS_ a b _ _ hp hv m r _ (abs_ n m (by omega)) (abs_ g r (by omega)) (greater8_ m r l1 l2) w
/-- the least magnitude, by the ends -/
def miW (n : Bool) (m : Nat) (g : Bool) (r : Nat) : Nat := if 0 < Fq.plz n m then m else if Fq.plz g r < 0 then r else 0
theorem migX_ (a b : Nat) (ha : a < 18446744073709551616) (hb : b < 18446744073709551616) (s1 : Fq.snd a b = true) (n g : Bool) (m r : Nat) (l1 : m ≤ 9218868437227405312) (l2 : r ≤ 9218868437227405312) (e1 : Fq.rlo a b = Fq.wD n m) (e2 : Fq.rhi a b = Fq.wD g r) (w : World) : Calls Tryz.prog 12 #[.agg #[.float .f64 a, .float .f64 b]] w fun e w' => e = .returned (.float .f64 (miW n m g r)) ∧ Kp w w' := by
  have hp := Fq.read_ a b ha hb
  have hv := void8_ a b ha hb false (by simpa using s1)
  rw [e1, e2] at hp hv
  have f1 := fgt8 n false m 0 (by omega) (by decide)
  have f2 := Fq.flt g false r 0 (by omega) (by decide)
  rw [show Fq.wD false 0 = 0 from rfl, show Fq.plz false 0 = 0 from rfl] at f1 f2
  unfold miW
  by_cases c1 : 0 < Fq.plz n m
  · rw [decide_eq_true ⟨l1, by decide, c1⟩] at f1
    rw [if_pos c1]
    have nn : n = false := by cases n; rfl; unfold Fq.plz at c1; simp at c1; omega
    have h := mig1_ a b _ _ hp hv f1 w
    rw [nn] at h
    exact h
  · rw [decide_eq_false (fun h => c1 h.2.2)] at f1
    rw [if_neg c1]
    by_cases c2 : Fq.plz g r < 0
    · rw [decide_eq_true ⟨l2, by decide, c2⟩] at f2
      rw [if_pos c2]
      have gg : g = true := by cases g; unfold Fq.plz at c2; simp at c2; omega; rfl
      have hn := negW8 g r (by omega)
      rw [gg] at hn hp hv f2
      exact mig2_ a b _ _ hp hv r hn f1 f2 w
    · rw [decide_eq_false (fun h => c2 h.2.2)] at f2
      rw [if_neg c2]
      exact mig3_ a b _ _ hp hv f1 f2 w
theorem widX_ (a b : Nat) (ha : a < 18446744073709551616) (hb : b < 18446744073709551616) (s1 : Fq.snd a b = true) (n g : Bool) (m r : Nat) (l1 : m ≤ 9218868437227405312) (l2 : r ≤ 9218868437227405312) (e1 : Fq.rlo a b = Fq.wD n m) (e2 : Fq.rhi a b = Fq.wD g r) (w : World) (hT : Tab w) (hQ : Fq.Tab w) : Calls Tryz.prog 10 #[.agg #[.float .f64 a, .float .f64 b]] w fun e w' => e = .returned (.float .f64 (apW n m g r)) ∧ Kp w w' := by
  have hp := Fq.read_ a b ha hb
  have hv := void8_ a b ha hb false (by simpa using s1)
  rw [e1, e2] at hp hv
  exact widS_ a b _ _ hp hv _ w (fun W y => apart8_ n g m r l1 l2 W (Tab.grown hT y) (Fq.Tab.grown hQ y))
theorem mradX_ (a b : Nat) (ha : a < 18446744073709551616) (hb : b < 18446744073709551616) (s1 : Fq.snd a b = true) (n g : Bool) (m r : Nat) (l1 : m ≤ 9218868437227405312) (l2 : r ≤ 9218868437227405312) (e1 : Fq.rlo a b = Fq.wD n m) (e2 : Fq.rhi a b = Fq.wD g r) (s : Bool) (x : Nat) (lx : x ≤ 9218868437227405312) (ex : mdP n m g r = Fq.wD s x) (w : World) (hT : Tab w) (hQ : Fq.Tab w) : Calls Tryz.prog 7 #[.agg #[.float .f64 a, .float .f64 b]] w fun e w' => e = .returned (.tuple #[.float .f64 (Fq.wD s x), .float .f64 (if apW s x g r < apW n m s x then apW n m s x else apW s x g r)]) ∧ Kp w w' := by
  have hm2 := midS8_ (Fq.rlo a b) (Fq.rhi a b) (Fq.rlo_lt a b ha) (Fq.rhi_lt a b hb) (snd_read8 a b ha hb s1) n g m r l1 l2 ((rlo_read8 a b ha hb s1).trans e1) ((rhi_read8 a b ha hb s1).trans e2)
  have hp := Fq.read_ a b ha hb
  have hv := void8_ a b ha hb false (by simpa using s1)
  rw [e1, e2] at hp hv
  rw [e1, e2, ex] at hm2
  exact mradS_ a b _ _ _ hp hm2 hv _ _ _ w (fun W y => apart8_ n s m x l1 lx W (Tab.grown hT y) (Fq.Tab.grown hQ y)) (fun W y => apart8_ s g x r lx l2 W (Tab.grown hT y) (Fq.Tab.grown hQ y)) (greater8_ _ _ (apW_le _ _ _ _) (apW_le _ _ _ _))

theorem apW_neg (n1 n2 k1 k2 : Bool) (m1 m2 : Nat) (h1 : Fq.plz k1 m1 = -Fq.plz n1 m1) (h2 : Fq.plz k2 m2 = -Fq.plz n2 m2) : apW k1 m1 k2 m2 = apW n1 m1 n2 m2 := by
  have i : ∀ (k n : Bool) (m : Nat), Fq.plz k m = -Fq.plz n m → Iv k m = -Iv n m := fun k n m h => by
    have z := vV_zero_iff m
    unfold Fq.plz at h
    unfold Iv
    cases k <;> cases n <;> simp at h ⊢ <;> omega
  have i1 := i k1 n1 m1 h1
  have i2 := i k2 n2 m2 h2
  unfold apW
  rw [h1, h2, i1, i2]
  by_cases c : Fq.plz n1 m1 = Fq.plz n2 m2
  · rw [if_pos (show -Fq.plz n1 m1 = -Fq.plz n2 m2 by omega), if_pos c]
  · rw [if_neg (show ¬ -Fq.plz n1 m1 = -Fq.plz n2 m2 by omega), if_neg c]
    by_cases d : m1 = 9218868437227405312 ∨ m2 = 9218868437227405312
    · rw [if_pos d, if_pos d]
    · rw [if_neg d, if_neg d]
      congr 1
      by_cases e : Fq.plz n1 m1 < Fq.plz n2 m2
      · rw [if_pos e, if_neg (show ¬ -Fq.plz n1 m1 < -Fq.plz n2 m2 by omega)]; omega
      · rw [if_neg e, if_pos (show -Fq.plz n1 m1 < -Fq.plz n2 m2 by omega)]; omega
theorem hfW_neg (V : Int) : ∃ (s : Bool) (x : Nat), x ≤ 9218868437227405312 ∧ hfW V = Fq.wD s x ∧ (∃ s', hfW (-V) = Fq.wD s' x ∧ Fq.plz s' x = -Fq.plz s x) := by
  unfold hfW
  by_cases c : V = 0
  · refine ⟨false, 0, by decide, by rw [if_pos c]; rfl, false, by rw [if_pos (by omega)]; rfl, rfl⟩
  · rw [if_neg c, if_neg (show ¬ -V = 0 by omega), Int.natAbs_neg]
    have h := fin_leH 0 (rU 0 53 V.natAbs 2)
    generalize finU 53 2098 9218868437227405311 9218868437227405312 0 (rU 0 53 V.natAbs 2) = x at h ⊢
    by_cases z : x = 0
    · exact ⟨false, 0, by decide, by rw [z]; rfl, false, by rw [z]; rfl, rfl⟩
    · refine ⟨decide (V < 0), x, h, by unfold mdW Fq.wD; rw [if_neg z], decide (-V < 0), by unfold mdW Fq.wD; rw [if_neg z], ?_⟩
      unfold Fq.plz
      by_cases d : V < 0
      · rw [decide_eq_true d, decide_eq_false (by omega)]; simp
      · rw [decide_eq_false d, decide_eq_true (by omega)]; simp
theorem mdP_neg (n g n' g' : Bool) (m r : Nat) (h1 : Fq.plz n' m = -Fq.plz n m) (h2 : Fq.plz g' r = -Fq.plz g r) : ∃ (s : Bool) (x : Nat), x ≤ 9218868437227405312 ∧ mdP n m g r = Fq.wD s x ∧ (∃ s', mdP g' r n' m = Fq.wD s' x ∧ Fq.plz s' x = -Fq.plz s x) := by
  have i : ∀ (k n : Bool) (m : Nat), Fq.plz k m = -Fq.plz n m → Iv k m = -Iv n m := fun k n m h => by
    have z := vV_zero_iff m
    unfold Fq.plz at h
    unfold Iv
    cases k <;> cases n <;> simp at h ⊢ <;> omega
  unfold mdP
  by_cases c1 : m = 9218868437227405312
  · by_cases c2 : r = 9218868437227405312
    · rw [if_pos c1, if_pos c2, if_pos c2, if_pos c1]
      exact ⟨false, 0, by decide, rfl, false, rfl, rfl⟩
    · rw [if_pos c1, if_neg c2, if_neg c2, if_pos c1]
      exact ⟨true, 9218868437227405311, by decide, rfl, false, rfl, rfl⟩
  · by_cases c2 : r = 9218868437227405312
    · rw [if_neg c1, if_pos c2, if_pos c2, if_neg c1]
      exact ⟨false, 9218868437227405311, by decide, rfl, true, rfl, rfl⟩
    · rw [if_neg c1, if_neg c2, if_neg c2, if_neg c1, i n' n m h1, i g' g r h2, show -Iv g r + -Iv n m = -(Iv n m + Iv g r) from by omega]
      exact hfW_neg _

theorem plz_m (n n' : Bool) (m m' : Nat) (h : Fq.plz n m = Fq.plz n' m') : m = m' := by
  unfold Fq.plz at h
  cases n <;> cases n' <;> simp at h <;> omega
theorem apW_sym (n n' : Bool) (m m' : Nat) : apW n m n' m' = apW n' m' n m := by
  unfold apW
  by_cases c : Fq.plz n m = Fq.plz n' m'
  · rw [if_pos c, if_pos c.symm]
  · rw [if_neg c, if_neg (show ¬ Fq.plz n' m' = Fq.plz n m from fun h => c h.symm)]
    by_cases d : m = 9218868437227405312 ∨ m' = 9218868437227405312
    · rw [if_pos d, if_pos d.symm]
    · rw [if_neg d, if_neg (show ¬ (m' = 9218868437227405312 ∨ m = 9218868437227405312) from fun h => d h.symm)]
      by_cases e : Fq.plz n m < Fq.plz n' m'
      · rw [if_pos e, if_neg (show ¬ Fq.plz n' m' < Fq.plz n m by omega)]
      · rw [if_neg e, if_pos (show Fq.plz n' m' < Fq.plz n m by omega)]
theorem apW_fin (n n' : Bool) (m m' : Nat) (hm : m < 9218868437227405312) (hm' : m' < 9218868437227405312) : apW n m n' m' = sumW 1 (((Iv n m - Iv n' m').natAbs : Nat) : Int) := by
  have q1 := iv_lt8 n n' m m'
  have q2 := iv_lt8 n' n m' m
  unfold apW
  by_cases c : Fq.plz n m = Fq.plz n' m'
  · rw [if_pos c, show (((Iv n m - Iv n' m').natAbs : Nat) : Int) = 0 from by omega]; rfl
  · rw [if_neg c, if_neg (by omega)]
    congr 1
    by_cases e : Fq.plz n m < Fq.plz n' m'
    · rw [if_pos e]; have := q1.2 e; omega
    · rw [if_neg e]; have := q2.2 (by omega); omega
theorem apW_zero (n n' : Bool) (m m' : Nat) : apW n m n' m' = 0 ↔ Fq.plz n m = Fq.plz n' m' := by
  constructor
  · intro h
    by_cases c : Fq.plz n m = Fq.plz n' m'
    · exact c
    · exfalso
      by_cases d : m = 9218868437227405312 ∨ m' = 9218868437227405312
      · unfold apW at h; rw [if_neg c, if_pos d] at h; omega
      · unfold apW at h
        rw [if_neg c, if_neg d] at h
        have q1 := iv_lt8 n n' m m'
        have q2 := iv_lt8 n' n m' m
        by_cases e : Fq.plz n m < Fq.plz n' m'
        · rw [if_pos e] at h; have := sumW_pos (Iv n' m' - Iv n m) (by have := q1.2 e; omega); omega
        · rw [if_neg e] at h; have := sumW_pos (Iv n m - Iv n' m') (by have := q2.2 (by omega); omega); omega
  · intro h; unfold apW; rw [if_pos h]
theorem apW_cong (n n' g : Bool) (m m' r : Nat) (h : Fq.plz n m = Fq.plz n' m') : apW n m g r = apW n' m' g r := by
  have e := plz_m n n' m m' h
  have q1 := iv_lt8 n n' m m'
  have q2 := iv_lt8 n' n m' m
  have i : Iv n m = Iv n' m' := by omega
  unfold apW
  rw [h, i, e]
theorem adU_zero (q : Nat) (h : q ≤ 9218868437227405312) : adU 0 q = q ∧ adU q 0 = q := by
  have z : Iv false 0 = 0 := by unfold Iv; rw [if_neg (by decide), Fq.vV_zero]; rfl
  unfold adU
  by_cases c : q = 9218868437227405312
  · rw [if_pos (Or.inr c), if_pos (Or.inl c), c]; exact ⟨rfl, rfl⟩
  · rw [if_neg (by omega), if_neg (by omega), z, Int.zero_add, Int.add_zero]
    have e := sumW_exact 1 false q (by omega)
    have : Fq.pla (Fq.wD false q) = q := by unfold Fq.pla Fq.wD; simp; omega
    rw [this] at e
    exact ⟨e, e⟩
theorem apW_tri (n1 n2 n3 : Bool) (m1 m2 m3 : Nat) (h1 : m1 ≤ 9218868437227405312) (h2 : m2 ≤ 9218868437227405312) (h3 : m3 ≤ 9218868437227405312) : apW n1 m1 n3 m3 ≤ adU (apW n1 m1 n2 m2) (apW n2 m2 n3 m3) := by
  have l := apW_le n1 n3 m1 m3
  have l1 := apW_le n1 n2 m1 m2
  have l2 := apW_le n2 n3 m2 m3
  by_cases c1 : Fq.plz n1 m1 = Fq.plz n2 m2
  · rw [(apW_zero n1 n2 m1 m2).2 c1, (adU_zero _ l2).1, apW_cong n1 n2 n3 m1 m2 m3 c1]
    exact Nat.le_refl _
  by_cases c2 : Fq.plz n2 m2 = Fq.plz n3 m3
  · rw [(apW_zero n2 n3 m2 m3).2 c2, (adU_zero _ l1).2, apW_sym n1 n3 m1 m3, ← apW_cong n2 n3 n1 m2 m3 m1 c2, apW_sym n2 n1 m2 m1]
    exact Nat.le_refl _
  by_cases d1 : m1 = 9218868437227405312 ∨ m2 = 9218868437227405312
  · have : apW n1 m1 n2 m2 = 9218868437227405312 := by unfold apW; rw [if_neg c1, if_pos d1]
    unfold adU; rw [if_pos (Or.inl this)]; exact l
  by_cases d2 : m2 = 9218868437227405312 ∨ m3 = 9218868437227405312
  · have : apW n2 m2 n3 m3 = 9218868437227405312 := by unfold apW; rw [if_neg c2, if_pos d2]
    unfold adU; rw [if_pos (Or.inr this)]; exact l
  rw [apW_fin n1 n2 m1 m2 (by omega) (by omega), apW_fin n2 n3 m2 m3 (by omega) (by omega), apW_fin n1 n3 m1 m3 (by omega) (by omega)]
  unfold adU
  by_cases d3 : sumW 1 (((Iv n1 m1 - Iv n2 m2).natAbs : Nat) : Int) = 9218868437227405312 ∨ sumW 1 (((Iv n2 m2 - Iv n3 m3).natAbs : Nat) : Int) = 9218868437227405312
  · rw [if_pos d3]; rw [apW_fin n1 n3 m1 m3 (by omega) (by omega)] at l; exact l
  · rw [if_neg d3]
    rw [apW_fin n1 n2 m1 m2 (by omega) (by omega)] at l1
    rw [apW_fin n2 n3 m2 m3 (by omega) (by omega)] at l2
    have g1 := sumW_ge (((Iv n1 m1 - Iv n2 m2).natAbs : Nat) : Int) (by omega) (by omega)
    have g2 := sumW_ge (((Iv n2 m2 - Iv n3 m3).natAbs : Nat) : Int) (by omega) (by omega)
    exact sumW_mono _ _ (by omega) (by omega)
/-- the greater of two -/
def mxN (p q : Nat) : Nat := if q < p then p else q
theorem tri_ds (a b c a' b' c' p q : Nat) (h1 : a ≤ adU b c) (h2 : a' ≤ adU b' c') (l1 : b ≤ 9218868437227405312) (l2 : b' ≤ 9218868437227405312) (l3 : c ≤ 9218868437227405312) (l4 : c' ≤ 9218868437227405312) (hp : p = mxN b b') (hq : q = mxN c c') : mxN a a' ≤ adU p q := by
  have m1 : b ≤ p ∧ b' ≤ p ∧ p ≤ 9218868437227405312 := by rw [hp]; unfold mxN; split <;> omega
  have m2 : c ≤ q ∧ c' ≤ q ∧ q ≤ 9218868437227405312 := by rw [hq]; unfold mxN; split <;> omega
  have e1 := adU_mono b c p q m1.1 m2.1 m1.2.2 m2.2.2
  have e2 := adU_mono b' c' p q m1.2.1 m2.2.1 m1.2.2 m2.2.2
  unfold mxN
  split <;> omega
theorem padU_ (p q : Nat) (hp : p ≤ 9218868437227405312) (hq : q ≤ 9218868437227405312) (w : World) (hT : Tab w) (hQ : Fq.Tab w) : Calls Tryz.prog 46 #[.int .i64 1, .float .f64 p, .float .f64 q] w fun e w' => e = .returned (.float .f64 (adU p q)) ∧ Kp w w' := by
  unfold adU
  by_cases c : p = 9218868437227405312 ∨ q = 9218868437227405312
  · rw [if_pos c]
    have h := paddI_ 1 false false p q (by omega) (by omega) (by omega) (fun h => by
      rcases h with h | h | h
      · omega
      · omega
      · exact h.2.2 rfl) w
    have e : Fq.wD (if p = 9218868437227405312 then false else false) 9218868437227405312 = 9218868437227405312 := by split <;> rfl
    rw [e] at h
    exact h
  · rw [if_neg c]
    exact paddF_ 1 false false p q (by omega) (by omega) w hT hQ (by decide) (by decide)
end Go.Proofs.YtgebabhfcgmjlaaGreatDoor
