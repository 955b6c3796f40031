import Derived.Test.YtgebabhfcgmjlaaDoorProg
import Derived.Test.YtgebabhfcgmjlaaDoorKXA0
import Derived.Test.YtgebabhfcgmjlaaDoorKXM
import Derived.Test.YtgebabhfcgmjlaaDoorKXY
import Derived.Test.YtgebabhfcgmjlaaDoorKXQF
import Derived.Test.YtgebabhfcgmjlaaDoorKQA
import Derived.Test.YtgebabhfcgmjlaaDoorKQP
import Derived.Test.YtgebabhfcgmjlaaDoorKXQU
import Derived.Test.YtgebabhfcgmjlaaDoorKQB
import Derived.Test.YtgebabhfcgmjlaaDoorKQBT
import Derived.Test.YtgebabhfcgmjlaaDoorKQJd
import Derived.Test.YtgebabhfcgmjlaaDoorKXEA
import Derived.Test.YtgebabhfcgmjlaaDoorKXEE
import Derived.Test.YtgebabhfcgmjlaaDoorKMR7Q
import Derived.Test.YtgebabhfcgmjlaaDoorKXMR
import Derived.Test.YtgebabhfcgmjlaaDoorKXM3
import Derived.Test.YtgebabhfcgmjlaaDoorKXO
import Derived.Test.YtgebabhfcgmjlaaDoorKXH2Q
import Derived.Test.YtgebabhfcgmjlaaDoorKXT
import Derived.Test.YtgebabhfcgmjlaaDoorKHB
import Derived.Test.YtgebabhfcgmjlaaDoorKLX
import Derived.Test.YtgebabhfcgmjlaaDoorKLN
import Derived.Test.YtgebabhfcgmjlaaDoorKW4
import Derived.Test.YtgebabhfcgmjlaaDoorKXBY
import Derived.Test.YtgebabhfcgmjlaaDoorKXTZ
import Derived.Test.YtgebabhfcgmjlaaDoorKXG1
import Derived.Test.YtgebabhfcgmjlaaDoorKNSm
import Derived.Test.YtgebabhfcgmjlaaDoorKXS1
import Derived.Test.YtgebabhfcgmjlaaDoorKXET
import Derived.Test.YtgebabhfcgmjlaaDoorKXS4
import Derived.Test.YtgebabhfcgmjlaaDoorKXS8
import Derived.WalkKit
import Derived.ProofKit
import Derived.RowKit3
import Derived.WalkSpells
import Derived.StillTactics
import Derived.Deep.QuietTactic
import Derived.BigQuiet
import Derived.Below
import Derived.Deep.OwnRows
import Derived.OwnWalk
import Derived.Laws.BitsAllLaws
import Derived.Laws.Slices
import Derived.Laws.Bits64b
import Derived.Laws.FloatArith
import Derived.Deep.RegionHeld3
namespace Go.Proofs.YtgebabhfcgmjlaaDoor
open Go.RowKit
set_option maxRecDepth 20000 in
set_option maxHeartbeats 1000000 in
theorem in8_ (a b : Nat) (w : World) : Calls Tryd.prog 7 #[.agg #[.int .u64 ((a : Nat) : Int), .int .u64 ((b : Nat) : Int)]] w fun e w' => e = .returned (.agg #[.float .f64 a, .float .f64 b]) ∧ Kp w w' := by
  have h1 := Fq.ff64 a
  have h2 := Fq.ff64 b
  generalize (a : Int) = X at h1 ⊢
  generalize (b : Int) = Y at h2 ⊢
  go_enter Tryd.func7, Tryd.ntmps7
  go_wp2
  go_region_held3 (fun w' => w'.cell? ⟨w.heap.size, 0, none⟩ = some (.int .u64 X) ∧ w'.cell? ⟨w.heap.size, 1, none⟩ = some (.int .u64 Y)) (simp [go_sem]) (fail)
  go_wp2
  exact bodyPost_ret (v := .agg #[.float .f64 a, .float .f64 b]) (by simp [results, Tryd.results7, go_sem]) rfl ⟨rfl, (by repeat (with_reducible (first | assumption | exact Kp.refl _ | apply Kp.drew | apply Kp.alloc | apply Kp.drewN | (refine Kp.setCell ?_ (by first | omega | (simp <;> omega)) _) | (refine Kp.trans ?_ (by assumption)))))⟩
theorem snd_read8 (a b : Nat) (ha : a < 18446744073709551616) (hb : b < 18446744073709551616) (s1 : Fq.snd a b = true) : Fq.snd (Fq.rlo a b) (Fq.rhi a b) = true := by
  obtain ⟨n, m, hm, rfl⟩ := Fq.exD a ha
  obtain ⟨g, r, hr, rfl⟩ := Fq.exD b hb
  have e1 : Fq.rlo (Fq.wD n m) (Fq.wD g r) = Fq.wD (if n = true ∧ m = 0 then false else n) m := by
    simp only [Fq.rlo, s1, if_true]
    unfold Fq.pla Fq.wD
    cases n <;> by_cases z : m = 0 <;> simp [z] <;> omega
  have e2 : Fq.rhi (Fq.wD n m) (Fq.wD g r) = Fq.wD (if g = true ∧ r = 0 then false else g) r := by
    simp only [Fq.rhi, s1, if_true]
    unfold Fq.pla Fq.wD
    cases g <;> by_cases z : r = 0 <;> simp [z] <;> omega
  rw [e1, e2, Fq.snd_w _ _ _ _ hm hr]
  rw [Fq.snd_w _ _ _ _ hm hr] at s1
  have h := of_decide_eq_true s1
  apply decide_eq_true
  have p1 : Fq.plz (if n = true ∧ m = 0 then false else n) m = Fq.plz n m := by
    unfold Fq.plz; cases n <;> by_cases z : m = 0 <;> simp [z]
  have p2 : Fq.plz (if g = true ∧ r = 0 then false else g) r = Fq.plz g r := by
    unfold Fq.plz; cases g <;> by_cases z : r = 0 <;> simp [z]
  rw [p1, p2]
  refine ⟨h.1, h.2.1, h.2.2.1, ?_, ?_⟩
  · rintro ⟨h1, h2⟩
    rw [if_neg (by omega)] at h1
    exact h.2.2.2.1 ⟨h1, h2⟩
  · rintro ⟨h1, h2⟩
    rw [if_neg (by omega)] at h1
    exact h.2.2.2.2 ⟨h1, h2⟩
theorem pla_pla8 (x : Nat) : Fq.pla (Fq.pla x) = Fq.pla x := by unfold Fq.pla; split <;> simp_all
theorem rlo_read8 (a b : Nat) (ha : a < 18446744073709551616) (hb : b < 18446744073709551616) (s1 : Fq.snd a b = true) : Fq.rlo (Fq.rlo a b) (Fq.rhi a b) = Fq.rlo a b := by
  have h := snd_read8 a b ha hb s1
  rw [Fq.rlo, if_pos h]
  simp only [Fq.rlo, s1, if_true, pla_pla8]
theorem rhi_read8 (a b : Nat) (ha : a < 18446744073709551616) (hb : b < 18446744073709551616) (s1 : Fq.snd a b = true) : Fq.rhi (Fq.rlo a b) (Fq.rhi a b) = Fq.rhi a b := by
  have h := snd_read8 a b ha hb s1
  rw [Fq.rhi, if_pos h]
  simp only [Fq.rhi, s1, if_true, pla_pla8]
namespace Fq
theorem eqInM (a c : Nat) (w : World) : (Op.equalIn 9999 25 (.float .f64 a) (.float .f64 c)).run Tryd.prog w = .ok (FloatKind.f64.format.order a c == some Ordering.eq) w := by kernel_rfl
set_option maxRecDepth 20000 in
set_option maxHeartbeats 1000000 in
theorem voidM_ (a b : Nat) (ha : a < 18446744073709551616) (hb : b < 18446744073709551616) (w : World) : Calls Tryd.prog 10 #[.agg #[.float .f64 a, .float .f64 b]] w fun e w' => e = .returned (.bool (decide (a = 9218868437227405312 ∧ b = 18442240474082181120))) ∧ Grown w w' := by
  have t2 := feqI a ha
  have t3 := feqM b hb
  have e1 : (decide (a = 9218868437227405312 ∧ b = 18442240474082181120)) = ((FloatKind.f64.format.order a 9218868437227405312 == some Ordering.eq) && (FloatKind.f64.format.order b 18442240474082181120 == some Ordering.eq)) := by
    rw [t2, t3]; by_cases c1 : a = 9218868437227405312 <;> by_cases c2 : b = 18442240474082181120 <;> simp [c1, c2]
  rw [e1]
  clear e1 t2 t3 ha hb
  have h0 := eqInM a 9218868437227405312
  have h1 := eqInM b 18442240474082181120
  generalize g1 : (FloatKind.f64.format.order a 9218868437227405312 == some Ordering.eq) = B1 at h0 ⊢
  generalize g2 : (FloatKind.f64.format.order b 18442240474082181120 == some Ordering.eq) = B2 at h1 ⊢
  cases B1 <;> cases B2
  · go_enter Tryd.func10, Tryd.ntmps10
    go_wp2
    go_region_held3 (fun w' => w'.cell? ⟨w.heap.size, 0, none⟩ = some (.float .f64 a) ∧ w'.cell? ⟨w.heap.size, 1, none⟩ = some (.float .f64 b)) (simp [go_sem, World.cell?_alloc_past]) (first | (go_at_call 25; refine (empty6_ _).mono ?_; rintro e w' ⟨rfl, rfl⟩))
    go_wp2
    exact bodyPost_ret (v := .bool false) (by simp [results, Tryd.results10, go_sem] <;> simp only [*]) rfl ⟨rfl, (by repeat (with_reducible (first | assumption | exact Grown.refl _ | apply Grown.drew | apply Grown.alloc | apply gdrewN | (refine Grown.setCell ?_ (by simp <;> omega) _) | (refine gtrans ?_ (by assumption)))))⟩
  · go_enter Tryd.func10, Tryd.ntmps10
    go_wp2
    go_region_held3 (fun w' => w'.cell? ⟨w.heap.size, 0, none⟩ = some (.float .f64 a) ∧ w'.cell? ⟨w.heap.size, 1, none⟩ = some (.float .f64 b)) (simp [go_sem, World.cell?_alloc_past]) (first | (go_at_call 25; refine (empty6_ _).mono ?_; rintro e w' ⟨rfl, rfl⟩))
    go_wp2
    exact bodyPost_ret (v := .bool false) (by simp [results, Tryd.results10, go_sem] <;> simp only [*]) rfl ⟨rfl, (by repeat (with_reducible (first | assumption | exact Grown.refl _ | apply Grown.drew | apply Grown.alloc | apply gdrewN | (refine Grown.setCell ?_ (by simp <;> omega) _) | (refine gtrans ?_ (by assumption)))))⟩
  · go_enter Tryd.func10, Tryd.ntmps10
    go_wp2
    go_region_held3 (fun w' => w'.cell? ⟨w.heap.size, 0, none⟩ = some (.float .f64 a) ∧ w'.cell? ⟨w.heap.size, 1, none⟩ = some (.float .f64 b)) (simp [go_sem, World.cell?_alloc_past]) (first | (go_at_call 25; refine (empty6_ _).mono ?_; rintro e w' ⟨rfl, rfl⟩))
    go_wp2
    exact bodyPost_ret (v := .bool false) (by simp [results, Tryd.results10, go_sem] <;> simp only [*]) rfl ⟨rfl, (by repeat (with_reducible (first | assumption | exact Grown.refl _ | apply Grown.drew | apply Grown.alloc | apply gdrewN | (refine Grown.setCell ?_ (by simp <;> omega) _) | (refine gtrans ?_ (by assumption)))))⟩
  · go_enter Tryd.func10, Tryd.ntmps10
    go_wp2
    go_region_held3 (fun w' => w'.cell? ⟨w.heap.size, 0, none⟩ = some (.float .f64 a) ∧ w'.cell? ⟨w.heap.size, 1, none⟩ = some (.float .f64 b)) (simp [go_sem, World.cell?_alloc_past]) (first | (go_at_call 25; refine (empty6_ _).mono ?_; rintro e w' ⟨rfl, rfl⟩))
    go_wp2
    exact bodyPost_ret (v := .bool true) (by simp [results, Tryd.results10, go_sem] <;> simp only [*]) rfl ⟨rfl, (by repeat (with_reducible (first | assumption | exact Grown.refl _ | apply Grown.drew | apply Grown.alloc | apply gdrewN | (refine Grown.setCell ?_ (by simp <;> omega) _) | (refine gtrans ?_ (by assumption)))))⟩
end Fq

theorem iv_lt8 (n n' : Bool) (m m' : Nat) : Iv n m < Iv n' m' ↔ Fq.plz n m < Fq.plz n' m' := by
  have h1 := Fq.vV_lt_iff Ieee.double m m'
  have h2 := Fq.vV_lt_iff Ieee.double m' m
  have h3 := vV_zero_iff m
  have h4 := vV_zero_iff m'
  unfold Iv Fq.plz
  cases n <;> cases n' <;> simp <;> omega
open Ieee in
theorem fgt8 (n n' : Bool) (m m' : Nat) (h : m < 9223372036854775808) (h' : m' < 9223372036854775808) : (FloatKind.f64.format.order (Fq.wD n m) (Fq.wD n' m') == some Ordering.gt) = decide (m ≤ 9218868437227405312 ∧ m' ≤ 9218868437227405312 ∧ Fq.plz n' m' < Fq.plz n m) := by
  by_cases c : 9218868437227405312 < m
  · rw [Fq.ordD_nanl n m _ c h, decide_eq_false (by omega)]; rfl
  by_cases c' : 9218868437227405312 < m'
  · rw [Fq.ordD_nanr n' m' _ c' h', decide_eq_false (by omega)]; rfl
  rw [Fq.ordD n n' m m' (by omega) (by omega)]
  rcases Int.lt_trichotomy (Fq.plz n m) (Fq.plz n' m') with g | g | g
  · rw [Fq.cmp_lt g, decide_eq_false (by omega)]; rfl
  · rw [Fq.cmp_eq g, decide_eq_false (by omega)]; rfl
  · rw [Fq.cmp_gt g, decide_eq_true ⟨by omega, by omega, by omega⟩]; rfl
theorem flip8 (n : Bool) (m : Nat) (hm : m < 9223372036854775808) : Fq.wD n m ^^^ 9223372036854775808 = Fq.wD (!n) m := by
  obtain ⟨x, hx⟩ : ∃ x, x = Fq.wD n m := ⟨_, rfl⟩
  have h1 : (x ^^^ 9223372036854775808) % 2 ^ 63 = x % 2 ^ 63 := by
    rw [Nat.xor_mod_two_pow, show (9223372036854775808 : Nat) % 2 ^ 63 = 0 from by decide, Nat.xor_zero]
  have h2 : (x ^^^ 9223372036854775808) / 2 ^ 63 = x / 2 ^ 63 ^^^ 1 := by
    rw [← Nat.shiftRight_eq_div_pow, ← Nat.shiftRight_eq_div_pow, Nat.shiftRight_xor_distrib, show (9223372036854775808 : Nat) >>> 63 = 1 from by decide]
  rw [show (2 : Nat) ^ 63 = 9223372036854775808 from by decide] at h1 h2
  rw [← hx]
  generalize hz : x ^^^ 9223372036854775808 = z at h1 h2 ⊢
  clear hz
  cases n
  · have e : x = m := by rw [hx]; unfold Fq.wD; simp
    rw [e, Nat.div_eq_of_lt hm, show (0 : Nat) ^^^ 1 = 1 from by decide] at h2
    rw [e, Nat.mod_eq_of_lt hm] at h1
    unfold Fq.wD
    simp
    omega
  · have e : x = 9223372036854775808 + m := by rw [hx]; unfold Fq.wD; simp
    have e2 : x / 9223372036854775808 = 1 := by omega
    have e3 : x % 9223372036854775808 = m := by omega
    rw [e2, show (1 : Nat) ^^^ 1 = 0 from by decide] at h2
    rw [e3] at h1
    unfold Fq.wD
    simp
    omega
theorem negW8 (n : Bool) (m : Nat) (hm : m < 9223372036854775808) (w : World) : (Op.unary .neg (.float .f64 (Fq.wD n m))).run Tryd.prog w = .ok (.float .f64 (Fq.wD (!n) m)) w := by
  have h : Op.negFloat .f64 (Fq.wD n m) = Fq.wD (!n) m := by
    unfold Op.negFloat
    exact flip8 n m hm
  rw [← h]; rfl
set_option maxRecDepth 20000 in
set_option maxHeartbeats 400000 in
theorem nan8_ (w : World) : Calls Tryd.prog 11 #[] w fun e w' => e = .returned (.float .f64 9221120237041090561) ∧ Kp w w' := by
  have h1 : ∀ w : World, (callFunc 16 #[.int .u64 9221120237041090561]).run Tryd.prog w = .ok (.value (.float .f64 9221120237041090561)) w := Fq.ff64 9221120237041090561
  go_enter Tryd.func11, Tryd.ntmps11
  go_wp2
  exact bodyPost_ret (v := .float .f64 9221120237041090561) (by simp [results, Tryd.results11, go_sem]) rfl ⟨rfl, (by repeat (with_reducible (first | assumption | exact Kp.refl _ | apply Kp.drew | apply Kp.alloc | apply Kp.drewN | (refine Kp.setCell ?_ (by first | omega | (simp <;> omega)) _) | (refine Kp.trans ?_ (by assumption)))))⟩
set_option maxRecDepth 20000 in
set_option maxHeartbeats 400000 in
theorem greater8t_ (X Y : Nat) (t : (FloatKind.f64.format.order X Y == some Ordering.gt) = true) (w : World) : Calls Tryd.prog 12 #[.float .f64 X, .float .f64 Y] w fun e w' => e = .returned (.float .f64 X) ∧ w' = w := by
  go_enter Tryd.func12, Tryd.ntmps12
  go_wp2
  exact bodyPost_ret (v := .float .f64 X) (by simp [results, Tryd.results12, go_sem]) rfl ⟨rfl, rfl⟩
set_option maxRecDepth 20000 in
set_option maxHeartbeats 400000 in
theorem greater8f_ (X Y : Nat) (t : (FloatKind.f64.format.order X Y == some Ordering.gt) = false) (w : World) : Calls Tryd.prog 12 #[.float .f64 X, .float .f64 Y] w fun e w' => e = .returned (.float .f64 Y) ∧ w' = w := by
  go_enter Tryd.func12, Tryd.ntmps12
  go_wp2
  exact bodyPost_ret (v := .float .f64 Y) (by simp [results, Tryd.results12, go_sem]) rfl ⟨rfl, rfl⟩
theorem greater8_ (m m' : Nat) (h : m ≤ 9218868437227405312) (h' : m' ≤ 9218868437227405312) (w : World) : Calls Tryd.prog 12 #[.float .f64 m, .float .f64 m'] w fun e w' => e = .returned (.float .f64 (if m' < m then m else m')) ∧ w' = w := by
  have t := fgt8 false false m m' (by omega) (by omega)
  rw [show Fq.wD false m = m from rfl, show Fq.wD false m' = m' from rfl] at t
  by_cases c : m' < m
  · rw [if_pos c]
    exact greater8t_ m m' (by rw [t]; exact decide_eq_true ⟨h, h', by unfold Fq.plz; simp; omega⟩) w
  · rw [if_neg c]
    exact greater8f_ m m' (by rw [t]; exact decide_eq_false (fun x => c (by have := x.2.2; unfold Fq.plz at this; simp at this; omega))) w
theorem void8_ (a b : Nat) (ha : a < 18446744073709551616) (hb : b < 18446744073709551616) (V : Bool) (hs : Fq.snd a b = !V) (w : World) : Calls Tryd.prog 10 #[.agg #[.float .f64 (Fq.rlo a b), .float .f64 (Fq.rhi a b)]] w fun e w' => e = .returned (.bool V) ∧ Kp w w' := by
  have h := Fq.voidM_ (Fq.rlo a b) (Fq.rhi a b) (Fq.rlo_lt a b ha) (Fq.rhi_lt a b hb) w
  rw [Fq.void_read, hs, Bool.not_not] at h
  exact h
set_option maxRecDepth 20000 in
set_option maxHeartbeats 400000 in
theorem psubA_ (X Y V R : Nat) (d : Int) (h2 : ∀ w : World, (Op.unary .neg (.float .f64 Y)).run Tryd.prog w = .ok (.float .f64 V) w) (w : World) (h1 : Calls Tryd.prog 8 #[.int .i64 d, .float .f64 X, .float .f64 V] w fun e w' => e = .returned (.float .f64 R) ∧ Kp w w') : Calls Tryd.prog 27 #[.int .i64 d, .float .f64 X, .float .f64 Y] w fun e w' => e = .returned (.float .f64 R) ∧ Kp w w' := by
  go_enter Tryd.func27, Tryd.ntmps27
  go_wp2_with (first | (go_at_call 8; refine h1.mono ?_; rintro e w1 ⟨rfl, g1⟩))
  exact bodyPost_ret (v := .float .f64 R) (by simp [results, Tryd.results27, go_sem]) rfl ⟨rfl, g1⟩
set_option maxRecDepth 20000 in
set_option maxHeartbeats 400000 in
theorem apL_ (X Y R : Nat) (t1 : (FloatKind.f64.format.order X Y == some Ordering.lt) = true) (w : World) (h1 : Calls Tryd.prog 27 #[.int .i64 1, .float .f64 Y, .float .f64 X] w fun e w' => e = .returned (.float .f64 R) ∧ Kp w w') : Calls Tryd.prog 13 #[.float .f64 X, .float .f64 Y] w fun e w' => e = .returned (.float .f64 R) ∧ Kp w w' := by
  go_enter Tryd.func13, Tryd.ntmps13
  go_wp2_with (first | (go_at_call 27; refine h1.mono ?_; rintro e w1 ⟨rfl, g1⟩))
  exact bodyPost_ret (v := .float .f64 R) (by simp [results, Tryd.results13, go_sem]) rfl ⟨rfl, g1⟩
set_option maxRecDepth 20000 in
set_option maxHeartbeats 400000 in
theorem apG_ (X Y R : Nat) (t1 : (FloatKind.f64.format.order X Y == some Ordering.lt) = false) (t2 : (FloatKind.f64.format.order X Y == some Ordering.gt) = true) (w : World) (h1 : Calls Tryd.prog 27 #[.int .i64 1, .float .f64 X, .float .f64 Y] w fun e w' => e = .returned (.float .f64 R) ∧ Kp w w') : Calls Tryd.prog 13 #[.float .f64 X, .float .f64 Y] w fun e w' => e = .returned (.float .f64 R) ∧ Kp w w' := by
  go_enter Tryd.func13, Tryd.ntmps13
  go_wp2_with (first | (go_at_call 27; refine h1.mono ?_; rintro e w1 ⟨rfl, g1⟩))
  exact bodyPost_ret (v := .float .f64 R) (by simp [results, Tryd.results13, go_sem]) rfl ⟨rfl, g1⟩
set_option maxRecDepth 20000 in
set_option maxHeartbeats 400000 in
theorem apE_ (X Y : Nat) (t1 : (FloatKind.f64.format.order X Y == some Ordering.lt) = false) (t2 : (FloatKind.f64.format.order X Y == some Ordering.gt) = false) (w : World) : Calls Tryd.prog 13 #[.float .f64 X, .float .f64 Y] w fun e w' => e = .returned (.float .f64 0) ∧ Kp w w' := by
  go_enter Tryd.func13, Tryd.ntmps13
  go_wp2
  exact bodyPost_ret (v := .float .f64 0) (by simp [results, Tryd.results13, go_sem]) rfl ⟨rfl, (by repeat (with_reducible (first | assumption | exact Kp.refl _ | apply Kp.drew | apply Kp.alloc | apply Kp.drewN | (refine Kp.setCell ?_ (by first | omega | (simp <;> omega)) _) | (refine Kp.trans ?_ (by assumption)))))⟩
/-- how far two ends lie apart, rounded up -/
def apW (n : Bool) (m : Nat) (n' : Bool) (m' : Nat) : Nat := if Fq.plz n m = Fq.plz n' m' then 0 else if m = 9218868437227405312 ∨ m' = 9218868437227405312 then 9218868437227405312 else sumW 1 (if Fq.plz n m < Fq.plz n' m' then Iv n' m' - Iv n m else Iv n m - Iv n' m')
theorem fin_le8 (d : Int) (U : Nat) : finU 53 2098 9218868437227405311 9218868437227405312 d U ≤ 9218868437227405312 := by
  unfold finU
  split
  · next h =>
    unfold rgU
    by_cases c : U = 0
    · rw [c, blen_zero]; simp
    · obtain ⟨h1, h2, h3⟩ := blen_spec U c
      have h4 : U / 2 ^ (blen U - 53) < 9007199254740992 := by
        have := blen_shr U (blen U - 53)
        have h5 : blen (U / 2 ^ (blen U - 53)) ≤ 53 := by omega
        rw [blen_le_iff, show (2 : Nat) ^ 53 = 9007199254740992 from by decide] at h5
        exact h5
      rw [show (2 : Nat) ^ (53 - 1) = 4503599627370496 from by decide]
      omega
  · split <;> omega
theorem sumW_le8 (d V : Int) (h : 0 ≤ V) : sumW d V ≤ 9218868437227405312 := by
  unfold sumW
  by_cases c : V = 0
  · rw [if_pos c]; omega
  · rw [if_neg c, decide_eq_false (by omega)]
    unfold mdW
    split
    · omega
    · rw [if_neg (by decide)]
      exact fin_le8 _ _
theorem apW_le (n n' : Bool) (m m' : Nat) : apW n m n' m' ≤ 9218868437227405312 := by
  unfold apW
  by_cases c1 : Fq.plz n m = Fq.plz n' m'
  · rw [if_pos c1]; omega
  · rw [if_neg c1]
    by_cases c2 : m = 9218868437227405312 ∨ m' = 9218868437227405312
    · rw [if_pos c2]; omega
    · rw [if_neg c2]
      apply sumW_le8
      by_cases c3 : Fq.plz n m < Fq.plz n' m'
      · rw [if_pos c3]; have := (iv_lt8 n n' m m').2 c3; omega
      · rw [if_neg c3]; have := (iv_lt8 n' n m' m).2 (by omega); omega
theorem psub8_ (n n' : Bool) (m m' : Nat) (hm : m ≤ 9218868437227405312) (hm' : m' ≤ 9218868437227405312) (hlt : Fq.plz n' m' < Fq.plz n m) (w : World) (hT : Tab w) (hQ : Fq.Tab w) : Calls Tryd.prog 27 #[.int .i64 1, .float .f64 (Fq.wD n m), .float .f64 (Fq.wD n' m')] w fun e w' => e = .returned (.float .f64 (if m = 9218868437227405312 ∨ m' = 9218868437227405312 then 9218868437227405312 else sumW 1 (Iv n m - Iv n' m'))) ∧ Kp w w' := by
  have P1 : Fq.plz n m = if n then -(m : Int) else m := by unfold Fq.plz; cases n <;> rfl
  have P2 : Fq.plz n' m' = if n' then -(m' : Int) else m' := by unfold Fq.plz; cases n' <;> rfl
  by_cases c : m = 9218868437227405312 ∨ m' = 9218868437227405312
  · rw [if_pos c]
    have i1 : m = 9218868437227405312 → n = false := fun h => by
      cases n
      · rfl
      · rw [P1, P2, h] at hlt; cases n' <;> simp at hlt <;> omega
    have i2 : m' = 9218868437227405312 → n' = true := fun h => by
      cases n'
      · rw [P1, P2, h] at hlt; cases n <;> simp at hlt <;> omega
      · rfl
    have h := paddI_ 1 n (!n') m m' (by omega) (by omega) (by omega) (fun h => by
      rcases h with h | h | h
      · omega
      · omega
      · exact h.2.2 (by rw [i1 h.1, i2 h.2.1]; rfl)) w
    have e : Fq.wD (if m = 9218868437227405312 then n else !n') 9218868437227405312 = 9218868437227405312 := by
      by_cases c1 : m = 9218868437227405312
      · rw [if_pos c1, i1 c1]; rfl
      · rw [if_neg c1, i2 (by omega)]; rfl
    rw [e] at h
    exact psubA_ _ _ _ _ 1 (negW8 n' m' (by omega)) w h
  · rw [if_neg c, show Iv n m - Iv n' m' = Iv n m + Iv (!n') m' from by rw [iv_not]; omega]
    exact psubA_ _ _ _ _ 1 (negW8 n' m' (by omega)) w (paddF_ 1 n (!n') m m' (by omega) (by omega) w hT hQ (by decide) (by decide))
theorem apart8_ (n n' : Bool) (m m' : Nat) (hm : m ≤ 9218868437227405312) (hm' : m' ≤ 9218868437227405312) (w : World) (hT : Tab w) (hQ : Fq.Tab w) : Calls Tryd.prog 13 #[.float .f64 (Fq.wD n m), .float .f64 (Fq.wD n' m')] w fun e w' => e = .returned (.float .f64 (apW n m n' m')) ∧ Kp w w' := by
  have f1 := Fq.flt n n' m m' (by omega) (by omega)
  have f2 := fgt8 n n' m m' (by omega) (by omega)
  unfold apW
  rcases Int.lt_trichotomy (Fq.plz n m) (Fq.plz n' m') with g | g | g
  · rw [decide_eq_true ⟨hm, hm', g⟩] at f1
    rw [if_neg (by omega), if_pos g]
    have h := psub8_ n' n m' m hm' hm g w hT hQ
    have e9 : (if m' = 9218868437227405312 ∨ m = 9218868437227405312 then 9218868437227405312 else sumW 1 (Iv n' m' - Iv n m)) = (if m = 9218868437227405312 ∨ m' = 9218868437227405312 then 9218868437227405312 else sumW 1 (Iv n' m' - Iv n m)) := by
      by_cases c : m = 9218868437227405312 ∨ m' = 9218868437227405312
      · rw [if_pos c, if_pos c.symm]
      · rw [if_neg c, if_neg (fun h => c h.symm)]
    rw [e9] at h
    exact apL_ _ _ _ f1 w h
  · rw [decide_eq_false (by omega)] at f1 f2
    rw [if_pos g]
    exact apE_ _ _ f1 f2 w
  · rw [decide_eq_false (by omega)] at f1
    rw [decide_eq_true ⟨hm, hm', g⟩] at f2
    rw [if_neg (show ¬ Fq.plz n m = Fq.plz n' m' by omega), if_neg (show ¬ Fq.plz n m < Fq.plz n' m' by omega)]
    exact apG_ _ _ _ f1 f2 w (psub8_ n n' m m' hm hm' g w hT hQ)
theorem rlo_inf (a b : Nat) (hs : Fq.snd a b = true) (n : Bool) (m : Nat) (e1 : Fq.rlo a b = Fq.wD n m) (c : m = 9218868437227405312) : n = true := by
  have h2 : a ≠ 9218868437227405312 := by intro h; rw [h] at hs; simp [Fq.snd] at hs
  have h1 : Fq.rlo a b ≠ 9218868437227405312 := by simp only [Fq.rlo, hs, if_true, Fq.pla]; split <;> omega
  rw [e1, c] at h1
  cases n
  · exact absurd rfl h1
  · rfl
theorem rhi_inf (a b : Nat) (hs : Fq.snd a b = true) (n : Bool) (m : Nat) (e1 : Fq.rhi a b = Fq.wD n m) (c : m = 9218868437227405312) : n = false := by
  have h2 : b ≠ 18442240474082181120 := by intro h; rw [h] at hs; simp [Fq.snd] at hs
  have h1 : Fq.rhi a b ≠ 18442240474082181120 := by simp only [Fq.rhi, hs, if_true, Fq.pla]; split <;> omega
  rw [e1, c] at h1
  cases n
  · rfl
  · exact absurd rfl h1
theorem wD_inj6 (n n' : Bool) (m m' : Nat) (h : m < 9223372036854775808) (h' : m' < 9223372036854775808) (e : Fq.wD n m = Fq.wD n' m') : n = n' ∧ m = m' := by
  unfold Fq.wD at e
  cases n <;> cases n' <;> simp at e ⊢ <;> omega
theorem pla_ne (x : Nat) : Fq.pla x ≠ 9223372036854775808 := by unfold Fq.pla; split <;> omega
theorem rlo_ne (a b : Nat) : Fq.rlo a b ≠ 9223372036854775808 := by
  unfold Fq.rlo
  split
  · exact pla_ne a
  · decide
theorem rhi_ne (a b : Nat) : Fq.rhi a b ≠ 9223372036854775808 := by
  unfold Fq.rhi
  split
  · exact pla_ne b
  · decide

theorem lo_inf8 (a b : Nat) (s1 : Fq.snd a b = true) (n : Bool) (m : Nat) (l1 : m ≤ 9218868437227405312) (e1 : Fq.rlo a b = Fq.wD n m) : ((((Fq.wD n m : Nat) : Int)) == 9218868437227405312) = false := by
  have i1 := rlo_inf a b s1 n m e1
  have h2 : Fq.wD n m ≠ 9218868437227405312 := by
    intro h
    have hh := wD_inj6 n false m 9218868437227405312 (by omega) (by decide) (h.trans rfl)
    have := i1 hh.2
    rw [hh.1] at this; cases this
  simp; omega
theorem rread8 (a b : Nat) (ha : a < 18446744073709551616) (hb : b < 18446744073709551616) (w : World) : Calls Tryd.prog 5 #[.agg #[.int .u64 ((a : Nat) : Int), .int .u64 ((b : Nat) : Int)]] w fun e w' => e = .returned (.agg #[.int .u64 ((Fq.rlo a b : Nat) : Int), .int .u64 ((Fq.rhi a b : Nat) : Int)]) ∧ Kp w w' := by
  obtain ⟨n, m, hm, rfl⟩ := Fq.exD a ha
  obtain ⟨n', m', hm', rfl⟩ := Fq.exD b hb
  exact Fq.rread_ n n' m m' hm hm' w
theorem rempty8 (a b : Nat) (s1 : Fq.snd a b = false) : Fq.rlo a b = 9218868437227405312 ∧ Fq.rhi a b = 18442240474082181120 := by
  constructor
  · rw [Fq.rlo, if_neg (by rw [s1]; decide)]
  · rw [Fq.rhi, if_neg (by rw [s1]; decide)]
theorem le_read8 (a b : Nat) (ha : a < 18446744073709551616) (hb : b < 18446744073709551616) (s1 : Fq.snd a b = true) (n g : Bool) (m r : Nat) (l1 : m ≤ 9218868437227405312) (l2 : r ≤ 9218868437227405312) (e1 : Fq.rlo a b = Fq.wD n m) (e2 : Fq.rhi a b = Fq.wD g r) : Fq.plz n m ≤ Fq.plz g r := by
  have h := snd_read8 a b ha hb s1
  rw [e1, e2, Fq.snd_w n g m r (by omega) (by omega)] at h
  exact (of_decide_eq_true h).2.2.1

theorem plz_m (n n' : Bool) (m m' : Nat) (h : Fq.plz n m = Fq.plz n' m') : m = m' := by
  unfold Fq.plz at h
  cases n <;> cases n' <;> simp at h <;> omega
theorem apW_sym (n n' : Bool) (m m' : Nat) : apW n m n' m' = apW n' m' n m := by
  unfold apW
  by_cases c : Fq.plz n m = Fq.plz n' m'
  · rw [if_pos c, if_pos c.symm]
  · rw [if_neg c, if_neg (show ¬ Fq.plz n' m' = Fq.plz n m from fun h => c h.symm)]
    by_cases d : m = 9218868437227405312 ∨ m' = 9218868437227405312
    · rw [if_pos d, if_pos d.symm]
    · rw [if_neg d, if_neg (show ¬ (m' = 9218868437227405312 ∨ m = 9218868437227405312) from fun h => d h.symm)]
      by_cases e : Fq.plz n m < Fq.plz n' m'
      · rw [if_pos e, if_neg (show ¬ Fq.plz n' m' < Fq.plz n m by omega)]
      · rw [if_neg e, if_pos (show Fq.plz n' m' < Fq.plz n m by omega)]
theorem apW_fin (n n' : Bool) (m m' : Nat) (hm : m < 9218868437227405312) (hm' : m' < 9218868437227405312) : apW n m n' m' = sumW 1 (((Iv n m - Iv n' m').natAbs : Nat) : Int) := by
  have q1 := iv_lt8 n n' m m'
  have q2 := iv_lt8 n' n m' m
  unfold apW
  by_cases c : Fq.plz n m = Fq.plz n' m'
  · rw [if_pos c, show (((Iv n m - Iv n' m').natAbs : Nat) : Int) = 0 from by omega]; rfl
  · rw [if_neg c, if_neg (by omega)]
    congr 1
    by_cases e : Fq.plz n m < Fq.plz n' m'
    · rw [if_pos e]; have := q1.2 e; omega
    · rw [if_neg e]; have := q2.2 (by omega); omega
theorem apW_zero (n n' : Bool) (m m' : Nat) : apW n m n' m' = 0 ↔ Fq.plz n m = Fq.plz n' m' := by
  constructor
  · intro h
    by_cases c : Fq.plz n m = Fq.plz n' m'
    · exact c
    · exfalso
      by_cases d : m = 9218868437227405312 ∨ m' = 9218868437227405312
      · unfold apW at h; rw [if_neg c, if_pos d] at h; omega
      · unfold apW at h
        rw [if_neg c, if_neg d] at h
        have q1 := iv_lt8 n n' m m'
        have q2 := iv_lt8 n' n m' m
        by_cases e : Fq.plz n m < Fq.plz n' m'
        · rw [if_pos e] at h; have := sumW_pos (Iv n' m' - Iv n m) (by have := q1.2 e; omega); omega
        · rw [if_neg e] at h; have := sumW_pos (Iv n m - Iv n' m') (by have := q2.2 (by omega); omega); omega
  · intro h; unfold apW; rw [if_pos h]
theorem apW_cong (n n' g : Bool) (m m' r : Nat) (h : Fq.plz n m = Fq.plz n' m') : apW n m g r = apW n' m' g r := by
  have e := plz_m n n' m m' h
  have q1 := iv_lt8 n n' m m'
  have q2 := iv_lt8 n' n m' m
  have i : Iv n m = Iv n' m' := by omega
  unfold apW
  rw [h, i, e]
theorem adU_zero (q : Nat) (h : q ≤ 9218868437227405312) : adU 0 q = q ∧ adU q 0 = q := by
  have z : Iv false 0 = 0 := by unfold Iv; rw [if_neg (by decide), Fq.vV_zero]; rfl
  unfold adU
  by_cases c : q = 9218868437227405312
  · rw [if_pos (Or.inr c), if_pos (Or.inl c), c]; exact ⟨rfl, rfl⟩
  · rw [if_neg (by omega), if_neg (by omega), z, Int.zero_add, Int.add_zero]
    have e := sumW_exact 1 false q (by omega)
    have : Fq.pla (Fq.wD false q) = q := by unfold Fq.pla Fq.wD; simp; omega
    rw [this] at e
    exact ⟨e, e⟩
theorem apW_tri (n1 n2 n3 : Bool) (m1 m2 m3 : Nat) (h1 : m1 ≤ 9218868437227405312) (h2 : m2 ≤ 9218868437227405312) (h3 : m3 ≤ 9218868437227405312) : apW n1 m1 n3 m3 ≤ adU (apW n1 m1 n2 m2) (apW n2 m2 n3 m3) := by
  have l := apW_le n1 n3 m1 m3
  have l1 := apW_le n1 n2 m1 m2
  have l2 := apW_le n2 n3 m2 m3
  by_cases c1 : Fq.plz n1 m1 = Fq.plz n2 m2
  · rw [(apW_zero n1 n2 m1 m2).2 c1, (adU_zero _ l2).1, apW_cong n1 n2 n3 m1 m2 m3 c1]
    exact Nat.le_refl _
  by_cases c2 : Fq.plz n2 m2 = Fq.plz n3 m3
  · rw [(apW_zero n2 n3 m2 m3).2 c2, (adU_zero _ l1).2, apW_sym n1 n3 m1 m3, ← apW_cong n2 n3 n1 m2 m3 m1 c2, apW_sym n2 n1 m2 m1]
    exact Nat.le_refl _
  by_cases d1 : m1 = 9218868437227405312 ∨ m2 = 9218868437227405312
  · have : apW n1 m1 n2 m2 = 9218868437227405312 := by unfold apW; rw [if_neg c1, if_pos d1]
    unfold adU; rw [if_pos (Or.inl this)]; exact l
  by_cases d2 : m2 = 9218868437227405312 ∨ m3 = 9218868437227405312
  · have : apW n2 m2 n3 m3 = 9218868437227405312 := by unfold apW; rw [if_neg c2, if_pos d2]
    unfold adU; rw [if_pos (Or.inr this)]; exact l
  rw [apW_fin n1 n2 m1 m2 (by omega) (by omega), apW_fin n2 n3 m2 m3 (by omega) (by omega), apW_fin n1 n3 m1 m3 (by omega) (by omega)]
  unfold adU
  by_cases d3 : sumW 1 (((Iv n1 m1 - Iv n2 m2).natAbs : Nat) : Int) = 9218868437227405312 ∨ sumW 1 (((Iv n2 m2 - Iv n3 m3).natAbs : Nat) : Int) = 9218868437227405312
  · rw [if_pos d3]; rw [apW_fin n1 n3 m1 m3 (by omega) (by omega)] at l; exact l
  · rw [if_neg d3]
    rw [apW_fin n1 n2 m1 m2 (by omega) (by omega)] at l1
    rw [apW_fin n2 n3 m2 m3 (by omega) (by omega)] at l2
    have g1 := sumW_ge (((Iv n1 m1 - Iv n2 m2).natAbs : Nat) : Int) (by omega) (by omega)
    have g2 := sumW_ge (((Iv n2 m2 - Iv n3 m3).natAbs : Nat) : Int) (by omega) (by omega)
    exact sumW_mono _ _ (by omega) (by omega)
/-- the greater of two -/
def mxN (p q : Nat) : Nat := if q < p then p else q
theorem tri_ds (a b c a' b' c' p q : Nat) (h1 : a ≤ adU b c) (h2 : a' ≤ adU b' c') (l1 : b ≤ 9218868437227405312) (l2 : b' ≤ 9218868437227405312) (l3 : c ≤ 9218868437227405312) (l4 : c' ≤ 9218868437227405312) (hp : p = mxN b b') (hq : q = mxN c c') : mxN a a' ≤ adU p q := by
  have m1 : b ≤ p ∧ b' ≤ p ∧ p ≤ 9218868437227405312 := by rw [hp]; unfold mxN; split <;> omega
  have m2 : c ≤ q ∧ c' ≤ q ∧ q ≤ 9218868437227405312 := by rw [hq]; unfold mxN; split <;> omega
  have e1 := adU_mono b c p q m1.1 m2.1 m1.2.2 m2.2.2
  have e2 := adU_mono b' c' p q m1.2.1 m2.2.1 m1.2.2 m2.2.2
  unfold mxN
  split <;> omega
theorem padU_ (p q : Nat) (hp : p ≤ 9218868437227405312) (hq : q ≤ 9218868437227405312) (w : World) (hT : Tab w) (hQ : Fq.Tab w) : Calls Tryd.prog 8 #[.int .i64 1, .float .f64 p, .float .f64 q] w fun e w' => e = .returned (.float .f64 (adU p q)) ∧ Kp w w' := by
  unfold adU
  by_cases c : p = 9218868437227405312 ∨ q = 9218868437227405312
  · rw [if_pos c]
    have h := paddI_ 1 false false p q (by omega) (by omega) (by omega) (fun h => by
      rcases h with h | h | h
      · omega
      · omega
      · exact h.2.2 rfl) w
    have e : Fq.wD (if p = 9218868437227405312 then false else false) 9218868437227405312 = 9218868437227405312 := by split <;> rfl
    rw [e] at h
    exact h
  · rw [if_neg c]
    exact paddF_ 1 false false p q (by omega) (by omega) w hT hQ (by decide) (by decide)

/-- two blocks of two cells, one behind the other -/
def H48 (w : World) (B : Nat) (a b c d : Value) : Prop := Fq.H2 w B a b ∧ Fq.H2 w (B + 1) c d
theorem H48.keep {W w : World} {B : Nat} {a b c d : Value} (h : H48 W B a b c d) (g : Kp W w) : H48 w B a b c d := ⟨Fq.H2.keep h.1 g, Fq.H2.keep h.2 g⟩
theorem H48.new (w : World) (a b c d : Value) (s t : TypeId) : H48 ((w.alloc (.cells #[a, b] s)).alloc (.cells #[c, d] t)) w.heap.size a b c d := by
  refine ⟨?_, ?_⟩ <;> (unfold Fq.H2; simp [go_sem])
theorem H48.put {w : World} {B : Nat} {a b c d : Value} (h : H48 w B a b c d) (a' b' c' d' : Value) : H48 ((((w.setCell ⟨B, 0, none⟩ a').setCell ⟨B, 1, none⟩ b').setCell ⟨B + 1, 0, none⟩ c').setCell ⟨B + 1, 1, none⟩ d') B a' b' c' d' := by
  refine ⟨?_, ?_⟩
  · exact Fq.H2.far (Fq.H2.put h.1 a' b') (by omega) c' d'
  · exact Fq.H2.put (Fq.H2.far h.2 (by omega) a' b') c' d'
set_option maxRecDepth 20000 in
set_option maxHeartbeats 2000000 in
theorem dist1_ (a b c d L1 H1 L2 H2 : Nat) (hx : ∀ w : World, Calls Tryd.prog 9 #[.agg #[.float .f64 a, .float .f64 b]] w fun e w' => e = .returned (.agg #[.float .f64 L1, .float .f64 H1]) ∧ Kp w w') (hy : ∀ w : World, Calls Tryd.prog 9 #[.agg #[.float .f64 c, .float .f64 d]] w fun e w' => e = .returned (.agg #[.float .f64 L2, .float .f64 H2]) ∧ Kp w w') (hv1 : ∀ w : World, Calls Tryd.prog 10 #[.agg #[.float .f64 L1, .float .f64 H1]] w fun e w' => e = .returned (.bool true) ∧ Kp w w') (w : World) : Calls Tryd.prog 4 #[.agg #[.float .f64 a, .float .f64 b], .agg #[.float .f64 c, .float .f64 d]] w fun e w' => e = .returned (.float .f64 9221120237041090561) ∧ Kp w w' := by
    go_enter Tryd.func4, Tryd.ntmps4
    go_wp2
    go_region_with (first | (go_at_call_of 9 (Value.agg #[.float .f64 a, .float .f64 b]); refine (hx _).mono ?_; rintro e wx ⟨rfl, gx⟩; first | (have kx := Kp.trans ky gx; have sx := H48.keep sy gx; obtain ⟨⟨p0, p1, p2, p3⟩, ⟨p4, p5, p6, p7⟩⟩ := id sx) | (have kx : Kp w wx := Kp.trans (((Kp.refl w).alloc _).alloc _).drew gx; have sx := H48.keep (H48.new w (.float .f64 a) (.float .f64 b) (.float .f64 c) (.float .f64 d) 28 28) (Kp.trans (Kp.drew (Kp.refl _)) gx); obtain ⟨⟨p0, p1, p2, p3⟩, ⟨p4, p5, p6, p7⟩⟩ := id sx)) | (go_at_call_of 9 (Value.agg #[.float .f64 c, .float .f64 d]); refine (hy _).mono ?_; rintro e wy ⟨rfl, gy⟩; first | (have ky := Kp.trans kx gy; have sy := H48.keep sx gy; obtain ⟨⟨p0, p1, p2, p3⟩, ⟨p4, p5, p6, p7⟩⟩ := id sy) | (have ky : Kp w wy := Kp.trans (((Kp.refl w).alloc _).alloc _).drew gy; have sy := H48.keep (H48.new w (.float .f64 a) (.float .f64 b) (.float .f64 c) (.float .f64 d) 28 28) (Kp.trans (Kp.drew (Kp.refl _)) gy); obtain ⟨⟨p0, p1, p2, p3⟩, ⟨p4, p5, p6, p7⟩⟩ := id sy)))
    all_goals (first
      | skip
        have sw := H48.put (id sy : H48 wy w.heap.size (.float .f64 a) (.float .f64 b) (.float .f64 c) (.float .f64 d)) (.float .f64 L1) (.float .f64 H1) (.float .f64 L2) (.float .f64 H2)
        have kw : Kp w ((((wy.setCell ⟨w.heap.size, 0, none⟩ (.float .f64 L1)).setCell ⟨w.heap.size, 1, none⟩ (.float .f64 H1)).setCell ⟨w.heap.size + 1, 0, none⟩ (.float .f64 L2)).setCell ⟨w.heap.size + 1, 1, none⟩ (.float .f64 H2)) := (((ky.setCell (Nat.le_refl _) _).setCell (Nat.le_refl _) _).setCell (Nat.le_succ _) _).setCell (Nat.le_succ _) _
        generalize hW : ((((wy.setCell ⟨w.heap.size, 0, none⟩ (.float .f64 L1)).setCell ⟨w.heap.size, 1, none⟩ (.float .f64 H1)).setCell ⟨w.heap.size + 1, 0, none⟩ (.float .f64 L2)).setCell ⟨w.heap.size + 1, 1, none⟩ (.float .f64 H2)) = W at sw kw ⊢
        clear hW
      | skip
        have sw := H48.put (id sx : H48 wx w.heap.size (.float .f64 a) (.float .f64 b) (.float .f64 c) (.float .f64 d)) (.float .f64 L1) (.float .f64 H1) (.float .f64 L2) (.float .f64 H2)
        have kw : Kp w ((((wx.setCell ⟨w.heap.size, 0, none⟩ (.float .f64 L1)).setCell ⟨w.heap.size, 1, none⟩ (.float .f64 H1)).setCell ⟨w.heap.size + 1, 0, none⟩ (.float .f64 L2)).setCell ⟨w.heap.size + 1, 1, none⟩ (.float .f64 H2)) := (((kx.setCell (Nat.le_refl _) _).setCell (Nat.le_refl _) _).setCell (Nat.le_succ _) _).setCell (Nat.le_succ _) _
        generalize hW : ((((wx.setCell ⟨w.heap.size, 0, none⟩ (.float .f64 L1)).setCell ⟨w.heap.size, 1, none⟩ (.float .f64 H1)).setCell ⟨w.heap.size + 1, 0, none⟩ (.float .f64 L2)).setCell ⟨w.heap.size + 1, 1, none⟩ (.float .f64 H2)) = W at sw kw ⊢
        clear hW)
    all_goals (
      obtain ⟨⟨p0, p1, p2, p3⟩, ⟨p4, p5, p6, p7⟩⟩ := id sw
      go_wp2_with (first | (go_at_call_of 10 (Value.agg #[.float .f64 L1, .float .f64 H1]); refine (hv1 _).mono ?_; rintro e wv ⟨rfl, gv⟩; have kv := Kp.trans kw gv; have sv := H48.keep sw gv; obtain ⟨⟨u0, u1, u2, u3⟩, ⟨u4, u5, u6, u7⟩⟩ := id sv) | (go_at_call 11; refine (nan8_ _).mono ?_; rintro e w9 ⟨rfl, g9⟩; have k9 : Kp w w9 := Kp.trans kv g9))
      exact bodyPost_ret (v := .float .f64 9221120237041090561) (by simp [results, Tryd.results4, go_sem]) rfl ⟨rfl, k9⟩)
set_option maxRecDepth 20000 in
set_option maxHeartbeats 2000000 in
theorem dist2_ (a b c d L1 H1 L2 H2 : Nat) (hx : ∀ w : World, Calls Tryd.prog 9 #[.agg #[.float .f64 a, .float .f64 b]] w fun e w' => e = .returned (.agg #[.float .f64 L1, .float .f64 H1]) ∧ Kp w w') (hy : ∀ w : World, Calls Tryd.prog 9 #[.agg #[.float .f64 c, .float .f64 d]] w fun e w' => e = .returned (.agg #[.float .f64 L2, .float .f64 H2]) ∧ Kp w w') (hv1 : ∀ w : World, Calls Tryd.prog 10 #[.agg #[.float .f64 L1, .float .f64 H1]] w fun e w' => e = .returned (.bool false) ∧ Kp w w') (hv2 : ∀ w : World, Calls Tryd.prog 10 #[.agg #[.float .f64 L2, .float .f64 H2]] w fun e w' => e = .returned (.bool true) ∧ Kp w w') (w : World) : Calls Tryd.prog 4 #[.agg #[.float .f64 a, .float .f64 b], .agg #[.float .f64 c, .float .f64 d]] w fun e w' => e = .returned (.float .f64 9221120237041090561) ∧ Kp w w' := by
    go_enter Tryd.func4, Tryd.ntmps4
    go_wp2
    go_region_with (first | (go_at_call_of 9 (Value.agg #[.float .f64 a, .float .f64 b]); refine (hx _).mono ?_; rintro e wx ⟨rfl, gx⟩; first | (have kx := Kp.trans ky gx; have sx := H48.keep sy gx; obtain ⟨⟨p0, p1, p2, p3⟩, ⟨p4, p5, p6, p7⟩⟩ := id sx) | (have kx : Kp w wx := Kp.trans (((Kp.refl w).alloc _).alloc _).drew gx; have sx := H48.keep (H48.new w (.float .f64 a) (.float .f64 b) (.float .f64 c) (.float .f64 d) 28 28) (Kp.trans (Kp.drew (Kp.refl _)) gx); obtain ⟨⟨p0, p1, p2, p3⟩, ⟨p4, p5, p6, p7⟩⟩ := id sx)) | (go_at_call_of 9 (Value.agg #[.float .f64 c, .float .f64 d]); refine (hy _).mono ?_; rintro e wy ⟨rfl, gy⟩; first | (have ky := Kp.trans kx gy; have sy := H48.keep sx gy; obtain ⟨⟨p0, p1, p2, p3⟩, ⟨p4, p5, p6, p7⟩⟩ := id sy) | (have ky : Kp w wy := Kp.trans (((Kp.refl w).alloc _).alloc _).drew gy; have sy := H48.keep (H48.new w (.float .f64 a) (.float .f64 b) (.float .f64 c) (.float .f64 d) 28 28) (Kp.trans (Kp.drew (Kp.refl _)) gy); obtain ⟨⟨p0, p1, p2, p3⟩, ⟨p4, p5, p6, p7⟩⟩ := id sy)))
    all_goals (first
      | skip
        have sw := H48.put (id sy : H48 wy w.heap.size (.float .f64 a) (.float .f64 b) (.float .f64 c) (.float .f64 d)) (.float .f64 L1) (.float .f64 H1) (.float .f64 L2) (.float .f64 H2)
        have kw : Kp w ((((wy.setCell ⟨w.heap.size, 0, none⟩ (.float .f64 L1)).setCell ⟨w.heap.size, 1, none⟩ (.float .f64 H1)).setCell ⟨w.heap.size + 1, 0, none⟩ (.float .f64 L2)).setCell ⟨w.heap.size + 1, 1, none⟩ (.float .f64 H2)) := (((ky.setCell (Nat.le_refl _) _).setCell (Nat.le_refl _) _).setCell (Nat.le_succ _) _).setCell (Nat.le_succ _) _
        generalize hW : ((((wy.setCell ⟨w.heap.size, 0, none⟩ (.float .f64 L1)).setCell ⟨w.heap.size, 1, none⟩ (.float .f64 H1)).setCell ⟨w.heap.size + 1, 0, none⟩ (.float .f64 L2)).setCell ⟨w.heap.size + 1, 1, none⟩ (.float .f64 H2)) = W at sw kw ⊢
        clear hW
      | skip
        have sw := H48.put (id sx : H48 wx w.heap.size (.float .f64 a) (.float .f64 b) (.float .f64 c) (.float .f64 d)) (.float .f64 L1) (.float .f64 H1) (.float .f64 L2) (.float .f64 H2)
        have kw : Kp w ((((wx.setCell ⟨w.heap.size, 0, none⟩ (.float .f64 L1)).setCell ⟨w.heap.size, 1, none⟩ (.float .f64 H1)).setCell ⟨w.heap.size + 1, 0, none⟩ (.float .f64 L2)).setCell ⟨w.heap.size + 1, 1, none⟩ (.float .f64 H2)) := (((kx.setCell (Nat.le_refl _) _).setCell (Nat.le_refl _) _).setCell (Nat.le_succ _) _).setCell (Nat.le_succ _) _
        generalize hW : ((((wx.setCell ⟨w.heap.size, 0, none⟩ (.float .f64 L1)).setCell ⟨w.heap.size, 1, none⟩ (.float .f64 H1)).setCell ⟨w.heap.size + 1, 0, none⟩ (.float .f64 L2)).setCell ⟨w.heap.size + 1, 1, none⟩ (.float .f64 H2)) = W at sw kw ⊢
        clear hW)
    all_goals (
      obtain ⟨⟨p0, p1, p2, p3⟩, ⟨p4, p5, p6, p7⟩⟩ := id sw
      go_wp2_with (first | (go_at_call_of 10 (Value.agg #[.float .f64 L1, .float .f64 H1]); refine (hv1 _).mono ?_; rintro e wv ⟨rfl, gv⟩; have kv := Kp.trans kw gv; have sv := H48.keep sw gv; obtain ⟨⟨u0, u1, u2, u3⟩, ⟨u4, u5, u6, u7⟩⟩ := id sv) | (go_at_call_of 10 (Value.agg #[.float .f64 L2, .float .f64 H2]); refine (hv2 _).mono ?_; rintro e wz ⟨rfl, gz⟩; have kz := Kp.trans kv gz; have sz := H48.keep sv gz; obtain ⟨⟨t0, t1, t2, t3⟩, ⟨t4, t5, t6, t7⟩⟩ := id sz) | (go_at_call 11; refine (nan8_ _).mono ?_; rintro e w9 ⟨rfl, g9⟩; have k9 : Kp w w9 := Kp.trans kz g9))
      exact bodyPost_ret (v := .float .f64 9221120237041090561) (by simp [results, Tryd.results4, go_sem]) rfl ⟨rfl, k9⟩)
set_option maxRecDepth 20000 in
set_option maxHeartbeats 4000000 in
theorem dist3_ (a b c d L1 H1 L2 H2 : Nat) (hx : ∀ w : World, Calls Tryd.prog 9 #[.agg #[.float .f64 a, .float .f64 b]] w fun e w' => e = .returned (.agg #[.float .f64 L1, .float .f64 H1]) ∧ Kp w w') (hy : ∀ w : World, Calls Tryd.prog 9 #[.agg #[.float .f64 c, .float .f64 d]] w fun e w' => e = .returned (.agg #[.float .f64 L2, .float .f64 H2]) ∧ Kp w w') (hv1 : ∀ w : World, Calls Tryd.prog 10 #[.agg #[.float .f64 L1, .float .f64 H1]] w fun e w' => e = .returned (.bool false) ∧ Kp w w') (hv2 : ∀ w : World, Calls Tryd.prog 10 #[.agg #[.float .f64 L2, .float .f64 H2]] w fun e w' => e = .returned (.bool false) ∧ Kp w w') (PL PH G9 : Nat) (w : World) (hA1 : ∀ W : World, Kp w W → Calls Tryd.prog 13 #[.float .f64 L1, .float .f64 L2] W fun e w' => e = .returned (.float .f64 PL) ∧ Kp W w') (hA2 : ∀ W : World, Kp w W → Calls Tryd.prog 13 #[.float .f64 H1, .float .f64 H2] W fun e w' => e = .returned (.float .f64 PH) ∧ Kp W w') (hg : ∀ w : World, Calls Tryd.prog 12 #[.float .f64 PL, .float .f64 PH] w fun e w' => e = .returned (.float .f64 G9) ∧ w' = w) : Calls Tryd.prog 4 #[.agg #[.float .f64 a, .float .f64 b], .agg #[.float .f64 c, .float .f64 d]] w fun e w' => e = .returned (.float .f64 G9) ∧ Kp w w' := by
    go_enter Tryd.func4, Tryd.ntmps4
    go_wp2
    go_region_with (first | (go_at_call_of 9 (Value.agg #[.float .f64 a, .float .f64 b]); refine (hx _).mono ?_; rintro e wx ⟨rfl, gx⟩; first | (have kx := Kp.trans ky gx; have sx := H48.keep sy gx; obtain ⟨⟨p0, p1, p2, p3⟩, ⟨p4, p5, p6, p7⟩⟩ := id sx) | (have kx : Kp w wx := Kp.trans (((Kp.refl w).alloc _).alloc _).drew gx; have sx := H48.keep (H48.new w (.float .f64 a) (.float .f64 b) (.float .f64 c) (.float .f64 d) 28 28) (Kp.trans (Kp.drew (Kp.refl _)) gx); obtain ⟨⟨p0, p1, p2, p3⟩, ⟨p4, p5, p6, p7⟩⟩ := id sx)) | (go_at_call_of 9 (Value.agg #[.float .f64 c, .float .f64 d]); refine (hy _).mono ?_; rintro e wy ⟨rfl, gy⟩; first | (have ky := Kp.trans kx gy; have sy := H48.keep sx gy; obtain ⟨⟨p0, p1, p2, p3⟩, ⟨p4, p5, p6, p7⟩⟩ := id sy) | (have ky : Kp w wy := Kp.trans (((Kp.refl w).alloc _).alloc _).drew gy; have sy := H48.keep (H48.new w (.float .f64 a) (.float .f64 b) (.float .f64 c) (.float .f64 d) 28 28) (Kp.trans (Kp.drew (Kp.refl _)) gy); obtain ⟨⟨p0, p1, p2, p3⟩, ⟨p4, p5, p6, p7⟩⟩ := id sy)))
    all_goals (first
      | skip
        have sw := H48.put (id sy : H48 wy w.heap.size (.float .f64 a) (.float .f64 b) (.float .f64 c) (.float .f64 d)) (.float .f64 L1) (.float .f64 H1) (.float .f64 L2) (.float .f64 H2)
        have kw : Kp w ((((wy.setCell ⟨w.heap.size, 0, none⟩ (.float .f64 L1)).setCell ⟨w.heap.size, 1, none⟩ (.float .f64 H1)).setCell ⟨w.heap.size + 1, 0, none⟩ (.float .f64 L2)).setCell ⟨w.heap.size + 1, 1, none⟩ (.float .f64 H2)) := (((ky.setCell (Nat.le_refl _) _).setCell (Nat.le_refl _) _).setCell (Nat.le_succ _) _).setCell (Nat.le_succ _) _
        generalize hW : ((((wy.setCell ⟨w.heap.size, 0, none⟩ (.float .f64 L1)).setCell ⟨w.heap.size, 1, none⟩ (.float .f64 H1)).setCell ⟨w.heap.size + 1, 0, none⟩ (.float .f64 L2)).setCell ⟨w.heap.size + 1, 1, none⟩ (.float .f64 H2)) = W at sw kw ⊢
        clear hW
      | skip
        have sw := H48.put (id sx : H48 wx w.heap.size (.float .f64 a) (.float .f64 b) (.float .f64 c) (.float .f64 d)) (.float .f64 L1) (.float .f64 H1) (.float .f64 L2) (.float .f64 H2)
        have kw : Kp w ((((wx.setCell ⟨w.heap.size, 0, none⟩ (.float .f64 L1)).setCell ⟨w.heap.size, 1, none⟩ (.float .f64 H1)).setCell ⟨w.heap.size + 1, 0, none⟩ (.float .f64 L2)).setCell ⟨w.heap.size + 1, 1, none⟩ (.float .f64 H2)) := (((kx.setCell (Nat.le_refl _) _).setCell (Nat.le_refl _) _).setCell (Nat.le_succ _) _).setCell (Nat.le_succ _) _
        generalize hW : ((((wx.setCell ⟨w.heap.size, 0, none⟩ (.float .f64 L1)).setCell ⟨w.heap.size, 1, none⟩ (.float .f64 H1)).setCell ⟨w.heap.size + 1, 0, none⟩ (.float .f64 L2)).setCell ⟨w.heap.size + 1, 1, none⟩ (.float .f64 H2)) = W at sw kw ⊢
        clear hW)
    all_goals (
      obtain ⟨⟨p0, p1, p2, p3⟩, ⟨p4, p5, p6, p7⟩⟩ := id sw
      go_wp2_with (first | (go_at_call_of 10 (Value.agg #[.float .f64 L1, .float .f64 H1]); refine (hv1 _).mono ?_; rintro e wv ⟨rfl, gv⟩; have kv := Kp.trans kw gv; have sv := H48.keep sw gv; obtain ⟨⟨u0, u1, u2, u3⟩, ⟨u4, u5, u6, u7⟩⟩ := id sv) | (go_at_call_of 10 (Value.agg #[.float .f64 L2, .float .f64 H2]); refine (hv2 _).mono ?_; rintro e wz ⟨rfl, gz⟩; have kz := Kp.trans kv gz; have sz := H48.keep sv gz; obtain ⟨⟨t0, t1, t2, t3⟩, ⟨t4, t5, t6, t7⟩⟩ := id sz))
      refine Fq.wp_region_grow (by kernel_rfl) (by kernel_rfl) (fun ι _ G hG hall => ?_)
      have cc0 : ∀ n, (G n).cell? ⟨w.heap.size, 0, none⟩ = some (.float .f64 L1) := fun n => Fq.gkeep (hG n) t0
      have cc1 : ∀ n, (G n).cell? ⟨w.heap.size, 1, none⟩ = some (.float .f64 H1) := fun n => Fq.gkeep (hG n) t1
      have cc2 : ∀ n, (G n).cell? ⟨w.heap.size + 1, 0, none⟩ = some (.float .f64 L2) := fun n => Fq.gkeep (hG n) t4
      have cc3 : ∀ n, (G n).cell? ⟨w.heap.size + 1, 1, none⟩ = some (.float .f64 H2) := fun n => Fq.gkeep (hG n) t5
      have kG : ∀ n, Kp w (G n) := fun n => Kp.trans kz (hG n)
      repeat (go_big_quiet_step (first | (go_at_call_of 13 (Value.float .f64 L1); exact (hA1 _ (kG _)).mono (fun e w' h => ⟨h.1, hall _ (Fq.gtrans (hG _) h.2)⟩)) | (go_at_call_of 13 (Value.float .f64 H1); exact (hA2 _ (kG _)).mono (fun e w' h => ⟨h.1, hall _ (Fq.gtrans (hG _) h.2)⟩)) | (go_at_call 12; exact (hg _).mono (fun e w' h => ⟨h.1, hall _ (by rw [h.2]; exact hG _)⟩))))
      refine wpQuiet_nil ?_
      rintro _ ⟨nq, rfl⟩
      have gq := kG nq
      clear cc0 cc1 cc2 cc3 hall hG kG
      go_wp2
      exact bodyPost_ret (v := .float .f64 G9) (by simp [results, Tryd.results4, go_sem]) rfl ⟨rfl, gq⟩)
theorem distX_ (a b c d : Nat) (ha : a < 18446744073709551616) (hb : b < 18446744073709551616) (hc : c < 18446744073709551616) (hd : d < 18446744073709551616) (s1 : Fq.snd a b = true) (n g : Bool) (m r : Nat) (l1 : m ≤ 9218868437227405312) (j1 : r ≤ 9218868437227405312) (e1 : Fq.rlo a b = Fq.wD n m) (d1 : Fq.rhi a b = Fq.wD g r) (s2 : Fq.snd c d = true) (n' g' : Bool) (m' r' : Nat) (l2 : m' ≤ 9218868437227405312) (j2 : r' ≤ 9218868437227405312) (e2 : Fq.rlo c d = Fq.wD n' m') (d2 : Fq.rhi c d = Fq.wD g' r') (w : World) (hT : Tab w) (hQ : Fq.Tab w) : Calls Tryd.prog 4 #[.agg #[.float .f64 a, .float .f64 b], .agg #[.float .f64 c, .float .f64 d]] w fun e w' => e = .returned (.float .f64 (mxN (apW n m n' m') (apW g r g' r'))) ∧ Kp w w' := by
  have hp := Fq.read_ a b ha hb
  have hp2 := Fq.read_ c d hc hd
  have hv := void8_ a b ha hb false (by simpa using s1)
  have hv2 := void8_ c d hc hd false (by simpa using s2)
  rw [e1, d1] at hp hv
  rw [e2, d2] at hp2 hv2
  exact dist3_ a b c d _ _ _ _ hp hp2 hv hv2 _ _ _ w (fun W y => apart8_ n n' m m' l1 l2 W (Tab.grown hT y) (Fq.Tab.grown hQ y)) (fun W y => apart8_ g g' r r' j1 j2 W (Tab.grown hT y) (Fq.Tab.grown hQ y)) (greater8_ _ _ (apW_le _ _ _ _) (apW_le _ _ _ _))
set_option maxRecDepth 20000 in
set_option maxHeartbeats 4000000 in
theorem triE1_ (X1 Y1 X2 Y2 X3 Y3 A1 B1 A2 B2 A3 B3 : Int) (w : World) (hD : ∀ W : World, Kp w W → Calls Tryd.prog 4 #[.agg #[.float .f64 4607182418800017408, .float .f64 4611686018427387904], .agg #[.float .f64 4609434218613702656, .float .f64 4616189618054758400]] W fun e w' => e = .returned (.float .f64 4611686018427387904) ∧ Kp W w') (_q0 : (FloatKind.f64.format.order 4611686018427387904 4611686018427387904 == some Ordering.eq) = true) (hR1 : ∀ w : World, Calls Tryd.prog 5 #[.agg #[.int .u64 X1, .int .u64 Y1]] w fun e w' => e = .returned (.agg #[.int .u64 A1, .int .u64 B1]) ∧ Kp w w') (hR2 : ∀ w : World, Calls Tryd.prog 5 #[.agg #[.int .u64 X2, .int .u64 Y2]] w fun e w' => e = .returned (.agg #[.int .u64 A2, .int .u64 B2]) ∧ Kp w w') (hR3 : ∀ w : World, Calls Tryd.prog 5 #[.agg #[.int .u64 X3, .int .u64 Y3]] w fun e w' => e = .returned (.agg #[.int .u64 A3, .int .u64 B3]) ∧ Kp w w') (t1 : (A1 == 9218868437227405312) = true) (s1 : (B1 == 18442240474082181120) = true) : Calls Tryd.prog 3 #[.agg #[.int .u64 X1, .int .u64 Y1], .agg #[.int .u64 X2, .int .u64 Y2], .agg #[.int .u64 X3, .int .u64 Y3]] w fun e w' => e = .returned (.bool true) ∧ Kp w w' := by
  go_enter Tryd.func3, Tryd.ntmps3
  go_wp2_with (first | (go_at_call 4; refine (hD _ ((((Kp.refl w).alloc _).alloc _).alloc _)).mono ?_; rintro e w1 ⟨rfl, g1⟩; have k1 : Kp w w1 := Kp.trans ((((Kp.refl w).alloc _).alloc _).alloc _) g1; have x0 := kkeep g1 (b := w.heap.size) (o := 0) (v := .int .u64 X1) (by simp [go_sem]); have x1 := kkeep g1 (b := w.heap.size) (o := 1) (v := .int .u64 Y1) (by simp [go_sem]); have x2 := kkeep g1 (b := w.heap.size + 1) (o := 0) (v := .int .u64 X2) (by simp [go_sem]); have x3 := kkeep g1 (b := w.heap.size + 1) (o := 1) (v := .int .u64 Y2) (by simp [go_sem]); have x4 := kkeep g1 (b := w.heap.size + 2) (o := 0) (v := .int .u64 X3) (by simp [go_sem]); have x5 := kkeep g1 (b := w.heap.size + 2) (o := 1) (v := .int .u64 Y3) (by simp [go_sem])) | (go_at_call_of 5 (Value.agg #[.int .u64 X1, .int .u64 Y1]); refine (hR1 _).mono ?_; rintro e w2 ⟨rfl, g2⟩; have k2 : Kp w w2 := Kp.trans k1 g2; have p0 := kkeep g2 x0; have p1 := kkeep g2 x1; have p2 := kkeep g2 x2; have p3 := kkeep g2 x3; have p4 := kkeep g2 x4; have p5 := kkeep g2 x5; have p0a := fun o => kkeep ((Kp.refl w2).alloc o) p0; have p1a := fun o => kkeep ((Kp.refl w2).alloc o) p1; have p2a := fun o => kkeep ((Kp.refl w2).alloc o) p2; have p3a := fun o => kkeep ((Kp.refl w2).alloc o) p3; have p4a := fun o => kkeep ((Kp.refl w2).alloc o) p4; have p5a := fun o => kkeep ((Kp.refl w2).alloc o) p5) | (go_at_call_of 5 (Value.agg #[.int .u64 X2, .int .u64 Y2]); refine (hR2 _).mono ?_; rintro e w3 ⟨rfl, g3⟩; have k3 : Kp w w3 := Kp.trans (Kp.trans k2 ((Kp.refl w2).alloc _)) g3; have q0 := kkeep g3 (p0a _); have q1 := kkeep g3 (p1a _); have q2 := kkeep g3 (p2a _); have q3 := kkeep g3 (p3a _); have q4 := kkeep g3 (p4a _); have q5 := kkeep g3 (p5a _); have q6 := kkeep g3 (b := w2.heap.size) (o := 0) (v := .int .u64 A1) (by simp [go_sem]); have q7 := kkeep g3 (b := w2.heap.size) (o := 1) (v := .int .u64 B1) (by simp [go_sem]); have q0a := fun o => kkeep ((Kp.refl w3).alloc o) q0; have q1a := fun o => kkeep ((Kp.refl w3).alloc o) q1; have q2a := fun o => kkeep ((Kp.refl w3).alloc o) q2; have q3a := fun o => kkeep ((Kp.refl w3).alloc o) q3; have q4a := fun o => kkeep ((Kp.refl w3).alloc o) q4; have q5a := fun o => kkeep ((Kp.refl w3).alloc o) q5; have q6a := fun o => kkeep ((Kp.refl w3).alloc o) q6; have q7a := fun o => kkeep ((Kp.refl w3).alloc o) q7) | (go_at_call_of 5 (Value.agg #[.int .u64 X3, .int .u64 Y3]); refine (hR3 _).mono ?_; rintro e w4 ⟨rfl, g4⟩; have k4 : Kp w w4 := Kp.trans (Kp.trans k3 ((Kp.refl w3).alloc _)) g4; have r0 := kkeep g4 (q0a _); have r1 := kkeep g4 (q1a _); have r2 := kkeep g4 (q2a _); have r3 := kkeep g4 (q3a _); have r4 := kkeep g4 (q4a _); have r5 := kkeep g4 (q5a _); have r6 := kkeep g4 (q6a _); have r7 := kkeep g4 (q7a _); have r8 := kkeep g4 (b := w3.heap.size) (o := 0) (v := .int .u64 A2) (by simp [go_sem]); have r9 := kkeep g4 (b := w3.heap.size) (o := 1) (v := .int .u64 B2) (by simp [go_sem]); have r0a := fun o => kkeep ((Kp.refl w4).alloc o) r0; have r1a := fun o => kkeep ((Kp.refl w4).alloc o) r1; have r2a := fun o => kkeep ((Kp.refl w4).alloc o) r2; have r3a := fun o => kkeep ((Kp.refl w4).alloc o) r3; have r4a := fun o => kkeep ((Kp.refl w4).alloc o) r4; have r5a := fun o => kkeep ((Kp.refl w4).alloc o) r5; have r6a := fun o => kkeep ((Kp.refl w4).alloc o) r6; have r7a := fun o => kkeep ((Kp.refl w4).alloc o) r7; have r8a := fun o => kkeep ((Kp.refl w4).alloc o) r8; have r9a := fun o => kkeep ((Kp.refl w4).alloc o) r9))
  refine Fq.wp_region_grow (by kernel_rfl) (by kernel_rfl) (fun ι _ G hG hall => ?_)
  have c0 : ∀ n, (G n).cell? ⟨w.heap.size, 0, none⟩ = some (.int .u64 X1) := fun n => Fq.gkeep (hG n) (r0a _)
  have c1 : ∀ n, (G n).cell? ⟨w.heap.size, 1, none⟩ = some (.int .u64 Y1) := fun n => Fq.gkeep (hG n) (r1a _)
  have c2 : ∀ n, (G n).cell? ⟨w.heap.size + 1, 0, none⟩ = some (.int .u64 X2) := fun n => Fq.gkeep (hG n) (r2a _)
  have c3 : ∀ n, (G n).cell? ⟨w.heap.size + 1, 1, none⟩ = some (.int .u64 Y2) := fun n => Fq.gkeep (hG n) (r3a _)
  have c4 : ∀ n, (G n).cell? ⟨w.heap.size + 2, 0, none⟩ = some (.int .u64 X3) := fun n => Fq.gkeep (hG n) (r4a _)
  have c5 : ∀ n, (G n).cell? ⟨w.heap.size + 2, 1, none⟩ = some (.int .u64 Y3) := fun n => Fq.gkeep (hG n) (r5a _)
  have c6 : ∀ n, (G n).cell? ⟨w2.heap.size, 0, none⟩ = some (.int .u64 A1) := fun n => Fq.gkeep (hG n) (r6a _)
  have c7 : ∀ n, (G n).cell? ⟨w2.heap.size, 1, none⟩ = some (.int .u64 B1) := fun n => Fq.gkeep (hG n) (r7a _)
  have c8 : ∀ n, (G n).cell? ⟨w3.heap.size, 0, none⟩ = some (.int .u64 A2) := fun n => Fq.gkeep (hG n) (r8a _)
  have c9 : ∀ n, (G n).cell? ⟨w3.heap.size, 1, none⟩ = some (.int .u64 B2) := fun n => Fq.gkeep (hG n) (r9a _)
  have d0 : ∀ n, (G n).cell? ⟨w4.heap.size, 0, none⟩ = some (.int .u64 A3) := fun n => Fq.gkeep (hG n) (by simp [go_sem])
  have d1 : ∀ n, (G n).cell? ⟨w4.heap.size, 1, none⟩ = some (.int .u64 B3) := fun n => Fq.gkeep (hG n) (by simp [go_sem])
  have kG : ∀ n, Kp w (G n) := fun n => Kp.trans (Kp.trans k4 ((Kp.refl w4).alloc _)) (hG n)
  repeat (go_big_quiet_step (first | (go_at_call 6; exact (Fq.rempty_ _).mono (fun e w' h => ⟨h.1, hall _ (by rw [h.2]; exact (hG _).alloc _ _)⟩))))
  refine wpQuiet_nil ?_
  rintro _ ⟨nq, rfl⟩
  have z0 := c0 nq
  have z1 := c1 nq
  have z2 := c2 nq
  have z3 := c3 nq
  have z4 := c4 nq
  have z5 := c5 nq
  have z6 := c6 nq
  have z7 := c7 nq
  have z8 := c8 nq
  have z9 := c9 nq
  have kWE := kG nq
  clear c0 c1 c2 c3 c4 c5 c6 c7 c8 c9 d0 d1 kG hall
  generalize G nq = WE at z0 z1 z2 z3 z4 z5 z6 z7 z8 z9 kWE ⊢
  clear hG
  go_wp2
  exact bodyPost_ret (v := .bool true) (by simp [results, Tryd.results3, go_sem]) rfl ⟨rfl, kWE⟩
set_option maxRecDepth 20000 in
set_option maxHeartbeats 4000000 in
theorem triE2_ (X1 Y1 X2 Y2 X3 Y3 A1 B1 A2 B2 A3 B3 : Int) (w : World) (hD : ∀ W : World, Kp w W → Calls Tryd.prog 4 #[.agg #[.float .f64 4607182418800017408, .float .f64 4611686018427387904], .agg #[.float .f64 4609434218613702656, .float .f64 4616189618054758400]] W fun e w' => e = .returned (.float .f64 4611686018427387904) ∧ Kp W w') (_q0 : (FloatKind.f64.format.order 4611686018427387904 4611686018427387904 == some Ordering.eq) = true) (hR1 : ∀ w : World, Calls Tryd.prog 5 #[.agg #[.int .u64 X1, .int .u64 Y1]] w fun e w' => e = .returned (.agg #[.int .u64 A1, .int .u64 B1]) ∧ Kp w w') (hR2 : ∀ w : World, Calls Tryd.prog 5 #[.agg #[.int .u64 X2, .int .u64 Y2]] w fun e w' => e = .returned (.agg #[.int .u64 A2, .int .u64 B2]) ∧ Kp w w') (hR3 : ∀ w : World, Calls Tryd.prog 5 #[.agg #[.int .u64 X3, .int .u64 Y3]] w fun e w' => e = .returned (.agg #[.int .u64 A3, .int .u64 B3]) ∧ Kp w w') (t1 : (A1 == 9218868437227405312) = false) (t2 : (A2 == 9218868437227405312) = true) (s2 : (B2 == 18442240474082181120) = true) : Calls Tryd.prog 3 #[.agg #[.int .u64 X1, .int .u64 Y1], .agg #[.int .u64 X2, .int .u64 Y2], .agg #[.int .u64 X3, .int .u64 Y3]] w fun e w' => e = .returned (.bool true) ∧ Kp w w' := by
  go_enter Tryd.func3, Tryd.ntmps3
  go_wp2_with (first | (go_at_call 4; refine (hD _ ((((Kp.refl w).alloc _).alloc _).alloc _)).mono ?_; rintro e w1 ⟨rfl, g1⟩; have k1 : Kp w w1 := Kp.trans ((((Kp.refl w).alloc _).alloc _).alloc _) g1; have x0 := kkeep g1 (b := w.heap.size) (o := 0) (v := .int .u64 X1) (by simp [go_sem]); have x1 := kkeep g1 (b := w.heap.size) (o := 1) (v := .int .u64 Y1) (by simp [go_sem]); have x2 := kkeep g1 (b := w.heap.size + 1) (o := 0) (v := .int .u64 X2) (by simp [go_sem]); have x3 := kkeep g1 (b := w.heap.size + 1) (o := 1) (v := .int .u64 Y2) (by simp [go_sem]); have x4 := kkeep g1 (b := w.heap.size + 2) (o := 0) (v := .int .u64 X3) (by simp [go_sem]); have x5 := kkeep g1 (b := w.heap.size + 2) (o := 1) (v := .int .u64 Y3) (by simp [go_sem])) | (go_at_call_of 5 (Value.agg #[.int .u64 X1, .int .u64 Y1]); refine (hR1 _).mono ?_; rintro e w2 ⟨rfl, g2⟩; have k2 : Kp w w2 := Kp.trans k1 g2; have p0 := kkeep g2 x0; have p1 := kkeep g2 x1; have p2 := kkeep g2 x2; have p3 := kkeep g2 x3; have p4 := kkeep g2 x4; have p5 := kkeep g2 x5; have p0a := fun o => kkeep ((Kp.refl w2).alloc o) p0; have p1a := fun o => kkeep ((Kp.refl w2).alloc o) p1; have p2a := fun o => kkeep ((Kp.refl w2).alloc o) p2; have p3a := fun o => kkeep ((Kp.refl w2).alloc o) p3; have p4a := fun o => kkeep ((Kp.refl w2).alloc o) p4; have p5a := fun o => kkeep ((Kp.refl w2).alloc o) p5) | (go_at_call_of 5 (Value.agg #[.int .u64 X2, .int .u64 Y2]); refine (hR2 _).mono ?_; rintro e w3 ⟨rfl, g3⟩; have k3 : Kp w w3 := Kp.trans (Kp.trans k2 ((Kp.refl w2).alloc _)) g3; have q0 := kkeep g3 (p0a _); have q1 := kkeep g3 (p1a _); have q2 := kkeep g3 (p2a _); have q3 := kkeep g3 (p3a _); have q4 := kkeep g3 (p4a _); have q5 := kkeep g3 (p5a _); have q6 := kkeep g3 (b := w2.heap.size) (o := 0) (v := .int .u64 A1) (by simp [go_sem]); have q7 := kkeep g3 (b := w2.heap.size) (o := 1) (v := .int .u64 B1) (by simp [go_sem]); have q0a := fun o => kkeep ((Kp.refl w3).alloc o) q0; have q1a := fun o => kkeep ((Kp.refl w3).alloc o) q1; have q2a := fun o => kkeep ((Kp.refl w3).alloc o) q2; have q3a := fun o => kkeep ((Kp.refl w3).alloc o) q3; have q4a := fun o => kkeep ((Kp.refl w3).alloc o) q4; have q5a := fun o => kkeep ((Kp.refl w3).alloc o) q5; have q6a := fun o => kkeep ((Kp.refl w3).alloc o) q6; have q7a := fun o => kkeep ((Kp.refl w3).alloc o) q7) | (go_at_call_of 5 (Value.agg #[.int .u64 X3, .int .u64 Y3]); refine (hR3 _).mono ?_; rintro e w4 ⟨rfl, g4⟩; have k4 : Kp w w4 := Kp.trans (Kp.trans k3 ((Kp.refl w3).alloc _)) g4; have r0 := kkeep g4 (q0a _); have r1 := kkeep g4 (q1a _); have r2 := kkeep g4 (q2a _); have r3 := kkeep g4 (q3a _); have r4 := kkeep g4 (q4a _); have r5 := kkeep g4 (q5a _); have r6 := kkeep g4 (q6a _); have r7 := kkeep g4 (q7a _); have r8 := kkeep g4 (b := w3.heap.size) (o := 0) (v := .int .u64 A2) (by simp [go_sem]); have r9 := kkeep g4 (b := w3.heap.size) (o := 1) (v := .int .u64 B2) (by simp [go_sem]); have r0a := fun o => kkeep ((Kp.refl w4).alloc o) r0; have r1a := fun o => kkeep ((Kp.refl w4).alloc o) r1; have r2a := fun o => kkeep ((Kp.refl w4).alloc o) r2; have r3a := fun o => kkeep ((Kp.refl w4).alloc o) r3; have r4a := fun o => kkeep ((Kp.refl w4).alloc o) r4; have r5a := fun o => kkeep ((Kp.refl w4).alloc o) r5; have r6a := fun o => kkeep ((Kp.refl w4).alloc o) r6; have r7a := fun o => kkeep ((Kp.refl w4).alloc o) r7; have r8a := fun o => kkeep ((Kp.refl w4).alloc o) r8; have r9a := fun o => kkeep ((Kp.refl w4).alloc o) r9))
  refine Fq.wp_region_grow (by kernel_rfl) (by kernel_rfl) (fun ι _ G hG hall => ?_)
  have c0 : ∀ n, (G n).cell? ⟨w.heap.size, 0, none⟩ = some (.int .u64 X1) := fun n => Fq.gkeep (hG n) (r0a _)
  have c1 : ∀ n, (G n).cell? ⟨w.heap.size, 1, none⟩ = some (.int .u64 Y1) := fun n => Fq.gkeep (hG n) (r1a _)
  have c2 : ∀ n, (G n).cell? ⟨w.heap.size + 1, 0, none⟩ = some (.int .u64 X2) := fun n => Fq.gkeep (hG n) (r2a _)
  have c3 : ∀ n, (G n).cell? ⟨w.heap.size + 1, 1, none⟩ = some (.int .u64 Y2) := fun n => Fq.gkeep (hG n) (r3a _)
  have c4 : ∀ n, (G n).cell? ⟨w.heap.size + 2, 0, none⟩ = some (.int .u64 X3) := fun n => Fq.gkeep (hG n) (r4a _)
  have c5 : ∀ n, (G n).cell? ⟨w.heap.size + 2, 1, none⟩ = some (.int .u64 Y3) := fun n => Fq.gkeep (hG n) (r5a _)
  have c6 : ∀ n, (G n).cell? ⟨w2.heap.size, 0, none⟩ = some (.int .u64 A1) := fun n => Fq.gkeep (hG n) (r6a _)
  have c7 : ∀ n, (G n).cell? ⟨w2.heap.size, 1, none⟩ = some (.int .u64 B1) := fun n => Fq.gkeep (hG n) (r7a _)
  have c8 : ∀ n, (G n).cell? ⟨w3.heap.size, 0, none⟩ = some (.int .u64 A2) := fun n => Fq.gkeep (hG n) (r8a _)
  have c9 : ∀ n, (G n).cell? ⟨w3.heap.size, 1, none⟩ = some (.int .u64 B2) := fun n => Fq.gkeep (hG n) (r9a _)
  have d0 : ∀ n, (G n).cell? ⟨w4.heap.size, 0, none⟩ = some (.int .u64 A3) := fun n => Fq.gkeep (hG n) (by simp [go_sem])
  have d1 : ∀ n, (G n).cell? ⟨w4.heap.size, 1, none⟩ = some (.int .u64 B3) := fun n => Fq.gkeep (hG n) (by simp [go_sem])
  have kG : ∀ n, Kp w (G n) := fun n => Kp.trans (Kp.trans k4 ((Kp.refl w4).alloc _)) (hG n)
  repeat (go_big_quiet_step (first | (go_at_call 6; exact (Fq.rempty_ _).mono (fun e w' h => ⟨h.1, hall _ (by rw [h.2]; exact (hG _).alloc _ _)⟩))))
  refine wpQuiet_nil ?_
  rintro _ ⟨nq, rfl⟩
  have z0 := c0 nq
  have z1 := c1 nq
  have z2 := c2 nq
  have z3 := c3 nq
  have z4 := c4 nq
  have z5 := c5 nq
  have z6 := c6 nq
  have z7 := c7 nq
  have z8 := c8 nq
  have z9 := c9 nq
  have kWE := kG nq
  clear c0 c1 c2 c3 c4 c5 c6 c7 c8 c9 d0 d1 kG hall
  generalize G nq = WE at z0 z1 z2 z3 z4 z5 z6 z7 z8 z9 kWE ⊢
  clear hG
  go_wp2
  exact bodyPost_ret (v := .bool true) (by simp [results, Tryd.results3, go_sem]) rfl ⟨rfl, kWE⟩
set_option maxRecDepth 20000 in
set_option maxHeartbeats 4000000 in
theorem triE3_ (X1 Y1 X2 Y2 X3 Y3 A1 B1 A2 B2 A3 B3 : Int) (w : World) (hD : ∀ W : World, Kp w W → Calls Tryd.prog 4 #[.agg #[.float .f64 4607182418800017408, .float .f64 4611686018427387904], .agg #[.float .f64 4609434218613702656, .float .f64 4616189618054758400]] W fun e w' => e = .returned (.float .f64 4611686018427387904) ∧ Kp W w') (_q0 : (FloatKind.f64.format.order 4611686018427387904 4611686018427387904 == some Ordering.eq) = true) (hR1 : ∀ w : World, Calls Tryd.prog 5 #[.agg #[.int .u64 X1, .int .u64 Y1]] w fun e w' => e = .returned (.agg #[.int .u64 A1, .int .u64 B1]) ∧ Kp w w') (hR2 : ∀ w : World, Calls Tryd.prog 5 #[.agg #[.int .u64 X2, .int .u64 Y2]] w fun e w' => e = .returned (.agg #[.int .u64 A2, .int .u64 B2]) ∧ Kp w w') (hR3 : ∀ w : World, Calls Tryd.prog 5 #[.agg #[.int .u64 X3, .int .u64 Y3]] w fun e w' => e = .returned (.agg #[.int .u64 A3, .int .u64 B3]) ∧ Kp w w') (t1 : (A1 == 9218868437227405312) = false) (t2 : (A2 == 9218868437227405312) = false) (t3 : (A3 == 9218868437227405312) = true) (s3 : (B3 == 18442240474082181120) = true) : Calls Tryd.prog 3 #[.agg #[.int .u64 X1, .int .u64 Y1], .agg #[.int .u64 X2, .int .u64 Y2], .agg #[.int .u64 X3, .int .u64 Y3]] w fun e w' => e = .returned (.bool true) ∧ Kp w w' := by
  go_enter Tryd.func3, Tryd.ntmps3
  go_wp2_with (first | (go_at_call 4; refine (hD _ ((((Kp.refl w).alloc _).alloc _).alloc _)).mono ?_; rintro e w1 ⟨rfl, g1⟩; have k1 : Kp w w1 := Kp.trans ((((Kp.refl w).alloc _).alloc _).alloc _) g1; have x0 := kkeep g1 (b := w.heap.size) (o := 0) (v := .int .u64 X1) (by simp [go_sem]); have x1 := kkeep g1 (b := w.heap.size) (o := 1) (v := .int .u64 Y1) (by simp [go_sem]); have x2 := kkeep g1 (b := w.heap.size + 1) (o := 0) (v := .int .u64 X2) (by simp [go_sem]); have x3 := kkeep g1 (b := w.heap.size + 1) (o := 1) (v := .int .u64 Y2) (by simp [go_sem]); have x4 := kkeep g1 (b := w.heap.size + 2) (o := 0) (v := .int .u64 X3) (by simp [go_sem]); have x5 := kkeep g1 (b := w.heap.size + 2) (o := 1) (v := .int .u64 Y3) (by simp [go_sem])) | (go_at_call_of 5 (Value.agg #[.int .u64 X1, .int .u64 Y1]); refine (hR1 _).mono ?_; rintro e w2 ⟨rfl, g2⟩; have k2 : Kp w w2 := Kp.trans k1 g2; have p0 := kkeep g2 x0; have p1 := kkeep g2 x1; have p2 := kkeep g2 x2; have p3 := kkeep g2 x3; have p4 := kkeep g2 x4; have p5 := kkeep g2 x5; have p0a := fun o => kkeep ((Kp.refl w2).alloc o) p0; have p1a := fun o => kkeep ((Kp.refl w2).alloc o) p1; have p2a := fun o => kkeep ((Kp.refl w2).alloc o) p2; have p3a := fun o => kkeep ((Kp.refl w2).alloc o) p3; have p4a := fun o => kkeep ((Kp.refl w2).alloc o) p4; have p5a := fun o => kkeep ((Kp.refl w2).alloc o) p5) | (go_at_call_of 5 (Value.agg #[.int .u64 X2, .int .u64 Y2]); refine (hR2 _).mono ?_; rintro e w3 ⟨rfl, g3⟩; have k3 : Kp w w3 := Kp.trans (Kp.trans k2 ((Kp.refl w2).alloc _)) g3; have q0 := kkeep g3 (p0a _); have q1 := kkeep g3 (p1a _); have q2 := kkeep g3 (p2a _); have q3 := kkeep g3 (p3a _); have q4 := kkeep g3 (p4a _); have q5 := kkeep g3 (p5a _); have q6 := kkeep g3 (b := w2.heap.size) (o := 0) (v := .int .u64 A1) (by simp [go_sem]); have q7 := kkeep g3 (b := w2.heap.size) (o := 1) (v := .int .u64 B1) (by simp [go_sem]); have q0a := fun o => kkeep ((Kp.refl w3).alloc o) q0; have q1a := fun o => kkeep ((Kp.refl w3).alloc o) q1; have q2a := fun o => kkeep ((Kp.refl w3).alloc o) q2; have q3a := fun o => kkeep ((Kp.refl w3).alloc o) q3; have q4a := fun o => kkeep ((Kp.refl w3).alloc o) q4; have q5a := fun o => kkeep ((Kp.refl w3).alloc o) q5; have q6a := fun o => kkeep ((Kp.refl w3).alloc o) q6; have q7a := fun o => kkeep ((Kp.refl w3).alloc o) q7) | (go_at_call_of 5 (Value.agg #[.int .u64 X3, .int .u64 Y3]); refine (hR3 _).mono ?_; rintro e w4 ⟨rfl, g4⟩; have k4 : Kp w w4 := Kp.trans (Kp.trans k3 ((Kp.refl w3).alloc _)) g4; have r0 := kkeep g4 (q0a _); have r1 := kkeep g4 (q1a _); have r2 := kkeep g4 (q2a _); have r3 := kkeep g4 (q3a _); have r4 := kkeep g4 (q4a _); have r5 := kkeep g4 (q5a _); have r6 := kkeep g4 (q6a _); have r7 := kkeep g4 (q7a _); have r8 := kkeep g4 (b := w3.heap.size) (o := 0) (v := .int .u64 A2) (by simp [go_sem]); have r9 := kkeep g4 (b := w3.heap.size) (o := 1) (v := .int .u64 B2) (by simp [go_sem]); have r0a := fun o => kkeep ((Kp.refl w4).alloc o) r0; have r1a := fun o => kkeep ((Kp.refl w4).alloc o) r1; have r2a := fun o => kkeep ((Kp.refl w4).alloc o) r2; have r3a := fun o => kkeep ((Kp.refl w4).alloc o) r3; have r4a := fun o => kkeep ((Kp.refl w4).alloc o) r4; have r5a := fun o => kkeep ((Kp.refl w4).alloc o) r5; have r6a := fun o => kkeep ((Kp.refl w4).alloc o) r6; have r7a := fun o => kkeep ((Kp.refl w4).alloc o) r7; have r8a := fun o => kkeep ((Kp.refl w4).alloc o) r8; have r9a := fun o => kkeep ((Kp.refl w4).alloc o) r9))
  refine Fq.wp_region_grow (by kernel_rfl) (by kernel_rfl) (fun ι _ G hG hall => ?_)
  have c0 : ∀ n, (G n).cell? ⟨w.heap.size, 0, none⟩ = some (.int .u64 X1) := fun n => Fq.gkeep (hG n) (r0a _)
  have c1 : ∀ n, (G n).cell? ⟨w.heap.size, 1, none⟩ = some (.int .u64 Y1) := fun n => Fq.gkeep (hG n) (r1a _)
  have c2 : ∀ n, (G n).cell? ⟨w.heap.size + 1, 0, none⟩ = some (.int .u64 X2) := fun n => Fq.gkeep (hG n) (r2a _)
  have c3 : ∀ n, (G n).cell? ⟨w.heap.size + 1, 1, none⟩ = some (.int .u64 Y2) := fun n => Fq.gkeep (hG n) (r3a _)
  have c4 : ∀ n, (G n).cell? ⟨w.heap.size + 2, 0, none⟩ = some (.int .u64 X3) := fun n => Fq.gkeep (hG n) (r4a _)
  have c5 : ∀ n, (G n).cell? ⟨w.heap.size + 2, 1, none⟩ = some (.int .u64 Y3) := fun n => Fq.gkeep (hG n) (r5a _)
  have c6 : ∀ n, (G n).cell? ⟨w2.heap.size, 0, none⟩ = some (.int .u64 A1) := fun n => Fq.gkeep (hG n) (r6a _)
  have c7 : ∀ n, (G n).cell? ⟨w2.heap.size, 1, none⟩ = some (.int .u64 B1) := fun n => Fq.gkeep (hG n) (r7a _)
  have c8 : ∀ n, (G n).cell? ⟨w3.heap.size, 0, none⟩ = some (.int .u64 A2) := fun n => Fq.gkeep (hG n) (r8a _)
  have c9 : ∀ n, (G n).cell? ⟨w3.heap.size, 1, none⟩ = some (.int .u64 B2) := fun n => Fq.gkeep (hG n) (r9a _)
  have d0 : ∀ n, (G n).cell? ⟨w4.heap.size, 0, none⟩ = some (.int .u64 A3) := fun n => Fq.gkeep (hG n) (by simp [go_sem])
  have d1 : ∀ n, (G n).cell? ⟨w4.heap.size, 1, none⟩ = some (.int .u64 B3) := fun n => Fq.gkeep (hG n) (by simp [go_sem])
  have kG : ∀ n, Kp w (G n) := fun n => Kp.trans (Kp.trans k4 ((Kp.refl w4).alloc _)) (hG n)
  repeat (go_big_quiet_step (first | (go_at_call 6; exact (Fq.rempty_ _).mono (fun e w' h => ⟨h.1, hall _ (by rw [h.2]; exact (hG _).alloc _ _)⟩))))
  refine wpQuiet_nil ?_
  rintro _ ⟨nq, rfl⟩
  have z0 := c0 nq
  have z1 := c1 nq
  have z2 := c2 nq
  have z3 := c3 nq
  have z4 := c4 nq
  have z5 := c5 nq
  have z6 := c6 nq
  have z7 := c7 nq
  have z8 := c8 nq
  have z9 := c9 nq
  have kWE := kG nq
  clear c0 c1 c2 c3 c4 c5 c6 c7 c8 c9 d0 d1 kG hall
  generalize G nq = WE at z0 z1 z2 z3 z4 z5 z6 z7 z8 z9 kWE ⊢
  clear hG
  go_wp2
  exact bodyPost_ret (v := .bool true) (by simp [results, Tryd.results3, go_sem]) rfl ⟨rfl, kWE⟩
set_option maxRecDepth 20000 in
set_option maxHeartbeats 4000000 in
theorem triT_ (X1 Y1 X2 Y2 X3 Y3 A1 B1 A2 B2 A3 B3 : Int) (w : World) (hD : ∀ W : World, Kp w W → Calls Tryd.prog 4 #[.agg #[.float .f64 4607182418800017408, .float .f64 4611686018427387904], .agg #[.float .f64 4609434218613702656, .float .f64 4616189618054758400]] W fun e w' => e = .returned (.float .f64 4611686018427387904) ∧ Kp W w') (_q0 : (FloatKind.f64.format.order 4611686018427387904 4611686018427387904 == some Ordering.eq) = true) (hR1 : ∀ w : World, Calls Tryd.prog 5 #[.agg #[.int .u64 X1, .int .u64 Y1]] w fun e w' => e = .returned (.agg #[.int .u64 A1, .int .u64 B1]) ∧ Kp w w') (hR2 : ∀ w : World, Calls Tryd.prog 5 #[.agg #[.int .u64 X2, .int .u64 Y2]] w fun e w' => e = .returned (.agg #[.int .u64 A2, .int .u64 B2]) ∧ Kp w w') (hR3 : ∀ w : World, Calls Tryd.prog 5 #[.agg #[.int .u64 X3, .int .u64 Y3]] w fun e w' => e = .returned (.agg #[.int .u64 A3, .int .u64 B3]) ∧ Kp w w') (a1 b1 a2 b2 a3 b3 XY YZ XZ S9 : Nat) (hI1 : ∀ w : World, Calls Tryd.prog 7 #[.agg #[.int .u64 X1, .int .u64 Y1]] w fun e w' => e = .returned (.agg #[.float .f64 a1, .float .f64 b1]) ∧ Kp w w') (hI2 : ∀ w : World, Calls Tryd.prog 7 #[.agg #[.int .u64 X2, .int .u64 Y2]] w fun e w' => e = .returned (.agg #[.float .f64 a2, .float .f64 b2]) ∧ Kp w w') (hI3 : ∀ w : World, Calls Tryd.prog 7 #[.agg #[.int .u64 X3, .int .u64 Y3]] w fun e w' => e = .returned (.agg #[.float .f64 a3, .float .f64 b3]) ∧ Kp w w') (hD12 : ∀ W : World, Kp w W → Calls Tryd.prog 4 #[.agg #[.float .f64 a1, .float .f64 b1], .agg #[.float .f64 a2, .float .f64 b2]] W fun e w' => e = .returned (.float .f64 XY) ∧ Kp W w') (hD23 : ∀ W : World, Kp w W → Calls Tryd.prog 4 #[.agg #[.float .f64 a2, .float .f64 b2], .agg #[.float .f64 a3, .float .f64 b3]] W fun e w' => e = .returned (.float .f64 YZ) ∧ Kp W w') (hD13 : ∀ W : World, Kp w W → Calls Tryd.prog 4 #[.agg #[.float .f64 a1, .float .f64 b1], .agg #[.float .f64 a3, .float .f64 b3]] W fun e w' => e = .returned (.float .f64 XZ) ∧ Kp W w') (hD21 : ∀ W : World, Kp w W → Calls Tryd.prog 4 #[.agg #[.float .f64 a2, .float .f64 b2], .agg #[.float .f64 a1, .float .f64 b1]] W fun e w' => e = .returned (.float .f64 XY) ∧ Kp W w') (hAd : ∀ W : World, Kp w W → Calls Tryd.prog 8 #[.int .i64 1, .float .f64 XY, .float .f64 YZ] W fun e w' => e = .returned (.float .f64 S9) ∧ Kp W w') (t1 : (A1 == 9218868437227405312) = false) (t2 : (A2 == 9218868437227405312) = false) (t3 : (A3 == 9218868437227405312) = false) (f1 : (FloatKind.f64.format.order XY 0 == some Ordering.lt) = false) (f2 : (FloatKind.f64.format.order XY 0 == some Ordering.eq) = true) (f3 : (FloatKind.f64.format.order XY XY == some Ordering.eq) = true) (f4 : (FloatKind.f64.format.order XZ S9 == some Ordering.lt || FloatKind.f64.format.order XZ S9 == some Ordering.eq) = true) (tA : (A1 == A2) = true) (tB : (B1 == B2) = true) : Calls Tryd.prog 3 #[.agg #[.int .u64 X1, .int .u64 Y1], .agg #[.int .u64 X2, .int .u64 Y2], .agg #[.int .u64 X3, .int .u64 Y3]] w fun e w' => e = .returned (.bool true) ∧ Kp w w' := by
  have f1' : ¬ (FloatKind.f64.format.order XY 0 = some Ordering.lt) := by simpa using f1
  have f2' : (FloatKind.f64.format.order XY 0 = some Ordering.eq) := by simpa using f2
  have f3' : FloatKind.f64.format.order XY XY = some Ordering.eq := by simpa using f3
  go_enter Tryd.func3, Tryd.ntmps3
  go_wp2_with (first | (go_at_call 4; refine (hD _ ((((Kp.refl w).alloc _).alloc _).alloc _)).mono ?_; rintro e w1 ⟨rfl, g1⟩; have k1 : Kp w w1 := Kp.trans ((((Kp.refl w).alloc _).alloc _).alloc _) g1; have x0 := kkeep g1 (b := w.heap.size) (o := 0) (v := .int .u64 X1) (by simp [go_sem]); have x1 := kkeep g1 (b := w.heap.size) (o := 1) (v := .int .u64 Y1) (by simp [go_sem]); have x2 := kkeep g1 (b := w.heap.size + 1) (o := 0) (v := .int .u64 X2) (by simp [go_sem]); have x3 := kkeep g1 (b := w.heap.size + 1) (o := 1) (v := .int .u64 Y2) (by simp [go_sem]); have x4 := kkeep g1 (b := w.heap.size + 2) (o := 0) (v := .int .u64 X3) (by simp [go_sem]); have x5 := kkeep g1 (b := w.heap.size + 2) (o := 1) (v := .int .u64 Y3) (by simp [go_sem])) | (go_at_call_of 5 (Value.agg #[.int .u64 X1, .int .u64 Y1]); refine (hR1 _).mono ?_; rintro e w2 ⟨rfl, g2⟩; have k2 : Kp w w2 := Kp.trans k1 g2; have p0 := kkeep g2 x0; have p1 := kkeep g2 x1; have p2 := kkeep g2 x2; have p3 := kkeep g2 x3; have p4 := kkeep g2 x4; have p5 := kkeep g2 x5; have p0a := fun o => kkeep ((Kp.refl w2).alloc o) p0; have p1a := fun o => kkeep ((Kp.refl w2).alloc o) p1; have p2a := fun o => kkeep ((Kp.refl w2).alloc o) p2; have p3a := fun o => kkeep ((Kp.refl w2).alloc o) p3; have p4a := fun o => kkeep ((Kp.refl w2).alloc o) p4; have p5a := fun o => kkeep ((Kp.refl w2).alloc o) p5) | (go_at_call_of 5 (Value.agg #[.int .u64 X2, .int .u64 Y2]); refine (hR2 _).mono ?_; rintro e w3 ⟨rfl, g3⟩; have k3 : Kp w w3 := Kp.trans (Kp.trans k2 ((Kp.refl w2).alloc _)) g3; have q0 := kkeep g3 (p0a _); have q1 := kkeep g3 (p1a _); have q2 := kkeep g3 (p2a _); have q3 := kkeep g3 (p3a _); have q4 := kkeep g3 (p4a _); have q5 := kkeep g3 (p5a _); have q6 := kkeep g3 (b := w2.heap.size) (o := 0) (v := .int .u64 A1) (by simp [go_sem]); have q7 := kkeep g3 (b := w2.heap.size) (o := 1) (v := .int .u64 B1) (by simp [go_sem]); have q0a := fun o => kkeep ((Kp.refl w3).alloc o) q0; have q1a := fun o => kkeep ((Kp.refl w3).alloc o) q1; have q2a := fun o => kkeep ((Kp.refl w3).alloc o) q2; have q3a := fun o => kkeep ((Kp.refl w3).alloc o) q3; have q4a := fun o => kkeep ((Kp.refl w3).alloc o) q4; have q5a := fun o => kkeep ((Kp.refl w3).alloc o) q5; have q6a := fun o => kkeep ((Kp.refl w3).alloc o) q6; have q7a := fun o => kkeep ((Kp.refl w3).alloc o) q7) | (go_at_call_of 5 (Value.agg #[.int .u64 X3, .int .u64 Y3]); refine (hR3 _).mono ?_; rintro e w4 ⟨rfl, g4⟩; have k4 : Kp w w4 := Kp.trans (Kp.trans k3 ((Kp.refl w3).alloc _)) g4; have r0 := kkeep g4 (q0a _); have r1 := kkeep g4 (q1a _); have r2 := kkeep g4 (q2a _); have r3 := kkeep g4 (q3a _); have r4 := kkeep g4 (q4a _); have r5 := kkeep g4 (q5a _); have r6 := kkeep g4 (q6a _); have r7 := kkeep g4 (q7a _); have r8 := kkeep g4 (b := w3.heap.size) (o := 0) (v := .int .u64 A2) (by simp [go_sem]); have r9 := kkeep g4 (b := w3.heap.size) (o := 1) (v := .int .u64 B2) (by simp [go_sem]); have r0a := fun o => kkeep ((Kp.refl w4).alloc o) r0; have r1a := fun o => kkeep ((Kp.refl w4).alloc o) r1; have r2a := fun o => kkeep ((Kp.refl w4).alloc o) r2; have r3a := fun o => kkeep ((Kp.refl w4).alloc o) r3; have r4a := fun o => kkeep ((Kp.refl w4).alloc o) r4; have r5a := fun o => kkeep ((Kp.refl w4).alloc o) r5; have r6a := fun o => kkeep ((Kp.refl w4).alloc o) r6; have r7a := fun o => kkeep ((Kp.refl w4).alloc o) r7; have r8a := fun o => kkeep ((Kp.refl w4).alloc o) r8; have r9a := fun o => kkeep ((Kp.refl w4).alloc o) r9))
  refine Fq.wp_region_grow (by kernel_rfl) (by kernel_rfl) (fun ι _ G hG hall => ?_)
  have c0 : ∀ n, (G n).cell? ⟨w.heap.size, 0, none⟩ = some (.int .u64 X1) := fun n => Fq.gkeep (hG n) (r0a _)
  have c1 : ∀ n, (G n).cell? ⟨w.heap.size, 1, none⟩ = some (.int .u64 Y1) := fun n => Fq.gkeep (hG n) (r1a _)
  have c2 : ∀ n, (G n).cell? ⟨w.heap.size + 1, 0, none⟩ = some (.int .u64 X2) := fun n => Fq.gkeep (hG n) (r2a _)
  have c3 : ∀ n, (G n).cell? ⟨w.heap.size + 1, 1, none⟩ = some (.int .u64 Y2) := fun n => Fq.gkeep (hG n) (r3a _)
  have c4 : ∀ n, (G n).cell? ⟨w.heap.size + 2, 0, none⟩ = some (.int .u64 X3) := fun n => Fq.gkeep (hG n) (r4a _)
  have c5 : ∀ n, (G n).cell? ⟨w.heap.size + 2, 1, none⟩ = some (.int .u64 Y3) := fun n => Fq.gkeep (hG n) (r5a _)
  have c6 : ∀ n, (G n).cell? ⟨w2.heap.size, 0, none⟩ = some (.int .u64 A1) := fun n => Fq.gkeep (hG n) (r6a _)
  have c7 : ∀ n, (G n).cell? ⟨w2.heap.size, 1, none⟩ = some (.int .u64 B1) := fun n => Fq.gkeep (hG n) (r7a _)
  have c8 : ∀ n, (G n).cell? ⟨w3.heap.size, 0, none⟩ = some (.int .u64 A2) := fun n => Fq.gkeep (hG n) (r8a _)
  have c9 : ∀ n, (G n).cell? ⟨w3.heap.size, 1, none⟩ = some (.int .u64 B2) := fun n => Fq.gkeep (hG n) (r9a _)
  have d0 : ∀ n, (G n).cell? ⟨w4.heap.size, 0, none⟩ = some (.int .u64 A3) := fun n => Fq.gkeep (hG n) (by simp [go_sem])
  have d1 : ∀ n, (G n).cell? ⟨w4.heap.size, 1, none⟩ = some (.int .u64 B3) := fun n => Fq.gkeep (hG n) (by simp [go_sem])
  have kG : ∀ n, Kp w (G n) := fun n => Kp.trans (Kp.trans k4 ((Kp.refl w4).alloc _)) (hG n)
  repeat (go_big_quiet_step (first | (go_at_call 6; exact (Fq.rempty_ _).mono (fun e w' h => ⟨h.1, hall _ (by rw [h.2]; exact (hG _).alloc _ _)⟩))))
  refine wpQuiet_nil ?_
  rintro _ ⟨nq, rfl⟩
  have z0 := c0 nq
  have z1 := c1 nq
  have z2 := c2 nq
  have z3 := c3 nq
  have z4 := c4 nq
  have z5 := c5 nq
  have z6 := c6 nq
  have z7 := c7 nq
  have z8 := c8 nq
  have z9 := c9 nq
  have kWE := kG nq
  clear c0 c1 c2 c3 c4 c5 c6 c7 c8 c9 d0 d1 kG hall
  generalize G nq = WE at z0 z1 z2 z3 z4 z5 z6 z7 z8 z9 kWE ⊢
  clear hG
  go_wp2
  refine Fq.wp_region_grow (by kernel_rfl) (by kernel_rfl) (fun ι _ G hG hall => ?_)
  have c0 : ∀ n, (G n).cell? ⟨w.heap.size, 0, none⟩ = some (.int .u64 X1) := fun n => Fq.gkeep (hG n) (z0)
  have c1 : ∀ n, (G n).cell? ⟨w.heap.size, 1, none⟩ = some (.int .u64 Y1) := fun n => Fq.gkeep (hG n) (z1)
  have c2 : ∀ n, (G n).cell? ⟨w.heap.size + 1, 0, none⟩ = some (.int .u64 X2) := fun n => Fq.gkeep (hG n) (z2)
  have c3 : ∀ n, (G n).cell? ⟨w.heap.size + 1, 1, none⟩ = some (.int .u64 Y2) := fun n => Fq.gkeep (hG n) (z3)
  have c4 : ∀ n, (G n).cell? ⟨w.heap.size + 2, 0, none⟩ = some (.int .u64 X3) := fun n => Fq.gkeep (hG n) (z4)
  have c5 : ∀ n, (G n).cell? ⟨w.heap.size + 2, 1, none⟩ = some (.int .u64 Y3) := fun n => Fq.gkeep (hG n) (z5)
  have c6 : ∀ n, (G n).cell? ⟨w2.heap.size, 0, none⟩ = some (.int .u64 A1) := fun n => Fq.gkeep (hG n) (z6)
  have c7 : ∀ n, (G n).cell? ⟨w2.heap.size, 1, none⟩ = some (.int .u64 B1) := fun n => Fq.gkeep (hG n) (z7)
  have c8 : ∀ n, (G n).cell? ⟨w3.heap.size, 0, none⟩ = some (.int .u64 A2) := fun n => Fq.gkeep (hG n) (z8)
  have c9 : ∀ n, (G n).cell? ⟨w3.heap.size, 1, none⟩ = some (.int .u64 B2) := fun n => Fq.gkeep (hG n) (z9)
  have kG : ∀ n, Kp w (G n) := fun n => Kp.trans (kWE) (hG n)
  repeat (go_big_quiet_step (first | (go_at_call_of 7 (Value.agg #[.int .u64 X1, .int .u64 Y1]); exact (hI1 _).mono (fun e w' h => ⟨h.1, hall _ (Fq.gtrans (hG _) h.2)⟩)) | (go_at_call_of 7 (Value.agg #[.int .u64 X2, .int .u64 Y2]); exact (hI2 _).mono (fun e w' h => ⟨h.1, hall _ (Fq.gtrans (hG _) h.2)⟩)) | (go_at_call 4; exact (hD12 _ (kG _)).mono (fun e w' h => ⟨h.1, hall _ (Fq.gtrans (hG _) h.2)⟩))))
  refine wpQuiet_nil ?_
  rintro _ ⟨nq, rfl⟩
  have y0 := c0 nq
  have y1 := c1 nq
  have y2 := c2 nq
  have y3 := c3 nq
  have y4 := c4 nq
  have y5 := c5 nq
  have y6 := c6 nq
  have y7 := c7 nq
  have y8 := c8 nq
  have y9 := c9 nq
  have kWF := kG nq
  clear c0 c1 c2 c3 c4 c5 c6 c7 c8 c9  kG hall
  generalize G nq = WF at y0 y1 y2 y3 y4 y5 y6 y7 y8 y9 kWF ⊢
  clear hG
  go_wp2
  refine Fq.wp_region_grow (by kernel_rfl) (by kernel_rfl) (fun ι _ G hG hall => ?_)
  have c0 : ∀ n, (G n).cell? ⟨w.heap.size, 0, none⟩ = some (.int .u64 X1) := fun n => Fq.gkeep (hG n) (y0)
  have c1 : ∀ n, (G n).cell? ⟨w.heap.size, 1, none⟩ = some (.int .u64 Y1) := fun n => Fq.gkeep (hG n) (y1)
  have c2 : ∀ n, (G n).cell? ⟨w.heap.size + 1, 0, none⟩ = some (.int .u64 X2) := fun n => Fq.gkeep (hG n) (y2)
  have c3 : ∀ n, (G n).cell? ⟨w.heap.size + 1, 1, none⟩ = some (.int .u64 Y2) := fun n => Fq.gkeep (hG n) (y3)
  have c4 : ∀ n, (G n).cell? ⟨w.heap.size + 2, 0, none⟩ = some (.int .u64 X3) := fun n => Fq.gkeep (hG n) (y4)
  have c5 : ∀ n, (G n).cell? ⟨w.heap.size + 2, 1, none⟩ = some (.int .u64 Y3) := fun n => Fq.gkeep (hG n) (y5)
  have c6 : ∀ n, (G n).cell? ⟨w2.heap.size, 0, none⟩ = some (.int .u64 A1) := fun n => Fq.gkeep (hG n) (y6)
  have c7 : ∀ n, (G n).cell? ⟨w2.heap.size, 1, none⟩ = some (.int .u64 B1) := fun n => Fq.gkeep (hG n) (y7)
  have c8 : ∀ n, (G n).cell? ⟨w3.heap.size, 0, none⟩ = some (.int .u64 A2) := fun n => Fq.gkeep (hG n) (y8)
  have c9 : ∀ n, (G n).cell? ⟨w3.heap.size, 1, none⟩ = some (.int .u64 B2) := fun n => Fq.gkeep (hG n) (y9)
  have kG : ∀ n, Kp w (G n) := fun n => Kp.trans (kWF) (hG n)
  repeat (go_big_quiet_step (first | (go_at_call_of 7 (Value.agg #[.int .u64 X2, .int .u64 Y2]); exact (hI2 _).mono (fun e w' h => ⟨h.1, hall _ (Fq.gtrans (hG _) h.2)⟩)) | (go_at_call_of 7 (Value.agg #[.int .u64 X3, .int .u64 Y3]); exact (hI3 _).mono (fun e w' h => ⟨h.1, hall _ (Fq.gtrans (hG _) h.2)⟩)) | (go_at_call 4; exact (hD23 _ (kG _)).mono (fun e w' h => ⟨h.1, hall _ (Fq.gtrans (hG _) h.2)⟩))))
  refine wpQuiet_nil ?_
  rintro _ ⟨nq, rfl⟩
  have v0 := c0 nq
  have v1 := c1 nq
  have v2 := c2 nq
  have v3 := c3 nq
  have v4 := c4 nq
  have v5 := c5 nq
  have v6 := c6 nq
  have v7 := c7 nq
  have v8 := c8 nq
  have v9 := c9 nq
  have kWG := kG nq
  clear c0 c1 c2 c3 c4 c5 c6 c7 c8 c9  kG hall
  generalize G nq = WG at v0 v1 v2 v3 v4 v5 v6 v7 v8 v9 kWG ⊢
  clear hG
  go_wp2
  refine Fq.wp_region_grow (by kernel_rfl) (by kernel_rfl) (fun ι _ G hG hall => ?_)
  have c0 : ∀ n, (G n).cell? ⟨w.heap.size, 0, none⟩ = some (.int .u64 X1) := fun n => Fq.gkeep (hG n) (v0)
  have c1 : ∀ n, (G n).cell? ⟨w.heap.size, 1, none⟩ = some (.int .u64 Y1) := fun n => Fq.gkeep (hG n) (v1)
  have c2 : ∀ n, (G n).cell? ⟨w.heap.size + 1, 0, none⟩ = some (.int .u64 X2) := fun n => Fq.gkeep (hG n) (v2)
  have c3 : ∀ n, (G n).cell? ⟨w.heap.size + 1, 1, none⟩ = some (.int .u64 Y2) := fun n => Fq.gkeep (hG n) (v3)
  have c4 : ∀ n, (G n).cell? ⟨w.heap.size + 2, 0, none⟩ = some (.int .u64 X3) := fun n => Fq.gkeep (hG n) (v4)
  have c5 : ∀ n, (G n).cell? ⟨w.heap.size + 2, 1, none⟩ = some (.int .u64 Y3) := fun n => Fq.gkeep (hG n) (v5)
  have c6 : ∀ n, (G n).cell? ⟨w2.heap.size, 0, none⟩ = some (.int .u64 A1) := fun n => Fq.gkeep (hG n) (v6)
  have c7 : ∀ n, (G n).cell? ⟨w2.heap.size, 1, none⟩ = some (.int .u64 B1) := fun n => Fq.gkeep (hG n) (v7)
  have c8 : ∀ n, (G n).cell? ⟨w3.heap.size, 0, none⟩ = some (.int .u64 A2) := fun n => Fq.gkeep (hG n) (v8)
  have c9 : ∀ n, (G n).cell? ⟨w3.heap.size, 1, none⟩ = some (.int .u64 B2) := fun n => Fq.gkeep (hG n) (v9)
  have kG : ∀ n, Kp w (G n) := fun n => Kp.trans (kWG) (hG n)
  repeat (go_big_quiet_step (first | (go_at_call_of 7 (Value.agg #[.int .u64 X1, .int .u64 Y1]); exact (hI1 _).mono (fun e w' h => ⟨h.1, hall _ (Fq.gtrans (hG _) h.2)⟩)) | (go_at_call_of 7 (Value.agg #[.int .u64 X3, .int .u64 Y3]); exact (hI3 _).mono (fun e w' h => ⟨h.1, hall _ (Fq.gtrans (hG _) h.2)⟩)) | (go_at_call 4; exact (hD13 _ (kG _)).mono (fun e w' h => ⟨h.1, hall _ (Fq.gtrans (hG _) h.2)⟩))))
  refine wpQuiet_nil ?_
  rintro _ ⟨nq, rfl⟩
  have j0 := c0 nq
  have j1 := c1 nq
  have j2 := c2 nq
  have j3 := c3 nq
  have j4 := c4 nq
  have j5 := c5 nq
  have j6 := c6 nq
  have j7 := c7 nq
  have j8 := c8 nq
  have j9 := c9 nq
  have kWH := kG nq
  clear c0 c1 c2 c3 c4 c5 c6 c7 c8 c9  kG hall
  generalize G nq = WH at j0 j1 j2 j3 j4 j5 j6 j7 j8 j9 kWH ⊢
  clear hG
  go_wp2
  refine Fq.wp_region_grow (by kernel_rfl) (by kernel_rfl) (fun ι _ G hG hall => ?_)
  have c0 : ∀ n, (G n).cell? ⟨w.heap.size, 0, none⟩ = some (.int .u64 X1) := fun n => Fq.gkeep (hG n) (j0)
  have c1 : ∀ n, (G n).cell? ⟨w.heap.size, 1, none⟩ = some (.int .u64 Y1) := fun n => Fq.gkeep (hG n) (j1)
  have c2 : ∀ n, (G n).cell? ⟨w.heap.size + 1, 0, none⟩ = some (.int .u64 X2) := fun n => Fq.gkeep (hG n) (j2)
  have c3 : ∀ n, (G n).cell? ⟨w.heap.size + 1, 1, none⟩ = some (.int .u64 Y2) := fun n => Fq.gkeep (hG n) (j3)
  have c4 : ∀ n, (G n).cell? ⟨w.heap.size + 2, 0, none⟩ = some (.int .u64 X3) := fun n => Fq.gkeep (hG n) (j4)
  have c5 : ∀ n, (G n).cell? ⟨w.heap.size + 2, 1, none⟩ = some (.int .u64 Y3) := fun n => Fq.gkeep (hG n) (j5)
  have c6 : ∀ n, (G n).cell? ⟨w2.heap.size, 0, none⟩ = some (.int .u64 A1) := fun n => Fq.gkeep (hG n) (j6)
  have c7 : ∀ n, (G n).cell? ⟨w2.heap.size, 1, none⟩ = some (.int .u64 B1) := fun n => Fq.gkeep (hG n) (j7)
  have c8 : ∀ n, (G n).cell? ⟨w3.heap.size, 0, none⟩ = some (.int .u64 A2) := fun n => Fq.gkeep (hG n) (j8)
  have c9 : ∀ n, (G n).cell? ⟨w3.heap.size, 1, none⟩ = some (.int .u64 B2) := fun n => Fq.gkeep (hG n) (j9)
  have kG : ∀ n, Kp w (G n) := fun n => Kp.trans (kWH) (hG n)
  repeat (go_big_quiet_step (first | (go_at_call_of 7 (Value.agg #[.int .u64 X2, .int .u64 Y2]); exact (hI2 _).mono (fun e w' h => ⟨h.1, hall _ (Fq.gtrans (hG _) h.2)⟩)) | (go_at_call_of 7 (Value.agg #[.int .u64 X1, .int .u64 Y1]); exact (hI1 _).mono (fun e w' h => ⟨h.1, hall _ (Fq.gtrans (hG _) h.2)⟩)) | (go_at_call 4; exact (hD21 _ (kG _)).mono (fun e w' h => ⟨h.1, hall _ (Fq.gtrans (hG _) h.2)⟩))))
  refine wpQuiet_nil ?_
  rintro _ ⟨nq, rfl⟩
  have m0 := c0 nq
  have m1 := c1 nq
  have m2 := c2 nq
  have m3 := c3 nq
  have m4 := c4 nq
  have m5 := c5 nq
  have m6 := c6 nq
  have m7 := c7 nq
  have m8 := c8 nq
  have m9 := c9 nq
  have kWJ := kG nq
  clear c0 c1 c2 c3 c4 c5 c6 c7 c8 c9  kG hall
  generalize G nq = WJ at m0 m1 m2 m3 m4 m5 m6 m7 m8 m9 kWJ ⊢
  clear hG
  go_wp2_with (first | (go_at_call 8; refine (hAd _ kWJ).mono ?_; rintro e wz ⟨rfl, gz⟩; have kz : Kp w wz := Kp.trans kWJ gz))
  exact bodyPost_ret (v := .bool true) (by simp [results, Tryd.results3, go_sem] <;> simpa using f4) rfl ⟨rfl, kz⟩
set_option maxRecDepth 20000 in
set_option maxHeartbeats 4000000 in
theorem triF_ (X1 Y1 X2 Y2 X3 Y3 A1 B1 A2 B2 A3 B3 : Int) (w : World) (hD : ∀ W : World, Kp w W → Calls Tryd.prog 4 #[.agg #[.float .f64 4607182418800017408, .float .f64 4611686018427387904], .agg #[.float .f64 4609434218613702656, .float .f64 4616189618054758400]] W fun e w' => e = .returned (.float .f64 4611686018427387904) ∧ Kp W w') (_q0 : (FloatKind.f64.format.order 4611686018427387904 4611686018427387904 == some Ordering.eq) = true) (hR1 : ∀ w : World, Calls Tryd.prog 5 #[.agg #[.int .u64 X1, .int .u64 Y1]] w fun e w' => e = .returned (.agg #[.int .u64 A1, .int .u64 B1]) ∧ Kp w w') (hR2 : ∀ w : World, Calls Tryd.prog 5 #[.agg #[.int .u64 X2, .int .u64 Y2]] w fun e w' => e = .returned (.agg #[.int .u64 A2, .int .u64 B2]) ∧ Kp w w') (hR3 : ∀ w : World, Calls Tryd.prog 5 #[.agg #[.int .u64 X3, .int .u64 Y3]] w fun e w' => e = .returned (.agg #[.int .u64 A3, .int .u64 B3]) ∧ Kp w w') (a1 b1 a2 b2 a3 b3 XY YZ XZ S9 : Nat) (hI1 : ∀ w : World, Calls Tryd.prog 7 #[.agg #[.int .u64 X1, .int .u64 Y1]] w fun e w' => e = .returned (.agg #[.float .f64 a1, .float .f64 b1]) ∧ Kp w w') (hI2 : ∀ w : World, Calls Tryd.prog 7 #[.agg #[.int .u64 X2, .int .u64 Y2]] w fun e w' => e = .returned (.agg #[.float .f64 a2, .float .f64 b2]) ∧ Kp w w') (hI3 : ∀ w : World, Calls Tryd.prog 7 #[.agg #[.int .u64 X3, .int .u64 Y3]] w fun e w' => e = .returned (.agg #[.float .f64 a3, .float .f64 b3]) ∧ Kp w w') (hD12 : ∀ W : World, Kp w W → Calls Tryd.prog 4 #[.agg #[.float .f64 a1, .float .f64 b1], .agg #[.float .f64 a2, .float .f64 b2]] W fun e w' => e = .returned (.float .f64 XY) ∧ Kp W w') (hD23 : ∀ W : World, Kp w W → Calls Tryd.prog 4 #[.agg #[.float .f64 a2, .float .f64 b2], .agg #[.float .f64 a3, .float .f64 b3]] W fun e w' => e = .returned (.float .f64 YZ) ∧ Kp W w') (hD13 : ∀ W : World, Kp w W → Calls Tryd.prog 4 #[.agg #[.float .f64 a1, .float .f64 b1], .agg #[.float .f64 a3, .float .f64 b3]] W fun e w' => e = .returned (.float .f64 XZ) ∧ Kp W w') (hD21 : ∀ W : World, Kp w W → Calls Tryd.prog 4 #[.agg #[.float .f64 a2, .float .f64 b2], .agg #[.float .f64 a1, .float .f64 b1]] W fun e w' => e = .returned (.float .f64 XY) ∧ Kp W w') (hAd : ∀ W : World, Kp w W → Calls Tryd.prog 8 #[.int .i64 1, .float .f64 XY, .float .f64 YZ] W fun e w' => e = .returned (.float .f64 S9) ∧ Kp W w') (t1 : (A1 == 9218868437227405312) = false) (t2 : (A2 == 9218868437227405312) = false) (t3 : (A3 == 9218868437227405312) = false) (f1 : (FloatKind.f64.format.order XY 0 == some Ordering.lt) = false) (f2 : (FloatKind.f64.format.order XY 0 == some Ordering.eq) = false) (f3 : (FloatKind.f64.format.order XY XY == some Ordering.eq) = true) (f4 : (FloatKind.f64.format.order XZ S9 == some Ordering.lt || FloatKind.f64.format.order XZ S9 == some Ordering.eq) = true) (tA : (A1 == A2) = false) : Calls Tryd.prog 3 #[.agg #[.int .u64 X1, .int .u64 Y1], .agg #[.int .u64 X2, .int .u64 Y2], .agg #[.int .u64 X3, .int .u64 Y3]] w fun e w' => e = .returned (.bool true) ∧ Kp w w' := by
  have f1' : ¬ (FloatKind.f64.format.order XY 0 = some Ordering.lt) := by simpa using f1
  have f2' : ¬ (FloatKind.f64.format.order XY 0 = some Ordering.eq) := by simpa using f2
  have f3' : FloatKind.f64.format.order XY XY = some Ordering.eq := by simpa using f3
  go_enter Tryd.func3, Tryd.ntmps3
  go_wp2_with (first | (go_at_call 4; refine (hD _ ((((Kp.refl w).alloc _).alloc _).alloc _)).mono ?_; rintro e w1 ⟨rfl, g1⟩; have k1 : Kp w w1 := Kp.trans ((((Kp.refl w).alloc _).alloc _).alloc _) g1; have x0 := kkeep g1 (b := w.heap.size) (o := 0) (v := .int .u64 X1) (by simp [go_sem]); have x1 := kkeep g1 (b := w.heap.size) (o := 1) (v := .int .u64 Y1) (by simp [go_sem]); have x2 := kkeep g1 (b := w.heap.size + 1) (o := 0) (v := .int .u64 X2) (by simp [go_sem]); have x3 := kkeep g1 (b := w.heap.size + 1) (o := 1) (v := .int .u64 Y2) (by simp [go_sem]); have x4 := kkeep g1 (b := w.heap.size + 2) (o := 0) (v := .int .u64 X3) (by simp [go_sem]); have x5 := kkeep g1 (b := w.heap.size + 2) (o := 1) (v := .int .u64 Y3) (by simp [go_sem])) | (go_at_call_of 5 (Value.agg #[.int .u64 X1, .int .u64 Y1]); refine (hR1 _).mono ?_; rintro e w2 ⟨rfl, g2⟩; have k2 : Kp w w2 := Kp.trans k1 g2; have p0 := kkeep g2 x0; have p1 := kkeep g2 x1; have p2 := kkeep g2 x2; have p3 := kkeep g2 x3; have p4 := kkeep g2 x4; have p5 := kkeep g2 x5; have p0a := fun o => kkeep ((Kp.refl w2).alloc o) p0; have p1a := fun o => kkeep ((Kp.refl w2).alloc o) p1; have p2a := fun o => kkeep ((Kp.refl w2).alloc o) p2; have p3a := fun o => kkeep ((Kp.refl w2).alloc o) p3; have p4a := fun o => kkeep ((Kp.refl w2).alloc o) p4; have p5a := fun o => kkeep ((Kp.refl w2).alloc o) p5) | (go_at_call_of 5 (Value.agg #[.int .u64 X2, .int .u64 Y2]); refine (hR2 _).mono ?_; rintro e w3 ⟨rfl, g3⟩; have k3 : Kp w w3 := Kp.trans (Kp.trans k2 ((Kp.refl w2).alloc _)) g3; have q0 := kkeep g3 (p0a _); have q1 := kkeep g3 (p1a _); have q2 := kkeep g3 (p2a _); have q3 := kkeep g3 (p3a _); have q4 := kkeep g3 (p4a _); have q5 := kkeep g3 (p5a _); have q6 := kkeep g3 (b := w2.heap.size) (o := 0) (v := .int .u64 A1) (by simp [go_sem]); have q7 := kkeep g3 (b := w2.heap.size) (o := 1) (v := .int .u64 B1) (by simp [go_sem]); have q0a := fun o => kkeep ((Kp.refl w3).alloc o) q0; have q1a := fun o => kkeep ((Kp.refl w3).alloc o) q1; have q2a := fun o => kkeep ((Kp.refl w3).alloc o) q2; have q3a := fun o => kkeep ((Kp.refl w3).alloc o) q3; have q4a := fun o => kkeep ((Kp.refl w3).alloc o) q4; have q5a := fun o => kkeep ((Kp.refl w3).alloc o) q5; have q6a := fun o => kkeep ((Kp.refl w3).alloc o) q6; have q7a := fun o => kkeep ((Kp.refl w3).alloc o) q7) | (go_at_call_of 5 (Value.agg #[.int .u64 X3, .int .u64 Y3]); refine (hR3 _).mono ?_; rintro e w4 ⟨rfl, g4⟩; have k4 : Kp w w4 := Kp.trans (Kp.trans k3 ((Kp.refl w3).alloc _)) g4; have r0 := kkeep g4 (q0a _); have r1 := kkeep g4 (q1a _); have r2 := kkeep g4 (q2a _); have r3 := kkeep g4 (q3a _); have r4 := kkeep g4 (q4a _); have r5 := kkeep g4 (q5a _); have r6 := kkeep g4 (q6a _); have r7 := kkeep g4 (q7a _); have r8 := kkeep g4 (b := w3.heap.size) (o := 0) (v := .int .u64 A2) (by simp [go_sem]); have r9 := kkeep g4 (b := w3.heap.size) (o := 1) (v := .int .u64 B2) (by simp [go_sem]); have r0a := fun o => kkeep ((Kp.refl w4).alloc o) r0; have r1a := fun o => kkeep ((Kp.refl w4).alloc o) r1; have r2a := fun o => kkeep ((Kp.refl w4).alloc o) r2; have r3a := fun o => kkeep ((Kp.refl w4).alloc o) r3; have r4a := fun o => kkeep ((Kp.refl w4).alloc o) r4; have r5a := fun o => kkeep ((Kp.refl w4).alloc o) r5; have r6a := fun o => kkeep ((Kp.refl w4).alloc o) r6; have r7a := fun o => kkeep ((Kp.refl w4).alloc o) r7; have r8a := fun o => kkeep ((Kp.refl w4).alloc o) r8; have r9a := fun o => kkeep ((Kp.refl w4).alloc o) r9))
  refine Fq.wp_region_grow (by kernel_rfl) (by kernel_rfl) (fun ι _ G hG hall => ?_)
  have c0 : ∀ n, (G n).cell? ⟨w.heap.size, 0, none⟩ = some (.int .u64 X1) := fun n => Fq.gkeep (hG n) (r0a _)
  have c1 : ∀ n, (G n).cell? ⟨w.heap.size, 1, none⟩ = some (.int .u64 Y1) := fun n => Fq.gkeep (hG n) (r1a _)
  have c2 : ∀ n, (G n).cell? ⟨w.heap.size + 1, 0, none⟩ = some (.int .u64 X2) := fun n => Fq.gkeep (hG n) (r2a _)
  have c3 : ∀ n, (G n).cell? ⟨w.heap.size + 1, 1, none⟩ = some (.int .u64 Y2) := fun n => Fq.gkeep (hG n) (r3a _)
  have c4 : ∀ n, (G n).cell? ⟨w.heap.size + 2, 0, none⟩ = some (.int .u64 X3) := fun n => Fq.gkeep (hG n) (r4a _)
  have c5 : ∀ n, (G n).cell? ⟨w.heap.size + 2, 1, none⟩ = some (.int .u64 Y3) := fun n => Fq.gkeep (hG n) (r5a _)
  have c6 : ∀ n, (G n).cell? ⟨w2.heap.size, 0, none⟩ = some (.int .u64 A1) := fun n => Fq.gkeep (hG n) (r6a _)
  have c7 : ∀ n, (G n).cell? ⟨w2.heap.size, 1, none⟩ = some (.int .u64 B1) := fun n => Fq.gkeep (hG n) (r7a _)
  have c8 : ∀ n, (G n).cell? ⟨w3.heap.size, 0, none⟩ = some (.int .u64 A2) := fun n => Fq.gkeep (hG n) (r8a _)
  have c9 : ∀ n, (G n).cell? ⟨w3.heap.size, 1, none⟩ = some (.int .u64 B2) := fun n => Fq.gkeep (hG n) (r9a _)
  have d0 : ∀ n, (G n).cell? ⟨w4.heap.size, 0, none⟩ = some (.int .u64 A3) := fun n => Fq.gkeep (hG n) (by simp [go_sem])
  have d1 : ∀ n, (G n).cell? ⟨w4.heap.size, 1, none⟩ = some (.int .u64 B3) := fun n => Fq.gkeep (hG n) (by simp [go_sem])
  have kG : ∀ n, Kp w (G n) := fun n => Kp.trans (Kp.trans k4 ((Kp.refl w4).alloc _)) (hG n)
  repeat (go_big_quiet_step (first | (go_at_call 6; exact (Fq.rempty_ _).mono (fun e w' h => ⟨h.1, hall _ (by rw [h.2]; exact (hG _).alloc _ _)⟩))))
  refine wpQuiet_nil ?_
  rintro _ ⟨nq, rfl⟩
  have z0 := c0 nq
  have z1 := c1 nq
  have z2 := c2 nq
  have z3 := c3 nq
  have z4 := c4 nq
  have z5 := c5 nq
  have z6 := c6 nq
  have z7 := c7 nq
  have z8 := c8 nq
  have z9 := c9 nq
  have kWE := kG nq
  clear c0 c1 c2 c3 c4 c5 c6 c7 c8 c9 d0 d1 kG hall
  generalize G nq = WE at z0 z1 z2 z3 z4 z5 z6 z7 z8 z9 kWE ⊢
  clear hG
  go_wp2
  refine Fq.wp_region_grow (by kernel_rfl) (by kernel_rfl) (fun ι _ G hG hall => ?_)
  have c0 : ∀ n, (G n).cell? ⟨w.heap.size, 0, none⟩ = some (.int .u64 X1) := fun n => Fq.gkeep (hG n) (z0)
  have c1 : ∀ n, (G n).cell? ⟨w.heap.size, 1, none⟩ = some (.int .u64 Y1) := fun n => Fq.gkeep (hG n) (z1)
  have c2 : ∀ n, (G n).cell? ⟨w.heap.size + 1, 0, none⟩ = some (.int .u64 X2) := fun n => Fq.gkeep (hG n) (z2)
  have c3 : ∀ n, (G n).cell? ⟨w.heap.size + 1, 1, none⟩ = some (.int .u64 Y2) := fun n => Fq.gkeep (hG n) (z3)
  have c4 : ∀ n, (G n).cell? ⟨w.heap.size + 2, 0, none⟩ = some (.int .u64 X3) := fun n => Fq.gkeep (hG n) (z4)
  have c5 : ∀ n, (G n).cell? ⟨w.heap.size + 2, 1, none⟩ = some (.int .u64 Y3) := fun n => Fq.gkeep (hG n) (z5)
  have c6 : ∀ n, (G n).cell? ⟨w2.heap.size, 0, none⟩ = some (.int .u64 A1) := fun n => Fq.gkeep (hG n) (z6)
  have c7 : ∀ n, (G n).cell? ⟨w2.heap.size, 1, none⟩ = some (.int .u64 B1) := fun n => Fq.gkeep (hG n) (z7)
  have c8 : ∀ n, (G n).cell? ⟨w3.heap.size, 0, none⟩ = some (.int .u64 A2) := fun n => Fq.gkeep (hG n) (z8)
  have c9 : ∀ n, (G n).cell? ⟨w3.heap.size, 1, none⟩ = some (.int .u64 B2) := fun n => Fq.gkeep (hG n) (z9)
  have kG : ∀ n, Kp w (G n) := fun n => Kp.trans (kWE) (hG n)
  repeat (go_big_quiet_step (first | (go_at_call_of 7 (Value.agg #[.int .u64 X1, .int .u64 Y1]); exact (hI1 _).mono (fun e w' h => ⟨h.1, hall _ (Fq.gtrans (hG _) h.2)⟩)) | (go_at_call_of 7 (Value.agg #[.int .u64 X2, .int .u64 Y2]); exact (hI2 _).mono (fun e w' h => ⟨h.1, hall _ (Fq.gtrans (hG _) h.2)⟩)) | (go_at_call 4; exact (hD12 _ (kG _)).mono (fun e w' h => ⟨h.1, hall _ (Fq.gtrans (hG _) h.2)⟩))))
  refine wpQuiet_nil ?_
  rintro _ ⟨nq, rfl⟩
  have y0 := c0 nq
  have y1 := c1 nq
  have y2 := c2 nq
  have y3 := c3 nq
  have y4 := c4 nq
  have y5 := c5 nq
  have y6 := c6 nq
  have y7 := c7 nq
  have y8 := c8 nq
  have y9 := c9 nq
  have kWF := kG nq
  clear c0 c1 c2 c3 c4 c5 c6 c7 c8 c9  kG hall
  generalize G nq = WF at y0 y1 y2 y3 y4 y5 y6 y7 y8 y9 kWF ⊢
  clear hG
  go_wp2
  refine Fq.wp_region_grow (by kernel_rfl) (by kernel_rfl) (fun ι _ G hG hall => ?_)
  have c0 : ∀ n, (G n).cell? ⟨w.heap.size, 0, none⟩ = some (.int .u64 X1) := fun n => Fq.gkeep (hG n) (y0)
  have c1 : ∀ n, (G n).cell? ⟨w.heap.size, 1, none⟩ = some (.int .u64 Y1) := fun n => Fq.gkeep (hG n) (y1)
  have c2 : ∀ n, (G n).cell? ⟨w.heap.size + 1, 0, none⟩ = some (.int .u64 X2) := fun n => Fq.gkeep (hG n) (y2)
  have c3 : ∀ n, (G n).cell? ⟨w.heap.size + 1, 1, none⟩ = some (.int .u64 Y2) := fun n => Fq.gkeep (hG n) (y3)
  have c4 : ∀ n, (G n).cell? ⟨w.heap.size + 2, 0, none⟩ = some (.int .u64 X3) := fun n => Fq.gkeep (hG n) (y4)
  have c5 : ∀ n, (G n).cell? ⟨w.heap.size + 2, 1, none⟩ = some (.int .u64 Y3) := fun n => Fq.gkeep (hG n) (y5)
  have c6 : ∀ n, (G n).cell? ⟨w2.heap.size, 0, none⟩ = some (.int .u64 A1) := fun n => Fq.gkeep (hG n) (y6)
  have c7 : ∀ n, (G n).cell? ⟨w2.heap.size, 1, none⟩ = some (.int .u64 B1) := fun n => Fq.gkeep (hG n) (y7)
  have c8 : ∀ n, (G n).cell? ⟨w3.heap.size, 0, none⟩ = some (.int .u64 A2) := fun n => Fq.gkeep (hG n) (y8)
  have c9 : ∀ n, (G n).cell? ⟨w3.heap.size, 1, none⟩ = some (.int .u64 B2) := fun n => Fq.gkeep (hG n) (y9)
  have kG : ∀ n, Kp w (G n) := fun n => Kp.trans (kWF) (hG n)
  repeat (go_big_quiet_step (first | (go_at_call_of 7 (Value.agg #[.int .u64 X2, .int .u64 Y2]); exact (hI2 _).mono (fun e w' h => ⟨h.1, hall _ (Fq.gtrans (hG _) h.2)⟩)) | (go_at_call_of 7 (Value.agg #[.int .u64 X3, .int .u64 Y3]); exact (hI3 _).mono (fun e w' h => ⟨h.1, hall _ (Fq.gtrans (hG _) h.2)⟩)) | (go_at_call 4; exact (hD23 _ (kG _)).mono (fun e w' h => ⟨h.1, hall _ (Fq.gtrans (hG _) h.2)⟩))))
  refine wpQuiet_nil ?_
  rintro _ ⟨nq, rfl⟩
  have v0 := c0 nq
  have v1 := c1 nq
  have v2 := c2 nq
  have v3 := c3 nq
  have v4 := c4 nq
  have v5 := c5 nq
  have v6 := c6 nq
  have v7 := c7 nq
  have v8 := c8 nq
  have v9 := c9 nq
  have kWG := kG nq
  clear c0 c1 c2 c3 c4 c5 c6 c7 c8 c9  kG hall
  generalize G nq = WG at v0 v1 v2 v3 v4 v5 v6 v7 v8 v9 kWG ⊢
  clear hG
  go_wp2
  refine Fq.wp_region_grow (by kernel_rfl) (by kernel_rfl) (fun ι _ G hG hall => ?_)
  have c0 : ∀ n, (G n).cell? ⟨w.heap.size, 0, none⟩ = some (.int .u64 X1) := fun n => Fq.gkeep (hG n) (v0)
  have c1 : ∀ n, (G n).cell? ⟨w.heap.size, 1, none⟩ = some (.int .u64 Y1) := fun n => Fq.gkeep (hG n) (v1)
  have c2 : ∀ n, (G n).cell? ⟨w.heap.size + 1, 0, none⟩ = some (.int .u64 X2) := fun n => Fq.gkeep (hG n) (v2)
  have c3 : ∀ n, (G n).cell? ⟨w.heap.size + 1, 1, none⟩ = some (.int .u64 Y2) := fun n => Fq.gkeep (hG n) (v3)
  have c4 : ∀ n, (G n).cell? ⟨w.heap.size + 2, 0, none⟩ = some (.int .u64 X3) := fun n => Fq.gkeep (hG n) (v4)
  have c5 : ∀ n, (G n).cell? ⟨w.heap.size + 2, 1, none⟩ = some (.int .u64 Y3) := fun n => Fq.gkeep (hG n) (v5)
  have c6 : ∀ n, (G n).cell? ⟨w2.heap.size, 0, none⟩ = some (.int .u64 A1) := fun n => Fq.gkeep (hG n) (v6)
  have c7 : ∀ n, (G n).cell? ⟨w2.heap.size, 1, none⟩ = some (.int .u64 B1) := fun n => Fq.gkeep (hG n) (v7)
  have c8 : ∀ n, (G n).cell? ⟨w3.heap.size, 0, none⟩ = some (.int .u64 A2) := fun n => Fq.gkeep (hG n) (v8)
  have c9 : ∀ n, (G n).cell? ⟨w3.heap.size, 1, none⟩ = some (.int .u64 B2) := fun n => Fq.gkeep (hG n) (v9)
  have kG : ∀ n, Kp w (G n) := fun n => Kp.trans (kWG) (hG n)
  repeat (go_big_quiet_step (first | (go_at_call_of 7 (Value.agg #[.int .u64 X1, .int .u64 Y1]); exact (hI1 _).mono (fun e w' h => ⟨h.1, hall _ (Fq.gtrans (hG _) h.2)⟩)) | (go_at_call_of 7 (Value.agg #[.int .u64 X3, .int .u64 Y3]); exact (hI3 _).mono (fun e w' h => ⟨h.1, hall _ (Fq.gtrans (hG _) h.2)⟩)) | (go_at_call 4; exact (hD13 _ (kG _)).mono (fun e w' h => ⟨h.1, hall _ (Fq.gtrans (hG _) h.2)⟩))))
  refine wpQuiet_nil ?_
  rintro _ ⟨nq, rfl⟩
  have j0 := c0 nq
  have j1 := c1 nq
  have j2 := c2 nq
  have j3 := c3 nq
  have j4 := c4 nq
  have j5 := c5 nq
  have j6 := c6 nq
  have j7 := c7 nq
  have j8 := c8 nq
  have j9 := c9 nq
  have kWH := kG nq
  clear c0 c1 c2 c3 c4 c5 c6 c7 c8 c9  kG hall
  generalize G nq = WH at j0 j1 j2 j3 j4 j5 j6 j7 j8 j9 kWH ⊢
  clear hG
  go_wp2
  refine Fq.wp_region_grow (by kernel_rfl) (by kernel_rfl) (fun ι _ G hG hall => ?_)
  have c0 : ∀ n, (G n).cell? ⟨w.heap.size, 0, none⟩ = some (.int .u64 X1) := fun n => Fq.gkeep (hG n) (j0)
  have c1 : ∀ n, (G n).cell? ⟨w.heap.size, 1, none⟩ = some (.int .u64 Y1) := fun n => Fq.gkeep (hG n) (j1)
  have c2 : ∀ n, (G n).cell? ⟨w.heap.size + 1, 0, none⟩ = some (.int .u64 X2) := fun n => Fq.gkeep (hG n) (j2)
  have c3 : ∀ n, (G n).cell? ⟨w.heap.size + 1, 1, none⟩ = some (.int .u64 Y2) := fun n => Fq.gkeep (hG n) (j3)
  have c4 : ∀ n, (G n).cell? ⟨w.heap.size + 2, 0, none⟩ = some (.int .u64 X3) := fun n => Fq.gkeep (hG n) (j4)
  have c5 : ∀ n, (G n).cell? ⟨w.heap.size + 2, 1, none⟩ = some (.int .u64 Y3) := fun n => Fq.gkeep (hG n) (j5)
  have c6 : ∀ n, (G n).cell? ⟨w2.heap.size, 0, none⟩ = some (.int .u64 A1) := fun n => Fq.gkeep (hG n) (j6)
  have c7 : ∀ n, (G n).cell? ⟨w2.heap.size, 1, none⟩ = some (.int .u64 B1) := fun n => Fq.gkeep (hG n) (j7)
  have c8 : ∀ n, (G n).cell? ⟨w3.heap.size, 0, none⟩ = some (.int .u64 A2) := fun n => Fq.gkeep (hG n) (j8)
  have c9 : ∀ n, (G n).cell? ⟨w3.heap.size, 1, none⟩ = some (.int .u64 B2) := fun n => Fq.gkeep (hG n) (j9)
  have kG : ∀ n, Kp w (G n) := fun n => Kp.trans (kWH) (hG n)
  repeat (go_big_quiet_step (first | (go_at_call_of 7 (Value.agg #[.int .u64 X2, .int .u64 Y2]); exact (hI2 _).mono (fun e w' h => ⟨h.1, hall _ (Fq.gtrans (hG _) h.2)⟩)) | (go_at_call_of 7 (Value.agg #[.int .u64 X1, .int .u64 Y1]); exact (hI1 _).mono (fun e w' h => ⟨h.1, hall _ (Fq.gtrans (hG _) h.2)⟩)) | (go_at_call 4; exact (hD21 _ (kG _)).mono (fun e w' h => ⟨h.1, hall _ (Fq.gtrans (hG _) h.2)⟩))))
  refine wpQuiet_nil ?_
  rintro _ ⟨nq, rfl⟩
  have m0 := c0 nq
  have m1 := c1 nq
  have m2 := c2 nq
  have m3 := c3 nq
  have m4 := c4 nq
  have m5 := c5 nq
  have m6 := c6 nq
  have m7 := c7 nq
  have m8 := c8 nq
  have m9 := c9 nq
  have kWJ := kG nq
  clear c0 c1 c2 c3 c4 c5 c6 c7 c8 c9  kG hall
  generalize G nq = WJ at m0 m1 m2 m3 m4 m5 m6 m7 m8 m9 kWJ ⊢
  clear hG
  go_wp2_with (first | (go_at_call 8; refine (hAd _ kWJ).mono ?_; rintro e wz ⟨rfl, gz⟩; have kz : Kp w wz := Kp.trans kWJ gz))
  exact bodyPost_ret (v := .bool true) (by simp [results, Tryd.results3, go_sem] <;> simpa using f4) rfl ⟨rfl, kz⟩
set_option maxRecDepth 20000 in
set_option maxHeartbeats 4000000 in
theorem triG_ (X1 Y1 X2 Y2 X3 Y3 A1 B1 A2 B2 A3 B3 : Int) (w : World) (hD : ∀ W : World, Kp w W → Calls Tryd.prog 4 #[.agg #[.float .f64 4607182418800017408, .float .f64 4611686018427387904], .agg #[.float .f64 4609434218613702656, .float .f64 4616189618054758400]] W fun e w' => e = .returned (.float .f64 4611686018427387904) ∧ Kp W w') (_q0 : (FloatKind.f64.format.order 4611686018427387904 4611686018427387904 == some Ordering.eq) = true) (hR1 : ∀ w : World, Calls Tryd.prog 5 #[.agg #[.int .u64 X1, .int .u64 Y1]] w fun e w' => e = .returned (.agg #[.int .u64 A1, .int .u64 B1]) ∧ Kp w w') (hR2 : ∀ w : World, Calls Tryd.prog 5 #[.agg #[.int .u64 X2, .int .u64 Y2]] w fun e w' => e = .returned (.agg #[.int .u64 A2, .int .u64 B2]) ∧ Kp w w') (hR3 : ∀ w : World, Calls Tryd.prog 5 #[.agg #[.int .u64 X3, .int .u64 Y3]] w fun e w' => e = .returned (.agg #[.int .u64 A3, .int .u64 B3]) ∧ Kp w w') (a1 b1 a2 b2 a3 b3 XY YZ XZ S9 : Nat) (hI1 : ∀ w : World, Calls Tryd.prog 7 #[.agg #[.int .u64 X1, .int .u64 Y1]] w fun e w' => e = .returned (.agg #[.float .f64 a1, .float .f64 b1]) ∧ Kp w w') (hI2 : ∀ w : World, Calls Tryd.prog 7 #[.agg #[.int .u64 X2, .int .u64 Y2]] w fun e w' => e = .returned (.agg #[.float .f64 a2, .float .f64 b2]) ∧ Kp w w') (hI3 : ∀ w : World, Calls Tryd.prog 7 #[.agg #[.int .u64 X3, .int .u64 Y3]] w fun e w' => e = .returned (.agg #[.float .f64 a3, .float .f64 b3]) ∧ Kp w w') (hD12 : ∀ W : World, Kp w W → Calls Tryd.prog 4 #[.agg #[.float .f64 a1, .float .f64 b1], .agg #[.float .f64 a2, .float .f64 b2]] W fun e w' => e = .returned (.float .f64 XY) ∧ Kp W w') (hD23 : ∀ W : World, Kp w W → Calls Tryd.prog 4 #[.agg #[.float .f64 a2, .float .f64 b2], .agg #[.float .f64 a3, .float .f64 b3]] W fun e w' => e = .returned (.float .f64 YZ) ∧ Kp W w') (hD13 : ∀ W : World, Kp w W → Calls Tryd.prog 4 #[.agg #[.float .f64 a1, .float .f64 b1], .agg #[.float .f64 a3, .float .f64 b3]] W fun e w' => e = .returned (.float .f64 XZ) ∧ Kp W w') (hD21 : ∀ W : World, Kp w W → Calls Tryd.prog 4 #[.agg #[.float .f64 a2, .float .f64 b2], .agg #[.float .f64 a1, .float .f64 b1]] W fun e w' => e = .returned (.float .f64 XY) ∧ Kp W w') (hAd : ∀ W : World, Kp w W → Calls Tryd.prog 8 #[.int .i64 1, .float .f64 XY, .float .f64 YZ] W fun e w' => e = .returned (.float .f64 S9) ∧ Kp W w') (t1 : (A1 == 9218868437227405312) = false) (t2 : (A2 == 9218868437227405312) = false) (t3 : (A3 == 9218868437227405312) = false) (f1 : (FloatKind.f64.format.order XY 0 == some Ordering.lt) = false) (f2 : (FloatKind.f64.format.order XY 0 == some Ordering.eq) = false) (f3 : (FloatKind.f64.format.order XY XY == some Ordering.eq) = true) (f4 : (FloatKind.f64.format.order XZ S9 == some Ordering.lt || FloatKind.f64.format.order XZ S9 == some Ordering.eq) = true) (tA : (A1 == A2) = true) (tB : (B1 == B2) = false) : Calls Tryd.prog 3 #[.agg #[.int .u64 X1, .int .u64 Y1], .agg #[.int .u64 X2, .int .u64 Y2], .agg #[.int .u64 X3, .int .u64 Y3]] w fun e w' => e = .returned (.bool true) ∧ Kp w w' := by
  have f1' : ¬ (FloatKind.f64.format.order XY 0 = some Ordering.lt) := by simpa using f1
  have f2' : ¬ (FloatKind.f64.format.order XY 0 = some Ordering.eq) := by simpa using f2
  have f3' : FloatKind.f64.format.order XY XY = some Ordering.eq := by simpa using f3
  go_enter Tryd.func3, Tryd.ntmps3
  go_wp2_with (first | (go_at_call 4; refine (hD _ ((((Kp.refl w).alloc _).alloc _).alloc _)).mono ?_; rintro e w1 ⟨rfl, g1⟩; have k1 : Kp w w1 := Kp.trans ((((Kp.refl w).alloc _).alloc _).alloc _) g1; have x0 := kkeep g1 (b := w.heap.size) (o := 0) (v := .int .u64 X1) (by simp [go_sem]); have x1 := kkeep g1 (b := w.heap.size) (o := 1) (v := .int .u64 Y1) (by simp [go_sem]); have x2 := kkeep g1 (b := w.heap.size + 1) (o := 0) (v := .int .u64 X2) (by simp [go_sem]); have x3 := kkeep g1 (b := w.heap.size + 1) (o := 1) (v := .int .u64 Y2) (by simp [go_sem]); have x4 := kkeep g1 (b := w.heap.size + 2) (o := 0) (v := .int .u64 X3) (by simp [go_sem]); have x5 := kkeep g1 (b := w.heap.size + 2) (o := 1) (v := .int .u64 Y3) (by simp [go_sem])) | (go_at_call_of 5 (Value.agg #[.int .u64 X1, .int .u64 Y1]); refine (hR1 _).mono ?_; rintro e w2 ⟨rfl, g2⟩; have k2 : Kp w w2 := Kp.trans k1 g2; have p0 := kkeep g2 x0; have p1 := kkeep g2 x1; have p2 := kkeep g2 x2; have p3 := kkeep g2 x3; have p4 := kkeep g2 x4; have p5 := kkeep g2 x5; have p0a := fun o => kkeep ((Kp.refl w2).alloc o) p0; have p1a := fun o => kkeep ((Kp.refl w2).alloc o) p1; have p2a := fun o => kkeep ((Kp.refl w2).alloc o) p2; have p3a := fun o => kkeep ((Kp.refl w2).alloc o) p3; have p4a := fun o => kkeep ((Kp.refl w2).alloc o) p4; have p5a := fun o => kkeep ((Kp.refl w2).alloc o) p5) | (go_at_call_of 5 (Value.agg #[.int .u64 X2, .int .u64 Y2]); refine (hR2 _).mono ?_; rintro e w3 ⟨rfl, g3⟩; have k3 : Kp w w3 := Kp.trans (Kp.trans k2 ((Kp.refl w2).alloc _)) g3; have q0 := kkeep g3 (p0a _); have q1 := kkeep g3 (p1a _); have q2 := kkeep g3 (p2a _); have q3 := kkeep g3 (p3a _); have q4 := kkeep g3 (p4a _); have q5 := kkeep g3 (p5a _); have q6 := kkeep g3 (b := w2.heap.size) (o := 0) (v := .int .u64 A1) (by simp [go_sem]); have q7 := kkeep g3 (b := w2.heap.size) (o := 1) (v := .int .u64 B1) (by simp [go_sem]); have q0a := fun o => kkeep ((Kp.refl w3).alloc o) q0; have q1a := fun o => kkeep ((Kp.refl w3).alloc o) q1; have q2a := fun o => kkeep ((Kp.refl w3).alloc o) q2; have q3a := fun o => kkeep ((Kp.refl w3).alloc o) q3; have q4a := fun o => kkeep ((Kp.refl w3).alloc o) q4; have q5a := fun o => kkeep ((Kp.refl w3).alloc o) q5; have q6a := fun o => kkeep ((Kp.refl w3).alloc o) q6; have q7a := fun o => kkeep ((Kp.refl w3).alloc o) q7) | (go_at_call_of 5 (Value.agg #[.int .u64 X3, .int .u64 Y3]); refine (hR3 _).mono ?_; rintro e w4 ⟨rfl, g4⟩; have k4 : Kp w w4 := Kp.trans (Kp.trans k3 ((Kp.refl w3).alloc _)) g4; have r0 := kkeep g4 (q0a _); have r1 := kkeep g4 (q1a _); have r2 := kkeep g4 (q2a _); have r3 := kkeep g4 (q3a _); have r4 := kkeep g4 (q4a _); have r5 := kkeep g4 (q5a _); have r6 := kkeep g4 (q6a _); have r7 := kkeep g4 (q7a _); have r8 := kkeep g4 (b := w3.heap.size) (o := 0) (v := .int .u64 A2) (by simp [go_sem]); have r9 := kkeep g4 (b := w3.heap.size) (o := 1) (v := .int .u64 B2) (by simp [go_sem]); have r0a := fun o => kkeep ((Kp.refl w4).alloc o) r0; have r1a := fun o => kkeep ((Kp.refl w4).alloc o) r1; have r2a := fun o => kkeep ((Kp.refl w4).alloc o) r2; have r3a := fun o => kkeep ((Kp.refl w4).alloc o) r3; have r4a := fun o => kkeep ((Kp.refl w4).alloc o) r4; have r5a := fun o => kkeep ((Kp.refl w4).alloc o) r5; have r6a := fun o => kkeep ((Kp.refl w4).alloc o) r6; have r7a := fun o => kkeep ((Kp.refl w4).alloc o) r7; have r8a := fun o => kkeep ((Kp.refl w4).alloc o) r8; have r9a := fun o => kkeep ((Kp.refl w4).alloc o) r9))
  refine Fq.wp_region_grow (by kernel_rfl) (by kernel_rfl) (fun ι _ G hG hall => ?_)
  have c0 : ∀ n, (G n).cell? ⟨w.heap.size, 0, none⟩ = some (.int .u64 X1) := fun n => Fq.gkeep (hG n) (r0a _)
  have c1 : ∀ n, (G n).cell? ⟨w.heap.size, 1, none⟩ = some (.int .u64 Y1) := fun n => Fq.gkeep (hG n) (r1a _)
  have c2 : ∀ n, (G n).cell? ⟨w.heap.size + 1, 0, none⟩ = some (.int .u64 X2) := fun n => Fq.gkeep (hG n) (r2a _)
  have c3 : ∀ n, (G n).cell? ⟨w.heap.size + 1, 1, none⟩ = some (.int .u64 Y2) := fun n => Fq.gkeep (hG n) (r3a _)
  have c4 : ∀ n, (G n).cell? ⟨w.heap.size + 2, 0, none⟩ = some (.int .u64 X3) := fun n => Fq.gkeep (hG n) (r4a _)
  have c5 : ∀ n, (G n).cell? ⟨w.heap.size + 2, 1, none⟩ = some (.int .u64 Y3) := fun n => Fq.gkeep (hG n) (r5a _)
  have c6 : ∀ n, (G n).cell? ⟨w2.heap.size, 0, none⟩ = some (.int .u64 A1) := fun n => Fq.gkeep (hG n) (r6a _)
  have c7 : ∀ n, (G n).cell? ⟨w2.heap.size, 1, none⟩ = some (.int .u64 B1) := fun n => Fq.gkeep (hG n) (r7a _)
  have c8 : ∀ n, (G n).cell? ⟨w3.heap.size, 0, none⟩ = some (.int .u64 A2) := fun n => Fq.gkeep (hG n) (r8a _)
  have c9 : ∀ n, (G n).cell? ⟨w3.heap.size, 1, none⟩ = some (.int .u64 B2) := fun n => Fq.gkeep (hG n) (r9a _)
  have d0 : ∀ n, (G n).cell? ⟨w4.heap.size, 0, none⟩ = some (.int .u64 A3) := fun n => Fq.gkeep (hG n) (by simp [go_sem])
  have d1 : ∀ n, (G n).cell? ⟨w4.heap.size, 1, none⟩ = some (.int .u64 B3) := fun n => Fq.gkeep (hG n) (by simp [go_sem])
  have kG : ∀ n, Kp w (G n) := fun n => Kp.trans (Kp.trans k4 ((Kp.refl w4).alloc _)) (hG n)
  repeat (go_big_quiet_step (first | (go_at_call 6; exact (Fq.rempty_ _).mono (fun e w' h => ⟨h.1, hall _ (by rw [h.2]; exact (hG _).alloc _ _)⟩))))
  refine wpQuiet_nil ?_
  rintro _ ⟨nq, rfl⟩
  have z0 := c0 nq
  have z1 := c1 nq
  have z2 := c2 nq
  have z3 := c3 nq
  have z4 := c4 nq
  have z5 := c5 nq
  have z6 := c6 nq
  have z7 := c7 nq
  have z8 := c8 nq
  have z9 := c9 nq
  have kWE := kG nq
  clear c0 c1 c2 c3 c4 c5 c6 c7 c8 c9 d0 d1 kG hall
  generalize G nq = WE at z0 z1 z2 z3 z4 z5 z6 z7 z8 z9 kWE ⊢
  clear hG
  go_wp2
  refine Fq.wp_region_grow (by kernel_rfl) (by kernel_rfl) (fun ι _ G hG hall => ?_)
  have c0 : ∀ n, (G n).cell? ⟨w.heap.size, 0, none⟩ = some (.int .u64 X1) := fun n => Fq.gkeep (hG n) (z0)
  have c1 : ∀ n, (G n).cell? ⟨w.heap.size, 1, none⟩ = some (.int .u64 Y1) := fun n => Fq.gkeep (hG n) (z1)
  have c2 : ∀ n, (G n).cell? ⟨w.heap.size + 1, 0, none⟩ = some (.int .u64 X2) := fun n => Fq.gkeep (hG n) (z2)
  have c3 : ∀ n, (G n).cell? ⟨w.heap.size + 1, 1, none⟩ = some (.int .u64 Y2) := fun n => Fq.gkeep (hG n) (z3)
  have c4 : ∀ n, (G n).cell? ⟨w.heap.size + 2, 0, none⟩ = some (.int .u64 X3) := fun n => Fq.gkeep (hG n) (z4)
  have c5 : ∀ n, (G n).cell? ⟨w.heap.size + 2, 1, none⟩ = some (.int .u64 Y3) := fun n => Fq.gkeep (hG n) (z5)
  have c6 : ∀ n, (G n).cell? ⟨w2.heap.size, 0, none⟩ = some (.int .u64 A1) := fun n => Fq.gkeep (hG n) (z6)
  have c7 : ∀ n, (G n).cell? ⟨w2.heap.size, 1, none⟩ = some (.int .u64 B1) := fun n => Fq.gkeep (hG n) (z7)
  have c8 : ∀ n, (G n).cell? ⟨w3.heap.size, 0, none⟩ = some (.int .u64 A2) := fun n => Fq.gkeep (hG n) (z8)
  have c9 : ∀ n, (G n).cell? ⟨w3.heap.size, 1, none⟩ = some (.int .u64 B2) := fun n => Fq.gkeep (hG n) (z9)
  have kG : ∀ n, Kp w (G n) := fun n => Kp.trans (kWE) (hG n)
  repeat (go_big_quiet_step (first | (go_at_call_of 7 (Value.agg #[.int .u64 X1, .int .u64 Y1]); exact (hI1 _).mono (fun e w' h => ⟨h.1, hall _ (Fq.gtrans (hG _) h.2)⟩)) | (go_at_call_of 7 (Value.agg #[.int .u64 X2, .int .u64 Y2]); exact (hI2 _).mono (fun e w' h => ⟨h.1, hall _ (Fq.gtrans (hG _) h.2)⟩)) | (go_at_call 4; exact (hD12 _ (kG _)).mono (fun e w' h => ⟨h.1, hall _ (Fq.gtrans (hG _) h.2)⟩))))
  refine wpQuiet_nil ?_
  rintro _ ⟨nq, rfl⟩
  have y0 := c0 nq
  have y1 := c1 nq
  have y2 := c2 nq
  have y3 := c3 nq
  have y4 := c4 nq
  have y5 := c5 nq
  have y6 := c6 nq
  have y7 := c7 nq
  have y8 := c8 nq
  have y9 := c9 nq
  have kWF := kG nq
  clear c0 c1 c2 c3 c4 c5 c6 c7 c8 c9  kG hall
  generalize G nq = WF at y0 y1 y2 y3 y4 y5 y6 y7 y8 y9 kWF ⊢
  clear hG
  go_wp2
  refine Fq.wp_region_grow (by kernel_rfl) (by kernel_rfl) (fun ι _ G hG hall => ?_)
  have c0 : ∀ n, (G n).cell? ⟨w.heap.size, 0, none⟩ = some (.int .u64 X1) := fun n => Fq.gkeep (hG n) (y0)
  have c1 : ∀ n, (G n).cell? ⟨w.heap.size, 1, none⟩ = some (.int .u64 Y1) := fun n => Fq.gkeep (hG n) (y1)
  have c2 : ∀ n, (G n).cell? ⟨w.heap.size + 1, 0, none⟩ = some (.int .u64 X2) := fun n => Fq.gkeep (hG n) (y2)
  have c3 : ∀ n, (G n).cell? ⟨w.heap.size + 1, 1, none⟩ = some (.int .u64 Y2) := fun n => Fq.gkeep (hG n) (y3)
  have c4 : ∀ n, (G n).cell? ⟨w.heap.size + 2, 0, none⟩ = some (.int .u64 X3) := fun n => Fq.gkeep (hG n) (y4)
  have c5 : ∀ n, (G n).cell? ⟨w.heap.size + 2, 1, none⟩ = some (.int .u64 Y3) := fun n => Fq.gkeep (hG n) (y5)
  have c6 : ∀ n, (G n).cell? ⟨w2.heap.size, 0, none⟩ = some (.int .u64 A1) := fun n => Fq.gkeep (hG n) (y6)
  have c7 : ∀ n, (G n).cell? ⟨w2.heap.size, 1, none⟩ = some (.int .u64 B1) := fun n => Fq.gkeep (hG n) (y7)
  have c8 : ∀ n, (G n).cell? ⟨w3.heap.size, 0, none⟩ = some (.int .u64 A2) := fun n => Fq.gkeep (hG n) (y8)
  have c9 : ∀ n, (G n).cell? ⟨w3.heap.size, 1, none⟩ = some (.int .u64 B2) := fun n => Fq.gkeep (hG n) (y9)
  have kG : ∀ n, Kp w (G n) := fun n => Kp.trans (kWF) (hG n)
  repeat (go_big_quiet_step (first | (go_at_call_of 7 (Value.agg #[.int .u64 X2, .int .u64 Y2]); exact (hI2 _).mono (fun e w' h => ⟨h.1, hall _ (Fq.gtrans (hG _) h.2)⟩)) | (go_at_call_of 7 (Value.agg #[.int .u64 X3, .int .u64 Y3]); exact (hI3 _).mono (fun e w' h => ⟨h.1, hall _ (Fq.gtrans (hG _) h.2)⟩)) | (go_at_call 4; exact (hD23 _ (kG _)).mono (fun e w' h => ⟨h.1, hall _ (Fq.gtrans (hG _) h.2)⟩))))
  refine wpQuiet_nil ?_
  rintro _ ⟨nq, rfl⟩
  have v0 := c0 nq
  have v1 := c1 nq
  have v2 := c2 nq
  have v3 := c3 nq
  have v4 := c4 nq
  have v5 := c5 nq
  have v6 := c6 nq
  have v7 := c7 nq
  have v8 := c8 nq
  have v9 := c9 nq
  have kWG := kG nq
  clear c0 c1 c2 c3 c4 c5 c6 c7 c8 c9  kG hall
  generalize G nq = WG at v0 v1 v2 v3 v4 v5 v6 v7 v8 v9 kWG ⊢
  clear hG
  go_wp2
  refine Fq.wp_region_grow (by kernel_rfl) (by kernel_rfl) (fun ι _ G hG hall => ?_)
  have c0 : ∀ n, (G n).cell? ⟨w.heap.size, 0, none⟩ = some (.int .u64 X1) := fun n => Fq.gkeep (hG n) (v0)
  have c1 : ∀ n, (G n).cell? ⟨w.heap.size, 1, none⟩ = some (.int .u64 Y1) := fun n => Fq.gkeep (hG n) (v1)
  have c2 : ∀ n, (G n).cell? ⟨w.heap.size + 1, 0, none⟩ = some (.int .u64 X2) := fun n => Fq.gkeep (hG n) (v2)
  have c3 : ∀ n, (G n).cell? ⟨w.heap.size + 1, 1, none⟩ = some (.int .u64 Y2) := fun n => Fq.gkeep (hG n) (v3)
  have c4 : ∀ n, (G n).cell? ⟨w.heap.size + 2, 0, none⟩ = some (.int .u64 X3) := fun n => Fq.gkeep (hG n) (v4)
  have c5 : ∀ n, (G n).cell? ⟨w.heap.size + 2, 1, none⟩ = some (.int .u64 Y3) := fun n => Fq.gkeep (hG n) (v5)
  have c6 : ∀ n, (G n).cell? ⟨w2.heap.size, 0, none⟩ = some (.int .u64 A1) := fun n => Fq.gkeep (hG n) (v6)
  have c7 : ∀ n, (G n).cell? ⟨w2.heap.size, 1, none⟩ = some (.int .u64 B1) := fun n => Fq.gkeep (hG n) (v7)
  have c8 : ∀ n, (G n).cell? ⟨w3.heap.size, 0, none⟩ = some (.int .u64 A2) := fun n => Fq.gkeep (hG n) (v8)
  have c9 : ∀ n, (G n).cell? ⟨w3.heap.size, 1, none⟩ = some (.int .u64 B2) := fun n => Fq.gkeep (hG n) (v9)
  have kG : ∀ n, Kp w (G n) := fun n => Kp.trans (kWG) (hG n)
  repeat (go_big_quiet_step (first | (go_at_call_of 7 (Value.agg #[.int .u64 X1, .int .u64 Y1]); exact (hI1 _).mono (fun e w' h => ⟨h.1, hall _ (Fq.gtrans (hG _) h.2)⟩)) | (go_at_call_of 7 (Value.agg #[.int .u64 X3, .int .u64 Y3]); exact (hI3 _).mono (fun e w' h => ⟨h.1, hall _ (Fq.gtrans (hG _) h.2)⟩)) | (go_at_call 4; exact (hD13 _ (kG _)).mono (fun e w' h => ⟨h.1, hall _ (Fq.gtrans (hG _) h.2)⟩))))
  refine wpQuiet_nil ?_
  rintro _ ⟨nq, rfl⟩
  have j0 := c0 nq
  have j1 := c1 nq
  have j2 := c2 nq
  have j3 := c3 nq
  have j4 := c4 nq
  have j5 := c5 nq
  have j6 := c6 nq
  have j7 := c7 nq
  have j8 := c8 nq
  have j9 := c9 nq
  have kWH := kG nq
  clear c0 c1 c2 c3 c4 c5 c6 c7 c8 c9  kG hall
  generalize G nq = WH at j0 j1 j2 j3 j4 j5 j6 j7 j8 j9 kWH ⊢
  clear hG
  go_wp2
  refine Fq.wp_region_grow (by kernel_rfl) (by kernel_rfl) (fun ι _ G hG hall => ?_)
  have c0 : ∀ n, (G n).cell? ⟨w.heap.size, 0, none⟩ = some (.int .u64 X1) := fun n => Fq.gkeep (hG n) (j0)
  have c1 : ∀ n, (G n).cell? ⟨w.heap.size, 1, none⟩ = some (.int .u64 Y1) := fun n => Fq.gkeep (hG n) (j1)
  have c2 : ∀ n, (G n).cell? ⟨w.heap.size + 1, 0, none⟩ = some (.int .u64 X2) := fun n => Fq.gkeep (hG n) (j2)
  have c3 : ∀ n, (G n).cell? ⟨w.heap.size + 1, 1, none⟩ = some (.int .u64 Y2) := fun n => Fq.gkeep (hG n) (j3)
  have c4 : ∀ n, (G n).cell? ⟨w.heap.size + 2, 0, none⟩ = some (.int .u64 X3) := fun n => Fq.gkeep (hG n) (j4)
  have c5 : ∀ n, (G n).cell? ⟨w.heap.size + 2, 1, none⟩ = some (.int .u64 Y3) := fun n => Fq.gkeep (hG n) (j5)
  have c6 : ∀ n, (G n).cell? ⟨w2.heap.size, 0, none⟩ = some (.int .u64 A1) := fun n => Fq.gkeep (hG n) (j6)
  have c7 : ∀ n, (G n).cell? ⟨w2.heap.size, 1, none⟩ = some (.int .u64 B1) := fun n => Fq.gkeep (hG n) (j7)
  have c8 : ∀ n, (G n).cell? ⟨w3.heap.size, 0, none⟩ = some (.int .u64 A2) := fun n => Fq.gkeep (hG n) (j8)
  have c9 : ∀ n, (G n).cell? ⟨w3.heap.size, 1, none⟩ = some (.int .u64 B2) := fun n => Fq.gkeep (hG n) (j9)
  have kG : ∀ n, Kp w (G n) := fun n => Kp.trans (kWH) (hG n)
  repeat (go_big_quiet_step (first | (go_at_call_of 7 (Value.agg #[.int .u64 X2, .int .u64 Y2]); exact (hI2 _).mono (fun e w' h => ⟨h.1, hall _ (Fq.gtrans (hG _) h.2)⟩)) | (go_at_call_of 7 (Value.agg #[.int .u64 X1, .int .u64 Y1]); exact (hI1 _).mono (fun e w' h => ⟨h.1, hall _ (Fq.gtrans (hG _) h.2)⟩)) | (go_at_call 4; exact (hD21 _ (kG _)).mono (fun e w' h => ⟨h.1, hall _ (Fq.gtrans (hG _) h.2)⟩))))
  refine wpQuiet_nil ?_
  rintro _ ⟨nq, rfl⟩
  have m0 := c0 nq
  have m1 := c1 nq
  have m2 := c2 nq
  have m3 := c3 nq
  have m4 := c4 nq
  have m5 := c5 nq
  have m6 := c6 nq
  have m7 := c7 nq
  have m8 := c8 nq
  have m9 := c9 nq
  have kWJ := kG nq
  clear c0 c1 c2 c3 c4 c5 c6 c7 c8 c9  kG hall
  generalize G nq = WJ at m0 m1 m2 m3 m4 m5 m6 m7 m8 m9 kWJ ⊢
  clear hG
  go_wp2_with (first | (go_at_call 8; refine (hAd _ kWJ).mono ?_; rintro e wz ⟨rfl, gz⟩; have kz : Kp w wz := Kp.trans kWJ gz))
  exact bodyPost_ret (v := .bool true) (by simp [results, Tryd.results3, go_sem] <;> simpa using f4) rfl ⟨rfl, kz⟩

theorem wD_plz (n n' : Bool) (m m' : Nat) (hm : m < 9223372036854775808) (hm' : m' < 9223372036854775808) (n1 : Fq.wD n m ≠ 9223372036854775808) (n2 : Fq.wD n' m' ≠ 9223372036854775808) : Fq.wD n m = Fq.wD n' m' ↔ Fq.plz n m = Fq.plz n' m' := by
  have z1 : n = true → m ≠ 0 := fun h z => n1 (by rw [h, z]; rfl)
  have z2 : n' = true → m' ≠ 0 := fun h z => n2 (by rw [h, z]; rfl)
  unfold Fq.wD Fq.plz
  cases n <;> cases n' <;> simp at z1 z2 ⊢ <;> omega
theorem fself9 (x : Nat) (h : x ≤ 9218868437227405312) : (FloatKind.f64.format.order x x == some Ordering.eq) = true := by
  have g := Fq.feq false false x x (by omega) (by omega)
  rw [show Fq.wD false x = x from rfl, decide_eq_true ⟨h, h, rfl⟩] at g
  exact g
theorem dist0_ (w : World) (hT : Tab w) (hQ : Fq.Tab w) : Calls Tryd.prog 4 #[.agg #[.float .f64 4607182418800017408, .float .f64 4611686018427387904], .agg #[.float .f64 4609434218613702656, .float .f64 4616189618054758400]] w fun e w' => e = .returned (.float .f64 4611686018427387904) ∧ Kp w w' := by
  have h := distX_ 4607182418800017408 4611686018427387904 4609434218613702656 4616189618054758400 (by decide) (by decide) (by decide) (by decide) (by decide +kernel) false false 4607182418800017408 4611686018427387904 (by decide) (by decide) (by decide +kernel) (by decide +kernel) (by decide +kernel) false false 4609434218613702656 4616189618054758400 (by decide) (by decide) (by decide +kernel) (by decide +kernel) w hT hQ
  rw [show mxN (apW false 4607182418800017408 false 4609434218613702656) (apW false 4611686018427387904 false 4616189618054758400) = 4611686018427387904 from by decide +kernel] at h
  exact h
theorem mxN_le (p q : Nat) (h1 : p ≤ 9218868437227405312) (h2 : q ≤ 9218868437227405312) : mxN p q ≤ 9218868437227405312 := by unfold mxN; split <;> omega
theorem triangles_ (a : Nat) (b : Nat) (c : Nat) (d : Nat) (e9 : Nat) (f9 : Nat) (ha : a < 18446744073709551616) (hb : b < 18446744073709551616) (hc : c < 18446744073709551616) (hd : d < 18446744073709551616) (he9 : e9 < 18446744073709551616) (hf9 : f9 < 18446744073709551616) (w : World) (hT : Tab w) (hQ : Fq.Tab w) : Calls Tryd.prog 3 #[.agg #[.int .u64 ((a : Nat) : Int), .int .u64 ((b : Nat) : Int)], .agg #[.int .u64 ((c : Nat) : Int), .int .u64 ((d : Nat) : Int)], .agg #[.int .u64 ((e9 : Nat) : Int), .int .u64 ((f9 : Nat) : Int)]] w fun e w' => e = .returned (.bool true) ∧ Kp w w' := by
  have hD : ∀ W : World, Kp w W → Calls Tryd.prog 4 #[.agg #[.float .f64 4607182418800017408, .float .f64 4611686018427387904], .agg #[.float .f64 4609434218613702656, .float .f64 4616189618054758400]] W fun e w' => e = .returned (.float .f64 4611686018427387904) ∧ Kp W w' := fun W y => dist0_ W (Tab.grown hT y) (Fq.Tab.grown hQ y)
  have q0 := fself9 4611686018427387904 (by decide)
  have hR1 := rread8 a b ha hb
  have hR2 := rread8 c d hc hd
  have hR3 := rread8 e9 f9 he9 hf9
  obtain ⟨n1, m1, l1, e1⟩ := rlo_w a b ha hb
  obtain ⟨g1, r1, j1, d1⟩ := rhi_w a b ha hb
  obtain ⟨n2, m2, l2, e2⟩ := rlo_w c d hc hd
  obtain ⟨g2, r2, j2, d2⟩ := rhi_w c d hc hd
  obtain ⟨n3, m3, l3, e3⟩ := rlo_w e9 f9 he9 hf9
  obtain ⟨g3, r3, j3, d3⟩ := rhi_w e9 f9 he9 hf9
  by_cases s1 : Fq.snd a b = true
  case neg =>
    have q := rempty8 a b (by simpa using s1)
    rw [q.1, q.2] at hR1
    exact triE1_ _ _ _ _ _ _ _ _ _ _ _ _ w hD q0 hR1 hR2 hR3 rfl rfl
  have t1 := lo_inf8 a b s1 n1 m1 l1 e1
  by_cases s2 : Fq.snd c d = true
  case neg =>
    have q := rempty8 c d (by simpa using s2)
    rw [q.1, q.2] at hR2
    rw [e1, d1] at hR1
    exact triE2_ _ _ _ _ _ _ _ _ _ _ _ _ w hD q0 hR1 hR2 hR3 t1 rfl rfl
  have t2 := lo_inf8 c d s2 n2 m2 l2 e2
  by_cases s3 : Fq.snd e9 f9 = true
  case neg =>
    have q := rempty8 e9 f9 (by simpa using s3)
    rw [q.1, q.2] at hR3
    rw [e1, d1] at hR1
    rw [e2, d2] at hR2
    exact triE3_ _ _ _ _ _ _ _ _ _ _ _ _ w hD q0 hR1 hR2 hR3 t1 t2 rfl rfl
  have t3 := lo_inf8 e9 f9 s3 n3 m3 l3 e3
  have z1 : Fq.wD n1 m1 ≠ 9223372036854775808 := e1 ▸ rlo_ne a b
  have x1 : Fq.wD g1 r1 ≠ 9223372036854775808 := d1 ▸ rhi_ne a b
  have z2 : Fq.wD n2 m2 ≠ 9223372036854775808 := e2 ▸ rlo_ne c d
  have x2 : Fq.wD g2 r2 ≠ 9223372036854775808 := d2 ▸ rhi_ne c d
  have z3 : Fq.wD n3 m3 ≠ 9223372036854775808 := e3 ▸ rlo_ne e9 f9
  have x3 : Fq.wD g3 r3 ≠ 9223372036854775808 := d3 ▸ rhi_ne e9 f9
  rw [e1, d1] at hR1
  rw [e2, d2] at hR2
  rw [e3, d3] at hR3
  have hA := wD_plz n1 n2 m1 m2 (by omega) (by omega) z1 z2
  have hB := wD_plz g1 g2 r1 r2 (by omega) (by omega) x1 x2
  have aA := apW_zero n1 n2 m1 m2
  have aB := apW_zero g1 g2 r1 r2
  have u12 := apW_le n1 n2 m1 m2
  have v12 := apW_le g1 g2 r1 r2
  have u23 := apW_le n2 n3 m2 m3
  have v23 := apW_le g2 g3 r2 r3
  have u13 := apW_le n1 n3 m1 m3
  have v13 := apW_le g1 g3 r1 r3
  have tri := tri_ds _ _ _ _ _ _ _ _ (apW_tri n1 n2 n3 m1 m2 m3 l1 l2 l3) (apW_tri g1 g2 g3 r1 r2 r3 j1 j2 j3) u12 v12 u23 v23 rfl rfl
  have lS : adU (mxN (apW n1 m1 n2 m2) (apW g1 r1 g2 r2)) (mxN (apW n2 m2 n3 m3) (apW g2 r2 g3 r3)) ≤ 9218868437227405312 := by
    unfold adU
    split
    · omega
    · have nn : ∀ x : Nat, 0 ≤ Iv false x := fun x => by unfold Iv; rw [if_neg (by decide)]; omega
      have p1 := nn (mxN (apW n1 m1 n2 m2) (apW g1 r1 g2 r2))
      have p2 := nn (mxN (apW n2 m2 n3 m3) (apW g2 r2 g3 r3))
      exact sumW_le8 _ _ (by omega)
  have l12 := mxN_le _ _ u12 v12
  have l23 := mxN_le _ _ u23 v23
  have l13 := mxN_le _ _ u13 v13
  have sym : mxN (apW n2 m2 n1 m1) (apW g2 r2 g1 r1) = mxN (apW n1 m1 n2 m2) (apW g1 r1 g2 r2) := by rw [apW_sym n2 n1 m2 m1, apW_sym g2 g1 r2 r1]
  have hD21 := fun (W : World) (y : Kp w W) => distX_ c d a b hc hd ha hb s2 n2 g2 m2 r2 l2 j2 e2 d2 s1 n1 g1 m1 r1 l1 j1 e1 d1 W (Tab.grown hT y) (Fq.Tab.grown hQ y)
  rw [sym] at hD21
  have f1 : (FloatKind.f64.format.order (mxN (apW n1 m1 n2 m2) (apW g1 r1 g2 r2)) 0 == some Ordering.lt) = false := by
    have g := Fq.flt false false (mxN (apW n1 m1 n2 m2) (apW g1 r1 g2 r2)) 0 (by omega) (by decide)
    rw [show Fq.wD false (mxN (apW n1 m1 n2 m2) (apW g1 r1 g2 r2)) = mxN (apW n1 m1 n2 m2) (apW g1 r1 g2 r2) from rfl, show Fq.wD false 0 = 0 from rfl, decide_eq_false (by unfold Fq.plz; simp)] at g
    exact g
  have f3 := fself9 (mxN (apW n1 m1 n2 m2) (apW g1 r1 g2 r2)) l12
  have f4 : (FloatKind.f64.format.order (mxN (apW n1 m1 n3 m3) (apW g1 r1 g3 r3)) (adU (mxN (apW n1 m1 n2 m2) (apW g1 r1 g2 r2)) (mxN (apW n2 m2 n3 m3) (apW g2 r2 g3 r3))) == some Ordering.lt || FloatKind.f64.format.order (mxN (apW n1 m1 n3 m3) (apW g1 r1 g3 r3)) (adU (mxN (apW n1 m1 n2 m2) (apW g1 r1 g2 r2)) (mxN (apW n2 m2 n3 m3) (apW g2 r2 g3 r3))) == some Ordering.eq) = true := by
    have g := Fq.fle false false (mxN (apW n1 m1 n3 m3) (apW g1 r1 g3 r3)) (adU (mxN (apW n1 m1 n2 m2) (apW g1 r1 g2 r2)) (mxN (apW n2 m2 n3 m3) (apW g2 r2 g3 r3))) (by omega) (by omega)
    rw [show Fq.wD false (mxN (apW n1 m1 n3 m3) (apW g1 r1 g3 r3)) = mxN (apW n1 m1 n3 m3) (apW g1 r1 g3 r3) from rfl, show Fq.wD false (adU (mxN (apW n1 m1 n2 m2) (apW g1 r1 g2 r2)) (mxN (apW n2 m2 n3 m3) (apW g2 r2 g3 r3))) = adU (mxN (apW n1 m1 n2 m2) (apW g1 r1 g2 r2)) (mxN (apW n2 m2 n3 m3) (apW g2 r2 g3 r3)) from rfl, decide_eq_true ⟨l13, lS, by unfold Fq.plz; simp; exact tri⟩] at g
    exact g
  have hAd := fun (W : World) (y : Kp w W) => padU_ (mxN (apW n1 m1 n2 m2) (apW g1 r1 g2 r2)) (mxN (apW n2 m2 n3 m3) (apW g2 r2 g3 r3)) l12 l23 W (Tab.grown hT y) (Fq.Tab.grown hQ y)
  have hz : mxN (apW n1 m1 n2 m2) (apW g1 r1 g2 r2) = 0 ↔ (Fq.wD n1 m1 = Fq.wD n2 m2 ∧ Fq.wD g1 r1 = Fq.wD g2 r2) := by
    rw [hA, hB, ← aA, ← aB]
    unfold mxN
    split <;> omega
  have f2 : (FloatKind.f64.format.order (mxN (apW n1 m1 n2 m2) (apW g1 r1 g2 r2)) 0 == some Ordering.eq) = decide (mxN (apW n1 m1 n2 m2) (apW g1 r1 g2 r2) = 0) := by
    have g := Fq.feq false false (mxN (apW n1 m1 n2 m2) (apW g1 r1 g2 r2)) 0 (by omega) (by decide)
    rw [show Fq.wD false (mxN (apW n1 m1 n2 m2) (apW g1 r1 g2 r2)) = mxN (apW n1 m1 n2 m2) (apW g1 r1 g2 r2) from rfl, show Fq.wD false 0 = 0 from rfl] at g
    rw [g]
    congr 1; apply propext
    unfold Fq.plz
    simp
    omega
  by_cases cA : Fq.wD n1 m1 = Fq.wD n2 m2
  · have tA : (((((Fq.wD n1 m1 : Nat) : Int))) == (((Fq.wD n2 m2 : Nat) : Int))) = true := by rw [cA]; simp
    by_cases cB : Fq.wD g1 r1 = Fq.wD g2 r2
    · have tB : (((((Fq.wD g1 r1 : Nat) : Int))) == (((Fq.wD g2 r2 : Nat) : Int))) = true := by rw [cB]; simp
      rw [decide_eq_true (hz.2 ⟨cA, cB⟩)] at f2
      exact triT_ _ _ _ _ _ _ _ _ _ _ _ _ w hD q0 hR1 hR2 hR3 a b c d e9 f9 _ _ _ _ (in8_ a b) (in8_ c d) (in8_ e9 f9) (fun W y => distX_ a b c d ha hb hc hd s1 n1 g1 m1 r1 l1 j1 e1 d1 s2 n2 g2 m2 r2 l2 j2 e2 d2 W (Tab.grown hT y) (Fq.Tab.grown hQ y)) (fun W y => distX_ c d e9 f9 hc hd he9 hf9 s2 n2 g2 m2 r2 l2 j2 e2 d2 s3 n3 g3 m3 r3 l3 j3 e3 d3 W (Tab.grown hT y) (Fq.Tab.grown hQ y)) (fun W y => distX_ a b e9 f9 ha hb he9 hf9 s1 n1 g1 m1 r1 l1 j1 e1 d1 s3 n3 g3 m3 r3 l3 j3 e3 d3 W (Tab.grown hT y) (Fq.Tab.grown hQ y)) hD21 hAd t1 t2 t3 f1 f2 f3 f4 tA tB
    · have tB : (((((Fq.wD g1 r1 : Nat) : Int))) == (((Fq.wD g2 r2 : Nat) : Int))) = false := by simp; omega
      rw [decide_eq_false (fun h => cB (hz.1 h).2)] at f2
      exact triG_ _ _ _ _ _ _ _ _ _ _ _ _ w hD q0 hR1 hR2 hR3 a b c d e9 f9 _ _ _ _ (in8_ a b) (in8_ c d) (in8_ e9 f9) (fun W y => distX_ a b c d ha hb hc hd s1 n1 g1 m1 r1 l1 j1 e1 d1 s2 n2 g2 m2 r2 l2 j2 e2 d2 W (Tab.grown hT y) (Fq.Tab.grown hQ y)) (fun W y => distX_ c d e9 f9 hc hd he9 hf9 s2 n2 g2 m2 r2 l2 j2 e2 d2 s3 n3 g3 m3 r3 l3 j3 e3 d3 W (Tab.grown hT y) (Fq.Tab.grown hQ y)) (fun W y => distX_ a b e9 f9 ha hb he9 hf9 s1 n1 g1 m1 r1 l1 j1 e1 d1 s3 n3 g3 m3 r3 l3 j3 e3 d3 W (Tab.grown hT y) (Fq.Tab.grown hQ y)) hD21 hAd t1 t2 t3 f1 f2 f3 f4 tA tB
  · have tA : (((((Fq.wD n1 m1 : Nat) : Int))) == (((Fq.wD n2 m2 : Nat) : Int))) = false := by simp; omega
    rw [decide_eq_false (fun h => cA (hz.1 h).1)] at f2
    exact triF_ _ _ _ _ _ _ _ _ _ _ _ _ w hD q0 hR1 hR2 hR3 a b c d e9 f9 _ _ _ _ (in8_ a b) (in8_ c d) (in8_ e9 f9) (fun W y => distX_ a b c d ha hb hc hd s1 n1 g1 m1 r1 l1 j1 e1 d1 s2 n2 g2 m2 r2 l2 j2 e2 d2 W (Tab.grown hT y) (Fq.Tab.grown hQ y)) (fun W y => distX_ c d e9 f9 hc hd he9 hf9 s2 n2 g2 m2 r2 l2 j2 e2 d2 s3 n3 g3 m3 r3 l3 j3 e3 d3 W (Tab.grown hT y) (Fq.Tab.grown hQ y)) (fun W y => distX_ a b e9 f9 ha hb he9 hf9 s1 n1 g1 m1 r1 l1 j1 e1 d1 s3 n3 g3 m3 r3 l3 j3 e3 d3 W (Tab.grown hT y) (Fq.Tab.grown hQ y)) hD21 hAd t1 t2 t3 f1 f2 f3 f4 tA
end Go.Proofs.YtgebabhfcgmjlaaDoor
