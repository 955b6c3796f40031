import Derived.Test.YtolghomhigemgaaProg
import Derived.Test.YtolghomhigemgaaKXQF
import Derived.Test.YtolghomhigemgaaKQA
import Derived.Test.YtolghomhigemgaaKXQU
import Derived.Test.YtolghomhigemgaaKXEA
import Derived.Test.YtolghomhigemgaaKXA0
import Derived.Test.YtolghomhigemgaaKXM
import Derived.Test.YtolghomhigemgaaKXY
import Derived.Test.YtolghomhigemgaaKXEE
import Derived.Test.YtolghomhigemgaaKMR7Q
import Derived.Test.YtolghomhigemgaaKXMR
import Derived.Test.YtolghomhigemgaaKXM3
import Derived.Test.YtolghomhigemgaaKXO
import Derived.Test.YtolghomhigemgaaKXO3
import Derived.Test.YtolghomhigemgaaKXH2Q
import Derived.WalkKit
import Derived.ProofKit
import Derived.RowKit3
import Derived.Deep.RegionHeld3
import Derived.WalkSpells
import Derived.StillTactics
import Derived.Laws.FloatArith
import Derived.Deep.QuietTactic
import Derived.BigQuiet
import Derived.Below
import Derived.Laws.BitsAllLaws
import Derived.Laws.Slices
import Derived.Laws.Bits64b
import Derived.Deep.OwnRows
import Derived.OwnWalk
namespace Go.Proofs.Ytolghomhigemgaa
open Go.RowKit
namespace Fq
theorem eqInM (a c : Nat) (w : World) : (Op.equalIn 9999 28 (.float .f64 a) (.float .f64 c)).run Try.prog w = .ok (FloatKind.f64.format.order a c == some Ordering.eq) w := by kernel_rfl
set_option maxRecDepth 20000 in
set_option maxHeartbeats 1000000 in
theorem voidM_ (a b : Nat) (ha : a < 18446744073709551616) (hb : b < 18446744073709551616) (w : World) : Calls Try.prog 17 #[.agg #[.float .f64 a, .float .f64 b]] w fun e w' => e = .returned (.bool (decide (a = 9218868437227405312 ∧ b = 18442240474082181120))) ∧ Grown w w' := by
  have t2 := feqI a ha
  have t3 := feqM b hb
  have e1 : (decide (a = 9218868437227405312 ∧ b = 18442240474082181120)) = ((FloatKind.f64.format.order a 9218868437227405312 == some Ordering.eq) && (FloatKind.f64.format.order b 18442240474082181120 == some Ordering.eq)) := by
    rw [t2, t3]; by_cases c1 : a = 9218868437227405312 <;> by_cases c2 : b = 18442240474082181120 <;> simp [c1, c2]
  rw [e1]
  clear e1 t2 t3 ha hb
  have h0 := eqInM a 9218868437227405312
  have h1 := eqInM b 18442240474082181120
  generalize g1 : (FloatKind.f64.format.order a 9218868437227405312 == some Ordering.eq) = B1 at h0 ⊢
  generalize g2 : (FloatKind.f64.format.order b 18442240474082181120 == some Ordering.eq) = B2 at h1 ⊢
  cases B1 <;> cases B2
  · go_enter Try.func17, Try.ntmps17
    go_wp2
    go_region_held3 (fun w' => w'.cell? ⟨w.heap.size, 0, none⟩ = some (.float .f64 a) ∧ w'.cell? ⟨w.heap.size, 1, none⟩ = some (.float .f64 b)) (simp [go_sem, World.cell?_alloc_past]) (first | (go_at_call 31; refine (empty6_ _).mono ?_; rintro e w' ⟨rfl, rfl⟩))
    go_wp2
    exact bodyPost_ret (v := .bool false) (by simp [results, Try.results17, go_sem] <;> simp only [*]) rfl ⟨rfl, (by repeat (with_reducible (first | assumption | exact Grown.refl _ | apply Grown.drew | apply Grown.alloc | apply gdrewN | (refine Grown.setCell ?_ (by simp <;> omega) _) | (refine gtrans ?_ (by assumption)))))⟩
  · go_enter Try.func17, Try.ntmps17
    go_wp2
    go_region_held3 (fun w' => w'.cell? ⟨w.heap.size, 0, none⟩ = some (.float .f64 a) ∧ w'.cell? ⟨w.heap.size, 1, none⟩ = some (.float .f64 b)) (simp [go_sem, World.cell?_alloc_past]) (first | (go_at_call 31; refine (empty6_ _).mono ?_; rintro e w' ⟨rfl, rfl⟩))
    go_wp2
    exact bodyPost_ret (v := .bool false) (by simp [results, Try.results17, go_sem] <;> simp only [*]) rfl ⟨rfl, (by repeat (with_reducible (first | assumption | exact Grown.refl _ | apply Grown.drew | apply Grown.alloc | apply gdrewN | (refine Grown.setCell ?_ (by simp <;> omega) _) | (refine gtrans ?_ (by assumption)))))⟩
  · go_enter Try.func17, Try.ntmps17
    go_wp2
    go_region_held3 (fun w' => w'.cell? ⟨w.heap.size, 0, none⟩ = some (.float .f64 a) ∧ w'.cell? ⟨w.heap.size, 1, none⟩ = some (.float .f64 b)) (simp [go_sem, World.cell?_alloc_past]) (first | (go_at_call 31; refine (empty6_ _).mono ?_; rintro e w' ⟨rfl, rfl⟩))
    go_wp2
    exact bodyPost_ret (v := .bool false) (by simp [results, Try.results17, go_sem] <;> simp only [*]) rfl ⟨rfl, (by repeat (with_reducible (first | assumption | exact Grown.refl _ | apply Grown.drew | apply Grown.alloc | apply gdrewN | (refine Grown.setCell ?_ (by simp <;> omega) _) | (refine gtrans ?_ (by assumption)))))⟩
  · go_enter Try.func17, Try.ntmps17
    go_wp2
    go_region_held3 (fun w' => w'.cell? ⟨w.heap.size, 0, none⟩ = some (.float .f64 a) ∧ w'.cell? ⟨w.heap.size, 1, none⟩ = some (.float .f64 b)) (simp [go_sem, World.cell?_alloc_past]) (first | (go_at_call 31; refine (empty6_ _).mono ?_; rintro e w' ⟨rfl, rfl⟩))
    go_wp2
    exact bodyPost_ret (v := .bool true) (by simp [results, Try.results17, go_sem] <;> simp only [*]) rfl ⟨rfl, (by repeat (with_reducible (first | assumption | exact Grown.refl _ | apply Grown.drew | apply Grown.alloc | apply gdrewN | (refine Grown.setCell ?_ (by simp <;> omega) _) | (refine gtrans ?_ (by assumption)))))⟩
end Fq

theorem iv_lt8 (n n' : Bool) (m m' : Nat) : Iv n m < Iv n' m' ↔ Fq.plz n m < Fq.plz n' m' := by
  have h1 := Fq.vV_lt_iff Ieee.double m m'
  have h2 := Fq.vV_lt_iff Ieee.double m' m
  have h3 := vV_zero_iff m
  have h4 := vV_zero_iff m'
  unfold Iv Fq.plz
  cases n <;> cases n' <;> simp <;> omega
open Ieee in
theorem fgt8 (n n' : Bool) (m m' : Nat) (h : m < 9223372036854775808) (h' : m' < 9223372036854775808) : (FloatKind.f64.format.order (Fq.wD n m) (Fq.wD n' m') == some Ordering.gt) = decide (m ≤ 9218868437227405312 ∧ m' ≤ 9218868437227405312 ∧ Fq.plz n' m' < Fq.plz n m) := by
  by_cases c : 9218868437227405312 < m
  · rw [Fq.ordD_nanl n m _ c h, decide_eq_false (by omega)]; rfl
  by_cases c' : 9218868437227405312 < m'
  · rw [Fq.ordD_nanr n' m' _ c' h', decide_eq_false (by omega)]; rfl
  rw [Fq.ordD n n' m m' (by omega) (by omega)]
  rcases Int.lt_trichotomy (Fq.plz n m) (Fq.plz n' m') with g | g | g
  · rw [Fq.cmp_lt g, decide_eq_false (by omega)]; rfl
  · rw [Fq.cmp_eq g, decide_eq_false (by omega)]; rfl
  · rw [Fq.cmp_gt g, decide_eq_true ⟨by omega, by omega, by omega⟩]; rfl
theorem flip8 (n : Bool) (m : Nat) (hm : m < 9223372036854775808) : Fq.wD n m ^^^ 9223372036854775808 = Fq.wD (!n) m := by
  obtain ⟨x, hx⟩ : ∃ x, x = Fq.wD n m := ⟨_, rfl⟩
  have h1 : (x ^^^ 9223372036854775808) % 2 ^ 63 = x % 2 ^ 63 := by
    rw [Nat.xor_mod_two_pow, show (9223372036854775808 : Nat) % 2 ^ 63 = 0 from by decide, Nat.xor_zero]
  have h2 : (x ^^^ 9223372036854775808) / 2 ^ 63 = x / 2 ^ 63 ^^^ 1 := by
    rw [← Nat.shiftRight_eq_div_pow, ← Nat.shiftRight_eq_div_pow, Nat.shiftRight_xor_distrib, show (9223372036854775808 : Nat) >>> 63 = 1 from by decide]
  rw [show (2 : Nat) ^ 63 = 9223372036854775808 from by decide] at h1 h2
  rw [← hx]
  generalize hz : x ^^^ 9223372036854775808 = z at h1 h2 ⊢
  clear hz
  cases n
  · have e : x = m := by rw [hx]; unfold Fq.wD; simp
    rw [e, Nat.div_eq_of_lt hm, show (0 : Nat) ^^^ 1 = 1 from by decide] at h2
    rw [e, Nat.mod_eq_of_lt hm] at h1
    unfold Fq.wD
    simp
    omega
  · have e : x = 9223372036854775808 + m := by rw [hx]; unfold Fq.wD; simp
    have e2 : x / 9223372036854775808 = 1 := by omega
    have e3 : x % 9223372036854775808 = m := by omega
    rw [e2, show (1 : Nat) ^^^ 1 = 0 from by decide] at h2
    rw [e3] at h1
    unfold Fq.wD
    simp
    omega
theorem negW8 (n : Bool) (m : Nat) (hm : m < 9223372036854775808) (w : World) : (Op.unary .neg (.float .f64 (Fq.wD n m))).run Try.prog w = .ok (.float .f64 (Fq.wD (!n) m)) w := by
  have h : Op.negFloat .f64 (Fq.wD n m) = Fq.wD (!n) m := by
    unfold Op.negFloat
    exact flip8 n m hm
  rw [← h]; rfl
set_option maxRecDepth 20000 in
set_option maxHeartbeats 400000 in
theorem nan8_ (w : World) : Calls Try.prog 18 #[] w fun e w' => e = .returned (.float .f64 9221120237041090561) ∧ Kp w w' := by
  have h1 : ∀ w : World, (callFunc 23 #[.int .u64 9221120237041090561]).run Try.prog w = .ok (.value (.float .f64 9221120237041090561)) w := Fq.ff64 9221120237041090561
  go_enter Try.func18, Try.ntmps18
  go_wp2
  exact bodyPost_ret (v := .float .f64 9221120237041090561) (by simp [results, Try.results18, go_sem]) rfl ⟨rfl, (by repeat (with_reducible (first | assumption | exact Kp.refl _ | apply Kp.drew | apply Kp.alloc | apply Kp.drewN | (refine Kp.setCell ?_ (by first | omega | (simp <;> omega)) _) | (refine Kp.trans ?_ (by assumption)))))⟩
set_option maxRecDepth 20000 in
set_option maxHeartbeats 400000 in
theorem greater8t_ (X Y : Nat) (t : (FloatKind.f64.format.order X Y == some Ordering.gt) = true) (w : World) : Calls Try.prog 19 #[.float .f64 X, .float .f64 Y] w fun e w' => e = .returned (.float .f64 X) ∧ w' = w := by
  go_enter Try.func19, Try.ntmps19
  go_wp2
  exact bodyPost_ret (v := .float .f64 X) (by simp [results, Try.results19, go_sem]) rfl ⟨rfl, rfl⟩
set_option maxRecDepth 20000 in
set_option maxHeartbeats 400000 in
theorem greater8f_ (X Y : Nat) (t : (FloatKind.f64.format.order X Y == some Ordering.gt) = false) (w : World) : Calls Try.prog 19 #[.float .f64 X, .float .f64 Y] w fun e w' => e = .returned (.float .f64 Y) ∧ w' = w := by
  go_enter Try.func19, Try.ntmps19
  go_wp2
  exact bodyPost_ret (v := .float .f64 Y) (by simp [results, Try.results19, go_sem]) rfl ⟨rfl, rfl⟩
theorem greater8_ (m m' : Nat) (h : m ≤ 9218868437227405312) (h' : m' ≤ 9218868437227405312) (w : World) : Calls Try.prog 19 #[.float .f64 m, .float .f64 m'] w fun e w' => e = .returned (.float .f64 (if m' < m then m else m')) ∧ w' = w := by
  have t := fgt8 false false m m' (by omega) (by omega)
  rw [show Fq.wD false m = m from rfl, show Fq.wD false m' = m' from rfl] at t
  by_cases c : m' < m
  · rw [if_pos c]
    exact greater8t_ m m' (by rw [t]; exact decide_eq_true ⟨h, h', by unfold Fq.plz; simp; omega⟩) w
  · rw [if_neg c]
    exact greater8f_ m m' (by rw [t]; exact decide_eq_false (fun x => c (by have := x.2.2; unfold Fq.plz at this; simp at this; omega))) w
theorem void8_ (a b : Nat) (ha : a < 18446744073709551616) (hb : b < 18446744073709551616) (V : Bool) (hs : Fq.snd a b = !V) (w : World) : Calls Try.prog 17 #[.agg #[.float .f64 (Fq.rlo a b), .float .f64 (Fq.rhi a b)]] w fun e w' => e = .returned (.bool V) ∧ Kp w w' := by
  have h := Fq.voidM_ (Fq.rlo a b) (Fq.rhi a b) (Fq.rlo_lt a b ha) (Fq.rhi_lt a b hb) w
  rw [Fq.void_read, hs, Bool.not_not] at h
  exact h
set_option maxRecDepth 20000 in
set_option maxHeartbeats 1000000 in
theorem in8_ (a b : Nat) (w : World) : Calls Try.prog 8 #[.agg #[.int .u64 ((a : Nat) : Int), .int .u64 ((b : Nat) : Int)]] w fun e w' => e = .returned (.agg #[.float .f64 a, .float .f64 b]) ∧ Kp w w' := by
  have h1 := Fq.ff64 a
  have h2 := Fq.ff64 b
  generalize (a : Int) = X at h1 ⊢
  generalize (b : Int) = Y at h2 ⊢
  go_enter Try.func8, Try.ntmps8
  go_wp2
  go_region_held3 (fun w' => w'.cell? ⟨w.heap.size, 0, none⟩ = some (.int .u64 X) ∧ w'.cell? ⟨w.heap.size, 1, none⟩ = some (.int .u64 Y)) (simp [go_sem]) (fail)
  go_wp2
  exact bodyPost_ret (v := .agg #[.float .f64 a, .float .f64 b]) (by simp [results, Try.results8, go_sem]) rfl ⟨rfl, (by repeat (with_reducible (first | assumption | exact Kp.refl _ | apply Kp.drew | apply Kp.alloc | apply Kp.drewN | (refine Kp.setCell ?_ (by first | omega | (simp <;> omega)) _) | (refine Kp.trans ?_ (by assumption)))))⟩
theorem snd_read8 (a b : Nat) (ha : a < 18446744073709551616) (hb : b < 18446744073709551616) (s1 : Fq.snd a b = true) : Fq.snd (Fq.rlo a b) (Fq.rhi a b) = true := by
  obtain ⟨n, m, hm, rfl⟩ := Fq.exD a ha
  obtain ⟨g, r, hr, rfl⟩ := Fq.exD b hb
  have e1 : Fq.rlo (Fq.wD n m) (Fq.wD g r) = Fq.wD (if n = true ∧ m = 0 then false else n) m := by
    simp only [Fq.rlo, s1, if_true]
    unfold Fq.pla Fq.wD
    cases n <;> by_cases z : m = 0 <;> simp [z] <;> omega
  have e2 : Fq.rhi (Fq.wD n m) (Fq.wD g r) = Fq.wD (if g = true ∧ r = 0 then false else g) r := by
    simp only [Fq.rhi, s1, if_true]
    unfold Fq.pla Fq.wD
    cases g <;> by_cases z : r = 0 <;> simp [z] <;> omega
  rw [e1, e2, Fq.snd_w _ _ _ _ hm hr]
  rw [Fq.snd_w _ _ _ _ hm hr] at s1
  have h := of_decide_eq_true s1
  apply decide_eq_true
  have p1 : Fq.plz (if n = true ∧ m = 0 then false else n) m = Fq.plz n m := by
    unfold Fq.plz; cases n <;> by_cases z : m = 0 <;> simp [z]
  have p2 : Fq.plz (if g = true ∧ r = 0 then false else g) r = Fq.plz g r := by
    unfold Fq.plz; cases g <;> by_cases z : r = 0 <;> simp [z]
  rw [p1, p2]
  refine ⟨h.1, h.2.1, h.2.2.1, ?_, ?_⟩
  · rintro ⟨h1, h2⟩
    rw [if_neg (by omega)] at h1
    exact h.2.2.2.1 ⟨h1, h2⟩
  · rintro ⟨h1, h2⟩
    rw [if_neg (by omega)] at h1
    exact h.2.2.2.2 ⟨h1, h2⟩
theorem pla_pla8 (x : Nat) : Fq.pla (Fq.pla x) = Fq.pla x := by unfold Fq.pla; split <;> simp_all
theorem rlo_read8 (a b : Nat) (ha : a < 18446744073709551616) (hb : b < 18446744073709551616) (s1 : Fq.snd a b = true) : Fq.rlo (Fq.rlo a b) (Fq.rhi a b) = Fq.rlo a b := by
  have h := snd_read8 a b ha hb s1
  rw [Fq.rlo, if_pos h]
  simp only [Fq.rlo, s1, if_true, pla_pla8]
theorem rhi_read8 (a b : Nat) (ha : a < 18446744073709551616) (hb : b < 18446744073709551616) (s1 : Fq.snd a b = true) : Fq.rhi (Fq.rlo a b) (Fq.rhi a b) = Fq.rhi a b := by
  have h := snd_read8 a b ha hb s1
  rw [Fq.rhi, if_pos h]
  simp only [Fq.rhi, s1, if_true, pla_pla8]
end Go.Proofs.Ytolghomhigemgaa
