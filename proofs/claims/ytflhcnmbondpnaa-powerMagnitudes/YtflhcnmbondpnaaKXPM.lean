import Derived.Test.YtflhcnmbondpnaaProg
import Derived.Test.YtflhcnmbondpnaaKXA0
import Derived.Test.YtflhcnmbondpnaaKXM
import Derived.Test.YtflhcnmbondpnaaKXY
import Derived.Test.YtflhcnmbondpnaaKXQF
import Derived.Test.YtflhcnmbondpnaaKQA
import Derived.Test.YtflhcnmbondpnaaKXQU
import Derived.Test.YtflhcnmbondpnaaKXEA
import Derived.Test.YtflhcnmbondpnaaKXED
import Derived.Test.YtflhcnmbondpnaaKMR7Q
import Derived.Test.YtflhcnmbondpnaaKXMR
import Derived.Test.YtflhcnmbondpnaaKXM3
import Derived.Test.YtflhcnmbondpnaaKXO
import Derived.Test.YtflhcnmbondpnaaKXO3
import Derived.Test.YtflhcnmbondpnaaKXT
import Derived.Test.YtflhcnmbondpnaaKHB
import Derived.Test.YtflhcnmbondpnaaKLX
import Derived.Test.YtflhcnmbondpnaaKRX
import Derived.Test.YtflhcnmbondpnaaKXRL
import Derived.Test.YtflhcnmbondpnaaKXCO
import Derived.Test.YtflhcnmbondpnaaKLN
import Derived.Test.YtflhcnmbondpnaaKRN
import Derived.Test.YtflhcnmbondpnaaKW4
import Derived.Test.YtflhcnmbondpnaaKBY
import Derived.Test.YtflhcnmbondpnaaKBW
import Derived.Test.YtflhcnmbondpnaaKXTZ
import Derived.Test.YtflhcnmbondpnaaKXG1
import Derived.Test.YtflhcnmbondpnaaKNSm
import Derived.Test.YtflhcnmbondpnaaKXH2Q
import Derived.Test.YtflhcnmbondpnaaKXG4
import Derived.Test.YtflhcnmbondpnaaKXET
import Derived.Test.YtflhcnmbondpnaaKXEG
import Derived.Test.YtflhcnmbondpnaaKXEC
import Derived.WalkKit
import Derived.ProofKit
import Derived.RowKit3
import Derived.WalkSpells
import Derived.StillTactics
import Derived.Deep.QuietTactic
import Derived.BigQuiet
import Derived.Below
import Derived.Deep.OwnRows
import Derived.OwnWalk
import Derived.Laws.BitsAllLaws
import Derived.Laws.Slices
import Derived.Laws.Bits64b
import Derived.Laws.FloatArith
import Derived.Deep.RegionHeld3
namespace Go.Proofs.Ytflhcnmbondpnaa
open Go.RowKit
theorem rsignP_ (n : Bool) (m : Nat) (s : Bool) (p : Option Addr) (l c : Nat) (q : Option Addr) (k d : Nat) (B1 : Nat) (w : World) (h : RP B1 w s p l c q k d n m) : Calls Try.prog 36 #[.agg #[.bool s, .slice p l c, .slice q k d]] w fun e w' => e = .returned (.int .i64 (cmI (Iv n m) 0)) ∧ Kp w w' := by
  obtain ⟨a, b, u1, u2, u3⟩ := h
  obtain ⟨K, hK⟩ : ∃ K : Nat, K = 1074 := ⟨_, rfl⟩
  obtain ⟨f1, f2, f3, f4, f5⟩ := u3 K hK
  have h := rsign_ s (.slice p l c) (.slice q k d) a w u1.ls (by omega)
  have hz : a = 0 ↔ Fq.vV Ieee.double m = 0 := by
    have hp := Nat.two_pow_pos K
    constructor
    · intro h0; rw [h0, Nat.zero_mul] at f2
      rcases Nat.mul_eq_zero.1 f2.symm with h1 | h1 <;> omega
    · intro h0; rw [h0, Nat.zero_mul] at f2
      rcases Nat.mul_eq_zero.1 f2 with h1 | h1
      · exact h1
      · omega
  have e : (if a = 0 then 0 else if s then (-1 : Int) else 1) = cmI (Iv n m) 0 := by
    rw [f3]
    by_cases z : a = 0
    · rw [if_pos z, hz.1 z]; cases s <;> rfl
    · have zp : 0 < Fq.vV Ieee.double m := by rcases Nat.eq_zero_or_pos (Fq.vV Ieee.double m) with h | h; exact absurd (hz.2 h) z; exact h
      rw [if_neg z]
      cases s
      · rw [if_neg (by decide), if_neg (by decide), cmI_gt _ _ (by omega)]
      · rw [if_pos rfl, if_pos rfl, cmI_lt _ _ (by omega)]
  rw [e] at h
  exact h
theorem signE_ (n : Bool) (m : Nat) (s : Bool) (p : Option Addr) (l c : Nat) (q : Option Addr) (k d : Nat) (B1 : Nat) (w : World) (h : RP B1 w s p l c q k d (fN n m) (fM m)) : Calls Try.prog 29 #[.agg #[.int .i64 (infS n m), .bool s, .slice p l c, .slice q k d]] w fun e w' => e = .returned (.int .i64 (cmI (Fq.plz n m) 0)) ∧ Kp w w' := by
  have z0 : cmI (Fq.plz n m) 0 = cmI (Fq.plz n m) (Fq.plz false 0) := rfl
  by_cases c1 : m = 9218868437227405312
  · have e1 : infS n m = if n then -1 else 1 := by unfold infS; rw [if_pos c1]
    rw [e1]
    have P1 : Fq.plz n m = if n then -(m : Int) else m := by unfold Fq.plz; cases n <;> rfl
    cases n
    · rw [cmI_gt _ _ (by rw [P1]; simp; omega)]; exact signI_ 1 s p l c q k d (by decide) w
    · rw [cmI_lt _ _ (by rw [P1]; simp; omega)]; exact signI_ (-1) s p l c q k d (by decide) w
  · have e1 : infS n m = 0 := by unfold infS; rw [if_neg c1]
    have f1 : fN n m = n ∧ fM m = m := by unfold fN fM; rw [if_neg c1, if_neg c1]; exact ⟨rfl, rfl⟩
    rw [f1.1, f1.2] at h
    have iz : Iv false 0 = 0 := by unfold Iv; rw [if_neg (by decide), Fq.vV_zero]; rfl
    rw [e1, z0, ← cmI_iv, iz]
    exact signZ_ _ s p l c q k d w (fun W g => rsignP_ n m s p l c q k d B1 W (h.kp g))
namespace Fq
theorem eqInP (a c : Nat) (w : World) : (Op.equalIn 9999 26 (.float .f64 a) (.float .f64 c)).run Try.prog w = .ok (FloatKind.f64.format.order a c == some Ordering.eq) w := by kernel_rfl
set_option maxRecDepth 20000 in
set_option maxHeartbeats 1000000 in
theorem voidP_ (a b : Nat) (ha : a < 18446744073709551616) (hb : b < 18446744073709551616) (w : World) : Calls Try.prog 14 #[.agg #[.float .f64 a, .float .f64 b]] w fun e w' => e = .returned (.bool (decide (a = 9218868437227405312 ∧ b = 18442240474082181120))) ∧ Grown w w' := by
  have t2 := feqI a ha
  have t3 := feqM b hb
  have e1 : (decide (a = 9218868437227405312 ∧ b = 18442240474082181120)) = ((FloatKind.f64.format.order a 9218868437227405312 == some Ordering.eq) && (FloatKind.f64.format.order b 18442240474082181120 == some Ordering.eq)) := by
    rw [t2, t3]; by_cases c1 : a = 9218868437227405312 <;> by_cases c2 : b = 18442240474082181120 <;> simp [c1, c2]
  rw [e1]
  clear e1 t2 t3 ha hb
  have h0 := eqInP a 9218868437227405312
  have h1 := eqInP b 18442240474082181120
  generalize g1 : (FloatKind.f64.format.order a 9218868437227405312 == some Ordering.eq) = B1 at h0 ⊢
  generalize g2 : (FloatKind.f64.format.order b 18442240474082181120 == some Ordering.eq) = B2 at h1 ⊢
  cases B1 <;> cases B2
  · go_enter Try.func14, Try.ntmps14
    go_wp2
    go_region_held3 (fun w' => w'.cell? ⟨w.heap.size, 0, none⟩ = some (.float .f64 a) ∧ w'.cell? ⟨w.heap.size, 1, none⟩ = some (.float .f64 b)) (simp [go_sem, World.cell?_alloc_past]) (first | (go_at_call 20; refine (empty6_ _).mono ?_; rintro e w' ⟨rfl, rfl⟩))
    go_wp2
    exact bodyPost_ret (v := .bool false) (by simp [results, Try.results14, go_sem] <;> simp only [*]) rfl ⟨rfl, (by repeat (with_reducible (first | assumption | exact Grown.refl _ | apply Grown.drew | apply Grown.alloc | apply gdrewN | (refine Grown.setCell ?_ (by simp <;> omega) _) | (refine gtrans ?_ (by assumption)))))⟩
  · go_enter Try.func14, Try.ntmps14
    go_wp2
    go_region_held3 (fun w' => w'.cell? ⟨w.heap.size, 0, none⟩ = some (.float .f64 a) ∧ w'.cell? ⟨w.heap.size, 1, none⟩ = some (.float .f64 b)) (simp [go_sem, World.cell?_alloc_past]) (first | (go_at_call 20; refine (empty6_ _).mono ?_; rintro e w' ⟨rfl, rfl⟩))
    go_wp2
    exact bodyPost_ret (v := .bool false) (by simp [results, Try.results14, go_sem] <;> simp only [*]) rfl ⟨rfl, (by repeat (with_reducible (first | assumption | exact Grown.refl _ | apply Grown.drew | apply Grown.alloc | apply gdrewN | (refine Grown.setCell ?_ (by simp <;> omega) _) | (refine gtrans ?_ (by assumption)))))⟩
  · go_enter Try.func14, Try.ntmps14
    go_wp2
    go_region_held3 (fun w' => w'.cell? ⟨w.heap.size, 0, none⟩ = some (.float .f64 a) ∧ w'.cell? ⟨w.heap.size, 1, none⟩ = some (.float .f64 b)) (simp [go_sem, World.cell?_alloc_past]) (first | (go_at_call 20; refine (empty6_ _).mono ?_; rintro e w' ⟨rfl, rfl⟩))
    go_wp2
    exact bodyPost_ret (v := .bool false) (by simp [results, Try.results14, go_sem] <;> simp only [*]) rfl ⟨rfl, (by repeat (with_reducible (first | assumption | exact Grown.refl _ | apply Grown.drew | apply Grown.alloc | apply gdrewN | (refine Grown.setCell ?_ (by simp <;> omega) _) | (refine gtrans ?_ (by assumption)))))⟩
  · go_enter Try.func14, Try.ntmps14
    go_wp2
    go_region_held3 (fun w' => w'.cell? ⟨w.heap.size, 0, none⟩ = some (.float .f64 a) ∧ w'.cell? ⟨w.heap.size, 1, none⟩ = some (.float .f64 b)) (simp [go_sem, World.cell?_alloc_past]) (first | (go_at_call 20; refine (empty6_ _).mono ?_; rintro e w' ⟨rfl, rfl⟩))
    go_wp2
    exact bodyPost_ret (v := .bool true) (by simp [results, Try.results14, go_sem] <;> simp only [*]) rfl ⟨rfl, (by repeat (with_reducible (first | assumption | exact Grown.refl _ | apply Grown.drew | apply Grown.alloc | apply gdrewN | (refine Grown.setCell ?_ (by simp <;> omega) _) | (refine gtrans ?_ (by assumption)))))⟩
end Fq
theorem min7_ (n n' : Bool) (m m' : Nat) (hm : m ≤ 9218868437227405312) (hm' : m' ≤ 9218868437227405312) (h1 : Fq.wD n m ≠ 9223372036854775808) (h2 : Fq.wD n' m' ≠ 9223372036854775808) (ts : Array TypeId) (t : TypeId) (w : World) : (Builtin.min_ ts t #[.float .f64 (Fq.wD n m), .float .f64 (Fq.wD n' m')]).run Try.prog w = .ok (.float .f64 (if Fq.plz n' m' < Fq.plz n m then Fq.wD n' m' else Fq.wD n m)) w := by
  have ho := Fq.ordD n n' m m' hm hm'
  rcases Int.lt_trichotomy (Fq.plz n m) (Fq.plz n' m') with g | g | g
  · rw [Fq.cmp_lt g] at ho
    rw [if_neg (by omega)]
    generalize Fq.wD n m = X at ho ⊢
    generalize Fq.wD n' m' = Y at ho ⊢
    simp [Builtin.min_, Builtin.min2, ho]
  · rw [Fq.cmp_eq g] at ho
    have e : Fq.wD n m = Fq.wD n' m' := by
      have z1 : n = true → m ≠ 0 := fun h z => h1 (by rw [h, z]; rfl)
      have z2 : n' = true → m' ≠ 0 := fun h z => h2 (by rw [h, z]; rfl)
      unfold Fq.wD
      unfold Fq.plz at g
      cases n <;> cases n' <;> simp at z1 z2 g ⊢ <;> omega
    rw [if_neg (by omega)]
    rw [← e] at ho ⊢
    generalize Fq.wD n m = X at ho ⊢
    simp [Builtin.min_, Builtin.min2, ho]
  · rw [Fq.cmp_gt g] at ho
    rw [if_pos (by omega)]
    generalize Fq.wD n m = X at ho ⊢
    generalize Fq.wD n' m' = Y at ho ⊢
    simp [Builtin.min_, Builtin.min2, ho]
theorem max7_ (n n' : Bool) (m m' : Nat) (hm : m ≤ 9218868437227405312) (hm' : m' ≤ 9218868437227405312) (h1 : Fq.wD n m ≠ 9223372036854775808) (h2 : Fq.wD n' m' ≠ 9223372036854775808) (ts : Array TypeId) (t : TypeId) (w : World) : (Builtin.max_ ts t #[.float .f64 (Fq.wD n m), .float .f64 (Fq.wD n' m')]).run Try.prog w = .ok (.float .f64 (if Fq.plz n' m' > Fq.plz n m then Fq.wD n' m' else Fq.wD n m)) w := by
  have ho := Fq.ordD n n' m m' hm hm'
  rcases Int.lt_trichotomy (Fq.plz n m) (Fq.plz n' m') with g | g | g
  · rw [Fq.cmp_lt g] at ho
    rw [if_pos (by omega)]
    generalize Fq.wD n m = X at ho ⊢
    generalize Fq.wD n' m' = Y at ho ⊢
    simp [Builtin.max_, Builtin.max2, ho]
  · rw [Fq.cmp_eq g] at ho
    have e : Fq.wD n m = Fq.wD n' m' := by
      have z1 : n = true → m ≠ 0 := fun h z => h1 (by rw [h, z]; rfl)
      have z2 : n' = true → m' ≠ 0 := fun h z => h2 (by rw [h, z]; rfl)
      unfold Fq.wD
      unfold Fq.plz at g
      cases n <;> cases n' <;> simp at z1 z2 g ⊢ <;> omega
    rw [if_neg (by omega)]
    rw [← e] at ho ⊢
    generalize Fq.wD n m = X at ho ⊢
    simp [Builtin.max_, Builtin.max2, ho]
  · rw [Fq.cmp_gt g] at ho
    rw [if_neg (by omega)]
    generalize Fq.wD n m = X at ho ⊢
    generalize Fq.wD n' m' = Y at ho ⊢
    simp [Builtin.max_, Builtin.max2, ho]
set_option maxRecDepth 20000 in
set_option maxHeartbeats 2000000 in
theorem rminE1_ (X Y Z U i j i2 j2 : Int) (N2 : Bool) (w : World) (hO1 : ∀ W : World, Kp w W → Calls Try.prog 19 #[.agg #[.int .u64 X, .int .u64 Y]] W fun e w' => ∃ (s : Bool) (p : Option Addr) (l c : Nat) (q : Option Addr) (k d : Nat) (s2 : Bool) (p2 : Option Addr) (l2 c2 : Nat) (q2 : Option Addr) (k2 d2 : Nat), e = .returned (.agg #[.bool true, .int .i64 i, .bool s, .slice p l c, .slice q k d, .int .i64 j, .bool s2, .slice p2 l2 c2, .slice q2 k2 d2]) ∧ True ∧ True ∧ Kp W w') (hO2 : ∀ W : World, Kp w W → Calls Try.prog 19 #[.agg #[.int .u64 Z, .int .u64 U]] W fun e w' => ∃ (s5 : Bool) (p5 : Option Addr) (l5 c5 : Nat) (q5 : Option Addr) (k5 d5 : Nat) (s6 : Bool) (p6 : Option Addr) (l6 c6 : Nat) (q6 : Option Addr) (k6 d6 : Nat), e = .returned (.agg #[.bool N2, .int .i64 i2, .bool s5, .slice p5 l5 c5, .slice q5 k5 d5, .int .i64 j2, .bool s6, .slice p6 l6 c6, .slice q6 k6 d6]) ∧ True ∧ True ∧ Kp W w') (hE : ∀ w : World, Calls Try.prog 21 #[] w fun e w' => e = .returned (.agg #[.int .u64 9218868437227405312, .int .u64 18442240474082181120]) ∧ Kp w w') : Calls Try.prog 9 #[.agg #[.int .u64 X, .int .u64 Y], .agg #[.int .u64 Z, .int .u64 U]] w fun e w' => e = .returned (.agg #[.int .u64 9218868437227405312, .int .u64 18442240474082181120]) ∧ Kp w w' := by
  go_enter Try.func9, Try.ntmps9
  go_wp2_with (first | (go_at_call_of 19 (Value.agg #[.int .u64 X, .int .u64 Y]); refine (hO1 _ ((((Kp.refl w).alloc _).alloc _).alloc _)).mono ?_; rintro e w1 ⟨s, p, l, c, q, k, d, s2, p2, l2, c2, q2, k2, d2, rfl, hp1, hp2, g1⟩; have k1 : Kp w w1 := Kp.trans ((((Kp.refl w).alloc _).alloc _).alloc _) g1; have b0 := kkeep g1 (b := w.heap.size + 1) (o := 0) (v := .int .u64 Z) (by simp [go_sem]); have b1 := kkeep g1 (b := w.heap.size + 1) (o := 1) (v := .int .u64 U) (by simp [go_sem]); have ba0 := fun o => kkeep ((Kp.refl w1).alloc o) b0; have ba1 := fun o => kkeep ((Kp.refl w1).alloc o) b1; have r0 := kkeep g1 (b := w.heap.size + 2) (o := 0) (v := .int .u64 0) (by simp [go_sem]); have rz0 : w1.frozen? ⟨w.heap.size + 2, 0, none⟩ = false := (kfro g1 (by simp <;> omega)).trans (by simp [go_sem]); have r1 := kkeep g1 (b := w.heap.size + 2) (o := 1) (v := .int .u64 0) (by simp [go_sem]); have rz1 : w1.frozen? ⟨w.heap.size + 2, 1, none⟩ = false := (kfro g1 (by simp <;> omega)).trans (by simp [go_sem])) | (go_at_call_of 19 (Value.agg #[.int .u64 Z, .int .u64 U]); refine (hO2 _ (Kp.trans k1 ((Kp.refl w1).alloc _))).mono ?_; rintro e w2 ⟨s5, p5, l5, c5, q5, k5, d5, s6, p6, l6, c6, q6, k6, d6, rfl, hp5, hp6, g2⟩; have kk2 : Kp w w2 := Kp.trans (Kp.trans k1 ((Kp.refl w1).alloc _)) g2; have hl2 : w1.heap.size < w2.heap.size := Nat.lt_of_lt_of_le (by simp) (Below.size g2); have x0 := kkeep g2 (b := w1.heap.size) (o := 0) (v := .bool true) (by simp [go_sem]); have xz0 : w2.frozen? ⟨w1.heap.size, 0, none⟩ = false := (kfro g2 (by simp <;> omega)).trans (by simp [go_sem]); have x1 := kkeep g2 (b := w1.heap.size) (o := 1) (v := .int .i64 i) (by simp [go_sem]); have xz1 : w2.frozen? ⟨w1.heap.size, 1, none⟩ = false := (kfro g2 (by simp <;> omega)).trans (by simp [go_sem]); have x2 := kkeep g2 (b := w1.heap.size) (o := 2) (v := .bool s) (by simp [go_sem]); have xz2 : w2.frozen? ⟨w1.heap.size, 2, none⟩ = false := (kfro g2 (by simp <;> omega)).trans (by simp [go_sem]); have x3 := kkeep g2 (b := w1.heap.size) (o := 3) (v := .slice p l c) (by simp [go_sem]); have xz3 : w2.frozen? ⟨w1.heap.size, 3, none⟩ = false := (kfro g2 (by simp <;> omega)).trans (by simp [go_sem]); have x4 := kkeep g2 (b := w1.heap.size) (o := 4) (v := .slice q k d) (by simp [go_sem]); have xz4 : w2.frozen? ⟨w1.heap.size, 4, none⟩ = false := (kfro g2 (by simp <;> omega)).trans (by simp [go_sem]); have x5 := kkeep g2 (b := w1.heap.size) (o := 5) (v := .int .i64 j) (by simp [go_sem]); have xz5 : w2.frozen? ⟨w1.heap.size, 5, none⟩ = false := (kfro g2 (by simp <;> omega)).trans (by simp [go_sem]); have x6 := kkeep g2 (b := w1.heap.size) (o := 6) (v := .bool s2) (by simp [go_sem]); have xz6 : w2.frozen? ⟨w1.heap.size, 6, none⟩ = false := (kfro g2 (by simp <;> omega)).trans (by simp [go_sem]); have x7 := kkeep g2 (b := w1.heap.size) (o := 7) (v := .slice p2 l2 c2) (by simp [go_sem]); have xz7 : w2.frozen? ⟨w1.heap.size, 7, none⟩ = false := (kfro g2 (by simp <;> omega)).trans (by simp [go_sem]); have x8 := kkeep g2 (b := w1.heap.size) (o := 8) (v := .slice q2 k2 d2) (by simp [go_sem]); have xz8 : w2.frozen? ⟨w1.heap.size, 8, none⟩ = false := (kfro g2 (by simp <;> omega)).trans (by simp [go_sem]); have R0 := kkeep g2 (kkeep ((Kp.refl w1).alloc _) r0); have Rz0 : w2.frozen? ⟨w.heap.size + 2, 0, none⟩ = false := (kfro g2 (cell_lt (kkeep ((Kp.refl w1).alloc _) r0))).trans ((kfro ((Kp.refl w1).alloc _) (cell_lt r0)).trans rz0); have R1 := kkeep g2 (kkeep ((Kp.refl w1).alloc _) r1); have Rz1 : w2.frozen? ⟨w.heap.size + 2, 1, none⟩ = false := (kfro g2 (cell_lt (kkeep ((Kp.refl w1).alloc _) r1))).trans ((kfro ((Kp.refl w1).alloc _) (cell_lt r1)).trans rz1)) | (go_at_call 21; refine (hE _).mono ?_; rintro e w3 ⟨rfl, g3⟩; have y0 := kkeep g3 (kkeep ((Kp.refl w2).alloc _) R0); have y1 := kkeep g3 (kkeep ((Kp.refl w2).alloc _) R1); have yz0 : w3.frozen? ⟨w.heap.size + 2, 0, none⟩ = false := (kfro g3 (cell_lt (kkeep ((Kp.refl w2).alloc _) R0))).trans ((kfro ((Kp.refl w2).alloc _) (cell_lt R0)).trans Rz0); have yz1 : w3.frozen? ⟨w.heap.size + 2, 1, none⟩ = false := (kfro g3 (cell_lt (kkeep ((Kp.refl w2).alloc _) R1))).trans ((kfro ((Kp.refl w2).alloc _) (cell_lt R1)).trans Rz1); have k3 : Kp w w3 := Kp.trans (Kp.trans kk2 ((Kp.refl w2).alloc _)) g3))
  exact bodyPost_ret (v := .agg #[.int .u64 9218868437227405312, .int .u64 18442240474082181120]) (by simp [results, Try.results9, go_sem, y0, y1]) rfl ⟨rfl, (k3.setCell (by simp <;> omega) _).setCell (by simp <;> omega) _⟩
set_option maxRecDepth 20000 in
set_option maxHeartbeats 2000000 in
theorem rminE2_ (X Y Z U i j i2 j2 : Int) (w : World) (hO1 : ∀ W : World, Kp w W → Calls Try.prog 19 #[.agg #[.int .u64 X, .int .u64 Y]] W fun e w' => ∃ (s : Bool) (p : Option Addr) (l c : Nat) (q : Option Addr) (k d : Nat) (s2 : Bool) (p2 : Option Addr) (l2 c2 : Nat) (q2 : Option Addr) (k2 d2 : Nat), e = .returned (.agg #[.bool false, .int .i64 i, .bool s, .slice p l c, .slice q k d, .int .i64 j, .bool s2, .slice p2 l2 c2, .slice q2 k2 d2]) ∧ True ∧ True ∧ Kp W w') (hO2 : ∀ W : World, Kp w W → Calls Try.prog 19 #[.agg #[.int .u64 Z, .int .u64 U]] W fun e w' => ∃ (s5 : Bool) (p5 : Option Addr) (l5 c5 : Nat) (q5 : Option Addr) (k5 d5 : Nat) (s6 : Bool) (p6 : Option Addr) (l6 c6 : Nat) (q6 : Option Addr) (k6 d6 : Nat), e = .returned (.agg #[.bool true, .int .i64 i2, .bool s5, .slice p5 l5 c5, .slice q5 k5 d5, .int .i64 j2, .bool s6, .slice p6 l6 c6, .slice q6 k6 d6]) ∧ True ∧ True ∧ Kp W w') (hE : ∀ w : World, Calls Try.prog 21 #[] w fun e w' => e = .returned (.agg #[.int .u64 9218868437227405312, .int .u64 18442240474082181120]) ∧ Kp w w') : Calls Try.prog 9 #[.agg #[.int .u64 X, .int .u64 Y], .agg #[.int .u64 Z, .int .u64 U]] w fun e w' => e = .returned (.agg #[.int .u64 9218868437227405312, .int .u64 18442240474082181120]) ∧ Kp w w' := by
  go_enter Try.func9, Try.ntmps9
  go_wp2_with (first | (go_at_call_of 19 (Value.agg #[.int .u64 X, .int .u64 Y]); refine (hO1 _ ((((Kp.refl w).alloc _).alloc _).alloc _)).mono ?_; rintro e w1 ⟨s, p, l, c, q, k, d, s2, p2, l2, c2, q2, k2, d2, rfl, hp1, hp2, g1⟩; have k1 : Kp w w1 := Kp.trans ((((Kp.refl w).alloc _).alloc _).alloc _) g1; have b0 := kkeep g1 (b := w.heap.size + 1) (o := 0) (v := .int .u64 Z) (by simp [go_sem]); have b1 := kkeep g1 (b := w.heap.size + 1) (o := 1) (v := .int .u64 U) (by simp [go_sem]); have ba0 := fun o => kkeep ((Kp.refl w1).alloc o) b0; have ba1 := fun o => kkeep ((Kp.refl w1).alloc o) b1; have r0 := kkeep g1 (b := w.heap.size + 2) (o := 0) (v := .int .u64 0) (by simp [go_sem]); have rz0 : w1.frozen? ⟨w.heap.size + 2, 0, none⟩ = false := (kfro g1 (by simp <;> omega)).trans (by simp [go_sem]); have r1 := kkeep g1 (b := w.heap.size + 2) (o := 1) (v := .int .u64 0) (by simp [go_sem]); have rz1 : w1.frozen? ⟨w.heap.size + 2, 1, none⟩ = false := (kfro g1 (by simp <;> omega)).trans (by simp [go_sem])) | (go_at_call_of 19 (Value.agg #[.int .u64 Z, .int .u64 U]); refine (hO2 _ (Kp.trans k1 ((Kp.refl w1).alloc _))).mono ?_; rintro e w2 ⟨s5, p5, l5, c5, q5, k5, d5, s6, p6, l6, c6, q6, k6, d6, rfl, hp5, hp6, g2⟩; have kk2 : Kp w w2 := Kp.trans (Kp.trans k1 ((Kp.refl w1).alloc _)) g2; have hl2 : w1.heap.size < w2.heap.size := Nat.lt_of_lt_of_le (by simp) (Below.size g2); have x0 := kkeep g2 (b := w1.heap.size) (o := 0) (v := .bool false) (by simp [go_sem]); have xz0 : w2.frozen? ⟨w1.heap.size, 0, none⟩ = false := (kfro g2 (by simp <;> omega)).trans (by simp [go_sem]); have x1 := kkeep g2 (b := w1.heap.size) (o := 1) (v := .int .i64 i) (by simp [go_sem]); have xz1 : w2.frozen? ⟨w1.heap.size, 1, none⟩ = false := (kfro g2 (by simp <;> omega)).trans (by simp [go_sem]); have x2 := kkeep g2 (b := w1.heap.size) (o := 2) (v := .bool s) (by simp [go_sem]); have xz2 : w2.frozen? ⟨w1.heap.size, 2, none⟩ = false := (kfro g2 (by simp <;> omega)).trans (by simp [go_sem]); have x3 := kkeep g2 (b := w1.heap.size) (o := 3) (v := .slice p l c) (by simp [go_sem]); have xz3 : w2.frozen? ⟨w1.heap.size, 3, none⟩ = false := (kfro g2 (by simp <;> omega)).trans (by simp [go_sem]); have x4 := kkeep g2 (b := w1.heap.size) (o := 4) (v := .slice q k d) (by simp [go_sem]); have xz4 : w2.frozen? ⟨w1.heap.size, 4, none⟩ = false := (kfro g2 (by simp <;> omega)).trans (by simp [go_sem]); have x5 := kkeep g2 (b := w1.heap.size) (o := 5) (v := .int .i64 j) (by simp [go_sem]); have xz5 : w2.frozen? ⟨w1.heap.size, 5, none⟩ = false := (kfro g2 (by simp <;> omega)).trans (by simp [go_sem]); have x6 := kkeep g2 (b := w1.heap.size) (o := 6) (v := .bool s2) (by simp [go_sem]); have xz6 : w2.frozen? ⟨w1.heap.size, 6, none⟩ = false := (kfro g2 (by simp <;> omega)).trans (by simp [go_sem]); have x7 := kkeep g2 (b := w1.heap.size) (o := 7) (v := .slice p2 l2 c2) (by simp [go_sem]); have xz7 : w2.frozen? ⟨w1.heap.size, 7, none⟩ = false := (kfro g2 (by simp <;> omega)).trans (by simp [go_sem]); have x8 := kkeep g2 (b := w1.heap.size) (o := 8) (v := .slice q2 k2 d2) (by simp [go_sem]); have xz8 : w2.frozen? ⟨w1.heap.size, 8, none⟩ = false := (kfro g2 (by simp <;> omega)).trans (by simp [go_sem]); have R0 := kkeep g2 (kkeep ((Kp.refl w1).alloc _) r0); have Rz0 : w2.frozen? ⟨w.heap.size + 2, 0, none⟩ = false := (kfro g2 (cell_lt (kkeep ((Kp.refl w1).alloc _) r0))).trans ((kfro ((Kp.refl w1).alloc _) (cell_lt r0)).trans rz0); have R1 := kkeep g2 (kkeep ((Kp.refl w1).alloc _) r1); have Rz1 : w2.frozen? ⟨w.heap.size + 2, 1, none⟩ = false := (kfro g2 (cell_lt (kkeep ((Kp.refl w1).alloc _) r1))).trans ((kfro ((Kp.refl w1).alloc _) (cell_lt r1)).trans rz1)) | (go_at_call 21; refine (hE _).mono ?_; rintro e w3 ⟨rfl, g3⟩; have y0 := kkeep g3 (kkeep ((Kp.refl w2).alloc _) R0); have y1 := kkeep g3 (kkeep ((Kp.refl w2).alloc _) R1); have yz0 : w3.frozen? ⟨w.heap.size + 2, 0, none⟩ = false := (kfro g3 (cell_lt (kkeep ((Kp.refl w2).alloc _) R0))).trans ((kfro ((Kp.refl w2).alloc _) (cell_lt R0)).trans Rz0); have yz1 : w3.frozen? ⟨w.heap.size + 2, 1, none⟩ = false := (kfro g3 (cell_lt (kkeep ((Kp.refl w2).alloc _) R1))).trans ((kfro ((Kp.refl w2).alloc _) (cell_lt R1)).trans Rz1); have k3 : Kp w w3 := Kp.trans (Kp.trans kk2 ((Kp.refl w2).alloc _)) g3))
  exact bodyPost_ret (v := .agg #[.int .u64 9218868437227405312, .int .u64 18442240474082181120]) (by simp [results, Try.results9, go_sem, y0, y1]) rfl ⟨rfl, (k3.setCell (by simp <;> omega) _).setCell (by simp <;> omega) _⟩
set_option maxRecDepth 20000 in
set_option maxHeartbeats 2000000 in
theorem rmaxE1_ (X Y Z U i j i2 j2 : Int) (N2 : Bool) (w : World) (hO1 : ∀ W : World, Kp w W → Calls Try.prog 19 #[.agg #[.int .u64 X, .int .u64 Y]] W fun e w' => ∃ (s : Bool) (p : Option Addr) (l c : Nat) (q : Option Addr) (k d : Nat) (s2 : Bool) (p2 : Option Addr) (l2 c2 : Nat) (q2 : Option Addr) (k2 d2 : Nat), e = .returned (.agg #[.bool true, .int .i64 i, .bool s, .slice p l c, .slice q k d, .int .i64 j, .bool s2, .slice p2 l2 c2, .slice q2 k2 d2]) ∧ True ∧ True ∧ Kp W w') (hO2 : ∀ W : World, Kp w W → Calls Try.prog 19 #[.agg #[.int .u64 Z, .int .u64 U]] W fun e w' => ∃ (s5 : Bool) (p5 : Option Addr) (l5 c5 : Nat) (q5 : Option Addr) (k5 d5 : Nat) (s6 : Bool) (p6 : Option Addr) (l6 c6 : Nat) (q6 : Option Addr) (k6 d6 : Nat), e = .returned (.agg #[.bool N2, .int .i64 i2, .bool s5, .slice p5 l5 c5, .slice q5 k5 d5, .int .i64 j2, .bool s6, .slice p6 l6 c6, .slice q6 k6 d6]) ∧ True ∧ True ∧ Kp W w') (hE : ∀ w : World, Calls Try.prog 21 #[] w fun e w' => e = .returned (.agg #[.int .u64 9218868437227405312, .int .u64 18442240474082181120]) ∧ Kp w w') : Calls Try.prog 11 #[.agg #[.int .u64 X, .int .u64 Y], .agg #[.int .u64 Z, .int .u64 U]] w fun e w' => e = .returned (.agg #[.int .u64 9218868437227405312, .int .u64 18442240474082181120]) ∧ Kp w w' := by
  go_enter Try.func11, Try.ntmps11
  go_wp2_with (first | (go_at_call_of 19 (Value.agg #[.int .u64 X, .int .u64 Y]); refine (hO1 _ ((((Kp.refl w).alloc _).alloc _).alloc _)).mono ?_; rintro e w1 ⟨s, p, l, c, q, k, d, s2, p2, l2, c2, q2, k2, d2, rfl, hp1, hp2, g1⟩; have k1 : Kp w w1 := Kp.trans ((((Kp.refl w).alloc _).alloc _).alloc _) g1; have b0 := kkeep g1 (b := w.heap.size + 1) (o := 0) (v := .int .u64 Z) (by simp [go_sem]); have b1 := kkeep g1 (b := w.heap.size + 1) (o := 1) (v := .int .u64 U) (by simp [go_sem]); have ba0 := fun o => kkeep ((Kp.refl w1).alloc o) b0; have ba1 := fun o => kkeep ((Kp.refl w1).alloc o) b1; have r0 := kkeep g1 (b := w.heap.size + 2) (o := 0) (v := .int .u64 0) (by simp [go_sem]); have rz0 : w1.frozen? ⟨w.heap.size + 2, 0, none⟩ = false := (kfro g1 (by simp <;> omega)).trans (by simp [go_sem]); have r1 := kkeep g1 (b := w.heap.size + 2) (o := 1) (v := .int .u64 0) (by simp [go_sem]); have rz1 : w1.frozen? ⟨w.heap.size + 2, 1, none⟩ = false := (kfro g1 (by simp <;> omega)).trans (by simp [go_sem])) | (go_at_call_of 19 (Value.agg #[.int .u64 Z, .int .u64 U]); refine (hO2 _ (Kp.trans k1 ((Kp.refl w1).alloc _))).mono ?_; rintro e w2 ⟨s5, p5, l5, c5, q5, k5, d5, s6, p6, l6, c6, q6, k6, d6, rfl, hp5, hp6, g2⟩; have kk2 : Kp w w2 := Kp.trans (Kp.trans k1 ((Kp.refl w1).alloc _)) g2; have hl2 : w1.heap.size < w2.heap.size := Nat.lt_of_lt_of_le (by simp) (Below.size g2); have x0 := kkeep g2 (b := w1.heap.size) (o := 0) (v := .bool true) (by simp [go_sem]); have xz0 : w2.frozen? ⟨w1.heap.size, 0, none⟩ = false := (kfro g2 (by simp <;> omega)).trans (by simp [go_sem]); have x1 := kkeep g2 (b := w1.heap.size) (o := 1) (v := .int .i64 i) (by simp [go_sem]); have xz1 : w2.frozen? ⟨w1.heap.size, 1, none⟩ = false := (kfro g2 (by simp <;> omega)).trans (by simp [go_sem]); have x2 := kkeep g2 (b := w1.heap.size) (o := 2) (v := .bool s) (by simp [go_sem]); have xz2 : w2.frozen? ⟨w1.heap.size, 2, none⟩ = false := (kfro g2 (by simp <;> omega)).trans (by simp [go_sem]); have x3 := kkeep g2 (b := w1.heap.size) (o := 3) (v := .slice p l c) (by simp [go_sem]); have xz3 : w2.frozen? ⟨w1.heap.size, 3, none⟩ = false := (kfro g2 (by simp <;> omega)).trans (by simp [go_sem]); have x4 := kkeep g2 (b := w1.heap.size) (o := 4) (v := .slice q k d) (by simp [go_sem]); have xz4 : w2.frozen? ⟨w1.heap.size, 4, none⟩ = false := (kfro g2 (by simp <;> omega)).trans (by simp [go_sem]); have x5 := kkeep g2 (b := w1.heap.size) (o := 5) (v := .int .i64 j) (by simp [go_sem]); have xz5 : w2.frozen? ⟨w1.heap.size, 5, none⟩ = false := (kfro g2 (by simp <;> omega)).trans (by simp [go_sem]); have x6 := kkeep g2 (b := w1.heap.size) (o := 6) (v := .bool s2) (by simp [go_sem]); have xz6 : w2.frozen? ⟨w1.heap.size, 6, none⟩ = false := (kfro g2 (by simp <;> omega)).trans (by simp [go_sem]); have x7 := kkeep g2 (b := w1.heap.size) (o := 7) (v := .slice p2 l2 c2) (by simp [go_sem]); have xz7 : w2.frozen? ⟨w1.heap.size, 7, none⟩ = false := (kfro g2 (by simp <;> omega)).trans (by simp [go_sem]); have x8 := kkeep g2 (b := w1.heap.size) (o := 8) (v := .slice q2 k2 d2) (by simp [go_sem]); have xz8 : w2.frozen? ⟨w1.heap.size, 8, none⟩ = false := (kfro g2 (by simp <;> omega)).trans (by simp [go_sem]); have R0 := kkeep g2 (kkeep ((Kp.refl w1).alloc _) r0); have Rz0 : w2.frozen? ⟨w.heap.size + 2, 0, none⟩ = false := (kfro g2 (cell_lt (kkeep ((Kp.refl w1).alloc _) r0))).trans ((kfro ((Kp.refl w1).alloc _) (cell_lt r0)).trans rz0); have R1 := kkeep g2 (kkeep ((Kp.refl w1).alloc _) r1); have Rz1 : w2.frozen? ⟨w.heap.size + 2, 1, none⟩ = false := (kfro g2 (cell_lt (kkeep ((Kp.refl w1).alloc _) r1))).trans ((kfro ((Kp.refl w1).alloc _) (cell_lt r1)).trans rz1)) | (go_at_call 21; refine (hE _).mono ?_; rintro e w3 ⟨rfl, g3⟩; have y0 := kkeep g3 (kkeep ((Kp.refl w2).alloc _) R0); have y1 := kkeep g3 (kkeep ((Kp.refl w2).alloc _) R1); have yz0 : w3.frozen? ⟨w.heap.size + 2, 0, none⟩ = false := (kfro g3 (cell_lt (kkeep ((Kp.refl w2).alloc _) R0))).trans ((kfro ((Kp.refl w2).alloc _) (cell_lt R0)).trans Rz0); have yz1 : w3.frozen? ⟨w.heap.size + 2, 1, none⟩ = false := (kfro g3 (cell_lt (kkeep ((Kp.refl w2).alloc _) R1))).trans ((kfro ((Kp.refl w2).alloc _) (cell_lt R1)).trans Rz1); have k3 : Kp w w3 := Kp.trans (Kp.trans kk2 ((Kp.refl w2).alloc _)) g3))
  exact bodyPost_ret (v := .agg #[.int .u64 9218868437227405312, .int .u64 18442240474082181120]) (by simp [results, Try.results11, go_sem, y0, y1]) rfl ⟨rfl, (k3.setCell (by simp <;> omega) _).setCell (by simp <;> omega) _⟩
set_option maxRecDepth 20000 in
set_option maxHeartbeats 2000000 in
theorem rmaxE2_ (X Y Z U i j i2 j2 : Int) (w : World) (hO1 : ∀ W : World, Kp w W → Calls Try.prog 19 #[.agg #[.int .u64 X, .int .u64 Y]] W fun e w' => ∃ (s : Bool) (p : Option Addr) (l c : Nat) (q : Option Addr) (k d : Nat) (s2 : Bool) (p2 : Option Addr) (l2 c2 : Nat) (q2 : Option Addr) (k2 d2 : Nat), e = .returned (.agg #[.bool false, .int .i64 i, .bool s, .slice p l c, .slice q k d, .int .i64 j, .bool s2, .slice p2 l2 c2, .slice q2 k2 d2]) ∧ True ∧ True ∧ Kp W w') (hO2 : ∀ W : World, Kp w W → Calls Try.prog 19 #[.agg #[.int .u64 Z, .int .u64 U]] W fun e w' => ∃ (s5 : Bool) (p5 : Option Addr) (l5 c5 : Nat) (q5 : Option Addr) (k5 d5 : Nat) (s6 : Bool) (p6 : Option Addr) (l6 c6 : Nat) (q6 : Option Addr) (k6 d6 : Nat), e = .returned (.agg #[.bool true, .int .i64 i2, .bool s5, .slice p5 l5 c5, .slice q5 k5 d5, .int .i64 j2, .bool s6, .slice p6 l6 c6, .slice q6 k6 d6]) ∧ True ∧ True ∧ Kp W w') (hE : ∀ w : World, Calls Try.prog 21 #[] w fun e w' => e = .returned (.agg #[.int .u64 9218868437227405312, .int .u64 18442240474082181120]) ∧ Kp w w') : Calls Try.prog 11 #[.agg #[.int .u64 X, .int .u64 Y], .agg #[.int .u64 Z, .int .u64 U]] w fun e w' => e = .returned (.agg #[.int .u64 9218868437227405312, .int .u64 18442240474082181120]) ∧ Kp w w' := by
  go_enter Try.func11, Try.ntmps11
  go_wp2_with (first | (go_at_call_of 19 (Value.agg #[.int .u64 X, .int .u64 Y]); refine (hO1 _ ((((Kp.refl w).alloc _).alloc _).alloc _)).mono ?_; rintro e w1 ⟨s, p, l, c, q, k, d, s2, p2, l2, c2, q2, k2, d2, rfl, hp1, hp2, g1⟩; have k1 : Kp w w1 := Kp.trans ((((Kp.refl w).alloc _).alloc _).alloc _) g1; have b0 := kkeep g1 (b := w.heap.size + 1) (o := 0) (v := .int .u64 Z) (by simp [go_sem]); have b1 := kkeep g1 (b := w.heap.size + 1) (o := 1) (v := .int .u64 U) (by simp [go_sem]); have ba0 := fun o => kkeep ((Kp.refl w1).alloc o) b0; have ba1 := fun o => kkeep ((Kp.refl w1).alloc o) b1; have r0 := kkeep g1 (b := w.heap.size + 2) (o := 0) (v := .int .u64 0) (by simp [go_sem]); have rz0 : w1.frozen? ⟨w.heap.size + 2, 0, none⟩ = false := (kfro g1 (by simp <;> omega)).trans (by simp [go_sem]); have r1 := kkeep g1 (b := w.heap.size + 2) (o := 1) (v := .int .u64 0) (by simp [go_sem]); have rz1 : w1.frozen? ⟨w.heap.size + 2, 1, none⟩ = false := (kfro g1 (by simp <;> omega)).trans (by simp [go_sem])) | (go_at_call_of 19 (Value.agg #[.int .u64 Z, .int .u64 U]); refine (hO2 _ (Kp.trans k1 ((Kp.refl w1).alloc _))).mono ?_; rintro e w2 ⟨s5, p5, l5, c5, q5, k5, d5, s6, p6, l6, c6, q6, k6, d6, rfl, hp5, hp6, g2⟩; have kk2 : Kp w w2 := Kp.trans (Kp.trans k1 ((Kp.refl w1).alloc _)) g2; have hl2 : w1.heap.size < w2.heap.size := Nat.lt_of_lt_of_le (by simp) (Below.size g2); have x0 := kkeep g2 (b := w1.heap.size) (o := 0) (v := .bool false) (by simp [go_sem]); have xz0 : w2.frozen? ⟨w1.heap.size, 0, none⟩ = false := (kfro g2 (by simp <;> omega)).trans (by simp [go_sem]); have x1 := kkeep g2 (b := w1.heap.size) (o := 1) (v := .int .i64 i) (by simp [go_sem]); have xz1 : w2.frozen? ⟨w1.heap.size, 1, none⟩ = false := (kfro g2 (by simp <;> omega)).trans (by simp [go_sem]); have x2 := kkeep g2 (b := w1.heap.size) (o := 2) (v := .bool s) (by simp [go_sem]); have xz2 : w2.frozen? ⟨w1.heap.size, 2, none⟩ = false := (kfro g2 (by simp <;> omega)).trans (by simp [go_sem]); have x3 := kkeep g2 (b := w1.heap.size) (o := 3) (v := .slice p l c) (by simp [go_sem]); have xz3 : w2.frozen? ⟨w1.heap.size, 3, none⟩ = false := (kfro g2 (by simp <;> omega)).trans (by simp [go_sem]); have x4 := kkeep g2 (b := w1.heap.size) (o := 4) (v := .slice q k d) (by simp [go_sem]); have xz4 : w2.frozen? ⟨w1.heap.size, 4, none⟩ = false := (kfro g2 (by simp <;> omega)).trans (by simp [go_sem]); have x5 := kkeep g2 (b := w1.heap.size) (o := 5) (v := .int .i64 j) (by simp [go_sem]); have xz5 : w2.frozen? ⟨w1.heap.size, 5, none⟩ = false := (kfro g2 (by simp <;> omega)).trans (by simp [go_sem]); have x6 := kkeep g2 (b := w1.heap.size) (o := 6) (v := .bool s2) (by simp [go_sem]); have xz6 : w2.frozen? ⟨w1.heap.size, 6, none⟩ = false := (kfro g2 (by simp <;> omega)).trans (by simp [go_sem]); have x7 := kkeep g2 (b := w1.heap.size) (o := 7) (v := .slice p2 l2 c2) (by simp [go_sem]); have xz7 : w2.frozen? ⟨w1.heap.size, 7, none⟩ = false := (kfro g2 (by simp <;> omega)).trans (by simp [go_sem]); have x8 := kkeep g2 (b := w1.heap.size) (o := 8) (v := .slice q2 k2 d2) (by simp [go_sem]); have xz8 : w2.frozen? ⟨w1.heap.size, 8, none⟩ = false := (kfro g2 (by simp <;> omega)).trans (by simp [go_sem]); have R0 := kkeep g2 (kkeep ((Kp.refl w1).alloc _) r0); have Rz0 : w2.frozen? ⟨w.heap.size + 2, 0, none⟩ = false := (kfro g2 (cell_lt (kkeep ((Kp.refl w1).alloc _) r0))).trans ((kfro ((Kp.refl w1).alloc _) (cell_lt r0)).trans rz0); have R1 := kkeep g2 (kkeep ((Kp.refl w1).alloc _) r1); have Rz1 : w2.frozen? ⟨w.heap.size + 2, 1, none⟩ = false := (kfro g2 (cell_lt (kkeep ((Kp.refl w1).alloc _) r1))).trans ((kfro ((Kp.refl w1).alloc _) (cell_lt r1)).trans rz1)) | (go_at_call 21; refine (hE _).mono ?_; rintro e w3 ⟨rfl, g3⟩; have y0 := kkeep g3 (kkeep ((Kp.refl w2).alloc _) R0); have y1 := kkeep g3 (kkeep ((Kp.refl w2).alloc _) R1); have yz0 : w3.frozen? ⟨w.heap.size + 2, 0, none⟩ = false := (kfro g3 (cell_lt (kkeep ((Kp.refl w2).alloc _) R0))).trans ((kfro ((Kp.refl w2).alloc _) (cell_lt R0)).trans Rz0); have yz1 : w3.frozen? ⟨w.heap.size + 2, 1, none⟩ = false := (kfro g3 (cell_lt (kkeep ((Kp.refl w2).alloc _) R1))).trans ((kfro ((Kp.refl w2).alloc _) (cell_lt R1)).trans Rz1); have k3 : Kp w w3 := Kp.trans (Kp.trans kk2 ((Kp.refl w2).alloc _)) g3))
  exact bodyPost_ret (v := .agg #[.int .u64 9218868437227405312, .int .u64 18442240474082181120]) (by simp [results, Try.results11, go_sem, y0, y1]) rfl ⟨rfl, (k3.setCell (by simp <;> omega) _).setCell (by simp <;> omega) _⟩
end Go.Proofs.Ytflhcnmbondpnaa
