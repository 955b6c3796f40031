import Derived.Test.YtnjlcfpkhgmjeaaGreatDoorKMR7Q
import Derived.Test.YtnjlcfpkhgmjeaaGreatDoorKNF
namespace Go.Proofs.YtnjlcfpkhgmjeaaGreatDoor
open Go.RowKit
theorem noTop (n : Bool) (m X : Nat) (hm : m < 9223372036854775808) (hX : X = Fq.wD n m) : bits BinOp.andNot IntKind.u64 (X : Int) 9223372036854775808 = (m : Int) ∧ X < 18446744073709551616 := by
  have hX9 : X < 18446744073709551616 := by rw [hX]; unfold Fq.wD; split <;> omega
  have h := u64_andNot_nat X 9223372036854775808 hX9 (by decide)
  have e : X % 9223372036854775808 = m := by rw [hX]; unfold Fq.wD; split <;> omega
  rw [show 18446744073709551615 - 9223372036854775808 = 2 ^ 63 - 1 from by decide, Nat.and_two_pow_sub_one_eq_mod, show (2 : Nat) ^ 63 = 9223372036854775808 from by decide, e] at h
  exact ⟨h, hX9⟩
set_option maxRecDepth 20000 in
set_option maxHeartbeats 400000 in
theorem abs_ (n : Bool) (m : Nat) (hm : m < 9223372036854775808) (w : World) : Calls Tryz.prog 59 #[.float .f64 (Fq.wD n m)] w fun e w' => e = .returned (.float .f64 m) ∧ w' = w := by
  obtain ⟨X, hX⟩ : ∃ X, X = Fq.wD n m := ⟨_, rfl⟩
  have f1 := (noTop n m X hm hX).1
  rw [← hX]
  clear hX hm
  have h1 := Fq.fb64 X
  have h2 := Fq.ff64 m
  go_enter Tryz.func59, Tryz.ntmps59
  go_wp2
  exact bodyPost_ret (v := .float .f64 m) (by simp [results, Tryz.results59, go_sem]) rfl ⟨rfl, rfl⟩
open Ieee in
theorem fin_order (m : Nat) (hm : m < 9223372036854775808) : (FloatKind.f64.format.order m 9218868437227405311 == some Ordering.lt || FloatKind.f64.format.order m 9218868437227405311 == some Ordering.eq) = decide (m < 9218868437227405312) := by
  have hf : FloatKind.f64.format = double := rfl
  have hi : double.infRung = 9218868437227405312 := by decide +kernel
  have hw : double.signWeight = 9223372036854775808 := by decide +kernel
  have hb : double.binade ≤ double.infRung := by decide +kernel
  have r1 : Fq.rg double m = m := by unfold Fq.rg; rw [hw]; exact Nat.mod_eq_of_lt hm
  have r2 : Fq.rg double 9218868437227405311 = 9218868437227405311 := by unfold Fq.rg; rw [hw]
  have p1 : Fq.pl double m = (m : Int) := by
    unfold Fq.pl Fq.ng
    rw [r1, hw, Nat.div_eq_of_lt hm]; rfl
  have p2 : Fq.pl double 9218868437227405311 = 9218868437227405311 := by
    unfold Fq.pl Fq.ng
    rw [r2, hw]; rfl
  rw [hf]
  by_cases c : m ≤ 9218868437227405312
  · rw [Fq.order_num double m 9218868437227405311 hb (by rw [r1, hi]; exact c) (by rw [r2, hi]; decide), p1, p2]
    by_cases c1 : m < 9218868437227405312
    · rw [decide_eq_true c1]
      by_cases c2 : m = 9218868437227405311
      · rw [c2]; rfl
      · rw [show compare (m : Int) 9218868437227405311 = Ordering.lt from by rw [Int.compare_eq_lt]; omega]; rfl
    · rw [decide_eq_false c1, show compare (m : Int) 9218868437227405311 = Ordering.gt from by rw [Int.compare_eq_gt]; omega]; rfl
  · rw [Fq.order_nan_left double m 9218868437227405311 hb (by rw [r1, hi]; omega), decide_eq_false (by omega)]; rfl
set_option maxRecDepth 20000 in
set_option maxHeartbeats 400000 in
theorem finite_ (n : Bool) (m : Nat) (hm : m < 9223372036854775808) (w : World) : Calls Tryz.prog 31 #[.float .f64 (Fq.wD n m)] w fun e w' => e = .returned (.bool (decide (m < 9218868437227405312))) ∧ w' = w := by
  have h := abs_ n m hm w
  obtain ⟨X, hX⟩ : ∃ X, X = Fq.wD n m := ⟨_, rfl⟩
  rw [← hX] at h ⊢
  clear hX
  go_enter Tryz.func31, Tryz.ntmps31
  go_wp2_with fail
  refine h.mono ?_; rintro e w' ⟨rfl, hw'⟩; obtain rfl := hw'.symm; clear h hw'
  go_wp2
  exact bodyPost_ret (v := .bool (decide (m < 9218868437227405312))) (by rw [← fin_order m hm]; simp [results, Tryz.results31, go_sem]) rfl ⟨rfl, rfl⟩
open Ieee in
theorem tame_order (m : Nat) (hm : m < 9223372036854775808) : (FloatKind.f64.format.order m 9110782046170513408 == some Ordering.lt || FloatKind.f64.format.order m 9110782046170513408 == some Ordering.eq) = decide (m ≤ 9110782046170513408) := by
  have hf : FloatKind.f64.format = double := rfl
  have hi : double.infRung = 9218868437227405312 := by decide +kernel
  have hw : double.signWeight = 9223372036854775808 := by decide +kernel
  have hb : double.binade ≤ double.infRung := by decide +kernel
  have r1 : Fq.rg double m = m := by unfold Fq.rg; rw [hw]; exact Nat.mod_eq_of_lt hm
  have r2 : Fq.rg double 9110782046170513408 = 9110782046170513408 := by unfold Fq.rg; rw [hw]
  have p1 : Fq.pl double m = (m : Int) := by
    unfold Fq.pl Fq.ng
    rw [r1, hw, Nat.div_eq_of_lt hm]; rfl
  have p2 : Fq.pl double 9110782046170513408 = 9110782046170513408 := by
    unfold Fq.pl Fq.ng
    rw [r2, hw]; rfl
  rw [hf]
  by_cases c : m ≤ 9218868437227405312
  · rw [Fq.order_num double m 9110782046170513408 hb (by rw [r1, hi]; exact c) (by rw [r2, hi]; decide), p1, p2]
    by_cases c1 : m ≤ 9110782046170513408
    · rw [decide_eq_true c1]
      by_cases c2 : m = 9110782046170513408
      · rw [c2]; rfl
      · rw [show compare (m : Int) 9110782046170513408 = Ordering.lt from by rw [Int.compare_eq_lt]; omega]; rfl
    · rw [decide_eq_false c1, show compare (m : Int) 9110782046170513408 = Ordering.gt from by rw [Int.compare_eq_gt]; omega]; rfl
  · rw [Fq.order_nan_left double m 9110782046170513408 hb (by rw [r1, hi]; omega), decide_eq_false (by omega)]; rfl
set_option maxRecDepth 20000 in
set_option maxHeartbeats 400000 in
theorem tame_ (n : Bool) (m : Nat) (hm : m < 9223372036854775808) (w : World) : Calls Tryz.prog 28 #[.float .f64 (Fq.wD n m)] w fun e w' => e = .returned (.bool (decide (m ≤ 9110782046170513408))) ∧ w' = w := by
  have h := abs_ n m hm w
  obtain ⟨X, hX⟩ : ∃ X, X = Fq.wD n m := ⟨_, rfl⟩
  rw [← hX] at h ⊢
  clear hX
  go_enter Tryz.func28, Tryz.ntmps28
  go_wp2_with fail
  refine h.mono ?_; rintro e w' ⟨rfl, hw'⟩; obtain rfl := hw'.symm; clear h hw'
  go_wp2
  exact bodyPost_ret (v := .bool (decide (m ≤ 9110782046170513408))) (by rw [← tame_order m hm]; simp [results, Tryz.results28, go_sem]) rfl ⟨rfl, rfl⟩
theorem kfro {W w : World} {b o : Nat} (g : Kp W w) (h : b < W.heap.size) : w.frozen? ⟨b, o, none⟩ = W.frozen? ⟨b, o, none⟩ := World.frozen?_of_block (w := W) (Below.block g b h)
set_option maxRecDepth 20000 in
set_option maxHeartbeats 400000 in
theorem tz0_ (w : World) : Calls Tryz.prog 62 #[.int .u64 0] w fun e w' => e = .returned (.int .i64 64) ∧ w' = w := by
  go_enter Tryz.func62, Tryz.ntmps62
  go_wp2
  exact bodyPost_ret (v := .int .i64 64) (by simp [results, Tryz.results62, go_sem]) rfl ⟨rfl, rfl⟩
set_option maxRecDepth 20000 in
set_option maxHeartbeats 1000000 in
theorem take_ (n : Bool) (m : Nat) (hm : m < 9218868437227405312) :
    ∃ (a : Nat) (ex : Int), a * 2 ^ (ex + 1074).toNat = Fq.vV Ieee.double m ∧ -1074 ≤ ex ∧ ex ≤ 2048 ∧ a < 9007199254740992 ∧ ∀ w : World, Fq.Tab w → Calls Tryz.prog 32 #[.float .f64 (Fq.wD n m)] w fun e w' => ∃ v, e = .returned (.agg #[.bool (n && !(m == 0)), v, .int .i64 ex]) ∧ Ls w' v (dig a) ∧ Kp w w' := by
  obtain ⟨v1, v2, v3, v4, v5⟩ := Fq.vlsgD m hm
  obtain ⟨X, hX⟩ : ∃ X, X = Fq.wD n m := ⟨_, rfl⟩
  obtain ⟨sg, hsg⟩ : ∃ sg, sg = Fq.sgD m := ⟨_, rfl⟩
  obtain ⟨ep, hep⟩ : ∃ ep, ep = Fq.epD m := ⟨_, rfl⟩
  obtain ⟨nn, hnn⟩ : ∃ nn : Bool, nn = (n && !(m == 0)) := ⟨_, rfl⟩
  rw [← hsg, ← hep] at v1
  rw [← hsg] at v2 v3
  rw [← hep] at v4 v5
  -- the odd part and its zeros
  obtain ⟨a, k, hk, hka, htz, hsh, ha⟩ : ∃ a k : Nat, a * 2 ^ (ep + (k : Int) + 1074).toNat = Fq.vV Ieee.double m ∧ k ≤ 64 ∧ (∀ w1, Fq.Tab w1 → Calls Tryz.prog 62 #[.int .u64 (sg : Int)] w1 fun e w' => e = .returned (.int .i64 (k : Int)) ∧ w' = w1) ∧ (sg : Int) / 2 ^ min k 64 = (a : Int) ∧ a < 9007199254740992 := by
    by_cases c : sg = 0
    · refine ⟨0, 64, ?_, by omega, ?_, by rw [c]; simp, by omega⟩
      · have e : Fq.vV Ieee.double m = Fq.vlD m := rfl
        rw [e, ← v1, c]; simp
      · intro w1 _
        rw [c]; exact tz0_ w1
    · obtain ⟨o, o1, o2, o3, o4⟩ := ctz_odd sg c
      have hcl : blen sg ≤ 53 := by rw [blen_le_iff, show (2 : Nat) ^ 53 = 9007199254740992 from by decide]; exact v2
      refine ⟨o, ctz sg, ?_, by omega, ?_, ?_, ?_⟩
      · have e : Fq.vV Ieee.double m = Fq.vlD m := rfl
        rw [e, ← v1, show (ep + ((ctz sg : Nat) : Int) + 1074).toNat = ctz sg + (ep + 1074).toNat from by omega, Nat.pow_add, ← Nat.mul_assoc, ← o2]
      · intro w1 t1
        have h := Fq.tz_ o (ctz sg) o1 (by rw [← o2]; omega) w1 t1
        rw [← o2] at h
        exact h
      · rw [Nat.min_eq_left (by omega)]
        have : ((sg / 2 ^ ctz sg : Nat) : Int) = (o : Int) := by rw [o3]
        rw [← this, Int.natCast_ediv, castpow]
      · have := Nat.div_le_self sg (2 ^ ctz sg); omega
  refine ⟨a, ep + (k : Int), hk, by omega, by omega, ha, fun w hQ => ?_⟩
  obtain ⟨w0, hw0⟩ : ∃ w0, w0 = w.alloc (.cells #[.bool false, .slice none 0 0, .int .i64 0] 61) := ⟨_, rfl⟩
  obtain ⟨B, hB⟩ : ∃ B, B = w.heap.size := ⟨_, rfl⟩
  have hk0 : Kp w w0 := by rw [hw0]; exact (Kp.refl w).alloc _
  have hsp := Fq.split_d n m hm w0
  rw [← hX, ← hsg, ← hep, ← hnn] at hsp
  rw [← hX, ← hnn]
  rw [Nat.min_eq_left hka] at hsh
  have hsm := fun w1 => nsmall_ a (by omega) w1
  have htz2 := fun w1 (kk : Kp w0 w1) => htz w1 (Fq.Tab.grown hQ (hk0.trans kk))
  have hal : ∀ w1, Kp w0 w1 → True := fun _ _ => trivial
  have e0 : w0.cell? ⟨B, 0, none⟩ = some (.bool false) := by rw [hw0, hB]; simp [go_sem]
  have e1 : w0.cell? ⟨B, 1, none⟩ = some (.slice none 0 0) := by rw [hw0, hB]; simp [go_sem]
  have e2 : w0.cell? ⟨B, 2, none⟩ = some (.int .i64 0) := by rw [hw0, hB]; simp [go_sem]
  have f0 : w0.frozen? ⟨B, 0, none⟩ = false := by rw [hw0, hB]; simp [go_sem]
  have f1 : w0.frozen? ⟨B, 1, none⟩ = false := by rw [hw0, hB]; simp [go_sem]
  have f2 : w0.frozen? ⟨B, 2, none⟩ = false := by rw [hw0, hB]; simp [go_sem]
  have hlt := cell_lt e0
  have hep1 : -1074 ≤ ep := v4
  have hep2 : ep ≤ 971 := v5
  have HW : Hid (w0 = w.alloc (.cells #[.bool false, .slice none 0 0, .int .i64 0] 61) ∧ B = w.heap.size ∧ Kp w w0) := ⟨hw0, hB, hk0⟩
  clear hal v1 v2 v3 v4 v5 hX hsg hep hnn hw0 hB hk0 htz hQ hk ha hm
  go_enter Tryz.func32, Tryz.ntmps32
  go_wp2_with fail
  rw [← HW.out.1, ← HW.out.2.1]
  refine hsp.mono ?_; rintro e w1 ⟨rfl, k1⟩
  have k1' : Kp w0 w1 := k1
  have htz3 := htz2 w1 k1'
  clear hsp htz2 k1
  go_wp2_with fail
  refine htz3.mono ?_; rintro e w' ⟨rfl, hw'⟩; obtain rfl := hw'.symm; clear hw' htz3
  have hs2 := hsm w1
  clear hsm
  go_wp2_with fail
  try rw [hsh]
  refine hs2.mono ?_; rintro e w2 ⟨v, rfl, ho, k2⟩
  have hls := ho.ls
  obtain ⟨pv, cv, rfl, hav, hcv⟩ := ho.arr
  have k02 := k1'.trans k2
  have hlt2 := ho.lt
  replace e0 := kkeep k02 e0
  replace e1 := kkeep k02 e1
  replace e2 := kkeep k02 e2
  replace f0 := (kfro k02 hlt).trans f0
  replace f1 := (kfro k02 hlt).trans f1
  replace f2 := (kfro k02 hlt).trans f2
  have hks := Below.size k1'
  obtain ⟨L, hL⟩ : ∃ L, L = (dig a).length := ⟨_, rfl⟩
  rw [← hL]
  have HO : Hid (Own w2 w1.heap.size (.slice pv (dig a).length cv) (dig a) ∧ L = (dig a).length ∧ Kp w0 w2 ∧ B < w1.heap.size) := ⟨ho, hL, k02, by omega⟩
  clear hs2 ho hls hav hcv k1' k2 k02 hlt2 hL hks
  go_wp2
  obtain ⟨ho, hL, k02, hBl⟩ := HO.out
  have kb : Kb B w2 (((w2.setCell ⟨B, 0, none⟩ (.bool nn)).setCell ⟨B, 1, none⟩ (.slice pv L cv)).setCell ⟨B, 2, none⟩ (.int .i64 (ep + (k : Int)))) := (((Kb.refl B w2).setCell 0 _).setCell 1 _).setCell 2 _
  have ho2 := ho.kb kb (fun g hg => by have := ho.lt g hg; omega)
  have hls := ho2.ls
  rw [← hL] at hls
  have hkw : Kp w (((w2.setCell ⟨B, 0, none⟩ (.bool nn)).setCell ⟨B, 1, none⟩ (.slice pv L cv)).setCell ⟨B, 2, none⟩ (.int .i64 (ep + (k : Int)))) := kb.kp (HW.out.2.2.trans k02) (by rw [HW.out.2.1]; exact Nat.le_refl _)
  exact bodyPost_ret (v := .agg #[.bool nn, .slice pv L cv, .int .i64 (ep + (k : Int))]) (by simp [results, Tryz.results32, go_sem, e0, e1, e2]) rfl ⟨_, rfl, hls, hkw⟩
end Go.Proofs.YtnjlcfpkhgmjeaaGreatDoor
