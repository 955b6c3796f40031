import Derived.Test.YtbbmoaiilnfmgaaKEA
import Derived.Test.YtbbmoaiilnfmgaaKEKF
import Derived.Test.YtbbmoaiilnfmgaaKMR30
namespace Go.Proofs.Ytbbmoaiilnfmgaa
open Go.RowKit

def RF (s : Bool) (a b : Nat) (n : Bool) (m : Nat) : Prop := ∀ K : Nat, K = 1074 → b ≠ 0 ∧ a * 2 ^ K = Fq.vV Ieee.double m * b ∧ Iv n m = (if s then -((Fq.vV Ieee.double m : Nat) : Int) else ((Fq.vV Ieee.double m : Nat) : Int)) ∧ blen a ≤ 1500 ∧ blen b ≤ 1500
def RP (base : Nat) (w : World) (s : Bool) (p : Option Addr) (l c : Nat) (q : Option Addr) (k d : Nat) (n : Bool) (m : Nat) : Prop := ∃ a b, Own w base (.slice p l c) (dig a) ∧ Own w base (.slice q k d) (dig b) ∧ RF s a b n m
theorem RP.kp {base : Nat} {w w' : World} {s : Bool} {p : Option Addr} {l c : Nat} {q : Option Addr} {k d : Nat} {n : Bool} {m : Nat} (h : RP base w s p l c q k d n m) (g : Kp w w') : RP base w' s p l c q k d n m := by
  obtain ⟨a, b, h1, h2, h3⟩ := h
  exact ⟨a, b, h1.kp g, h2.kp g, h3⟩
theorem RP.mono {base base' : Nat} {w : World} {s : Bool} {p : Option Addr} {l c : Nat} {q : Option Addr} {k d : Nat} {n : Bool} {m : Nat} (h : RP base w s p l c q k d n m) (g : base' ≤ base) : RP base' w s p l c q k d n m := by
  obtain ⟨a, b, h1, h2, h3⟩ := h
  exact ⟨a, b, h1.mono g, h2.mono g, h3⟩
theorem RP.set {base : Nat} {w : World} {s : Bool} {p : Option Addr} {l c : Nat} {q : Option Addr} {k d : Nat} {n : Bool} {m : Nat} (h : RP base w s p l c q k d n m) {x : Addr} (hx : x.block < base) (u : Value) : RP base (w.setCell x u) s p l c q k d n m := by
  obtain ⟨a, b, h1, h2, h3⟩ := h
  exact ⟨a, b, h1.setOther hx u, h2.setOther hx u, h3⟩
theorem fromR_ (n : Bool) (m : Nat) (hm : m < 9218868437227405312) (w : World) : Calls Try.prog 44 #[.int .u64 ((Fq.wD n m : Nat) : Int)] w fun e w' => ∃ (s : Bool) (p : Option Addr) (l c : Nat) (q : Option Addr) (k d : Nat), e = .returned (.agg #[.bool s, .slice p l c, .slice q k d]) ∧ RP w.heap.size w' s p l c q k d n m ∧ Kp w w' := by
  have h := fromBits_ n m hm w
  refine Calls.mono (show Calls Try.prog 44 #[.int .u64 ((Fq.wD n m : Nat) : Int)] w _ from h) ?_
  rintro e w' ⟨vn, vd, a, b, s, rfl, o1, o2, ⟨hF, hs⟩, g⟩
  obtain ⟨p, c, rfl, -, -⟩ := o1.arr
  obtain ⟨q, d, rfl, -, -⟩ := o2.arr
  obtain ⟨v1, v2, v3, v4, v5⟩ := Fq.vlsgD m hm
  have hF' : FracOf (Fq.sgD m) 1 (Fq.epD m) a b := hF
  have hs' : Fq.sgD m ≠ 0 → s = n := hs
  have hval : Fq.vV Ieee.double m = Fq.sgD m * 2 ^ (Fq.epD m + 1074).toNat := v1.symm
  refine ⟨s, p, _, c, q, _, d, rfl, ⟨a, b, o1, o2, fun K hK => ⟨hF'.1, ?_, ?_, ?_, ?_⟩⟩, g⟩
  · by_cases c0 : Fq.sgD m = 0
    · rw [hval, c0, hF'.2.1.2 c0]; simp
    · rw [hval]
      exact frac_exact (Fq.sgD m) (Fq.epD m) a b K (Fq.epD m + 1074).toNat hF' c0 (by omega)
  · unfold Iv
    by_cases c0 : Fq.sgD m = 0
    · have : Fq.vV Ieee.double m = 0 := by rw [hval, c0]; simp
      rw [this]; cases n <;> cases s <;> simp
    · rw [hs' c0]
  · have h1 := hF'.2.2.2.1
    have h2 : blen (Fq.sgD m) ≤ 53 := by rw [blen_le_iff, show (2 : Nat) ^ 53 = 9007199254740992 from by decide]; exact v2
    omega
  · have h1 := hF'.2.2.2.2
    have h2 : blen 1 = 1 := blen_uniq 1 0 (by decide) (by decide)
    omega
theorem dig_zero6 : dig 0 = [] := by decide +kernel
theorem dig_one6 : dig 1 = [1] := by decide +kernel
set_option maxRecDepth 20000 in
set_option maxHeartbeats 1000000 in
theorem int0_ (w : World) : Calls Try.prog 43 #[.int .i64 0] w fun e w' => ∃ (s : Bool) (p : Option Addr) (l c : Nat) (q : Option Addr) (k d : Nat), e = .returned (.agg #[.bool s, .slice p l c, .slice q k d]) ∧ RP w.heap.size w' s p l c q k d false 0 ∧ Kp w w' := by
  obtain ⟨B, hB⟩ : ∃ B, B = w.heap.size := ⟨_, rfl⟩
  obtain ⟨w0, hw0⟩ : ∃ w0, w0 = w.alloc (.cells #[.bool false, .slice none 0 0, .slice none 0 0] 38) := ⟨_, rfl⟩
  have kw : Kp w w0 := by rw [hw0]; exact (Kp.refl w).alloc _
  have r0 : w0.cell? ⟨B, 0, none⟩ = some (.bool false) := by rw [hw0, hB]; simp [go_sem]
  have r1 : w0.cell? ⟨B, 1, none⟩ = some (.slice none 0 0) := by rw [hw0, hB]; simp [go_sem]
  have r2 : w0.cell? ⟨B, 2, none⟩ = some (.slice none 0 0) := by rw [hw0, hB]; simp [go_sem]
  have f0 : w0.frozen? ⟨B, 0, none⟩ = false := by rw [hw0, hB]; simp [go_sem]
  have f1 : w0.frozen? ⟨B, 1, none⟩ = false := by rw [hw0, hB]; simp [go_sem]
  have f2 : w0.frozen? ⟨B, 2, none⟩ = false := by rw [hw0, hB]; simp [go_sem]
  have hlt := cell_lt r0
  have hs := rsmall_ 0 (by decide) w0
  have HW : Hid (w0 = w.alloc (.cells #[.bool false, .slice none 0 0, .slice none 0 0] 38) ∧ B = w.heap.size ∧ Kp w w0) := ⟨hw0, hB, kw⟩
  clear hw0 hB kw
  go_enter Try.func43, Try.ntmps43
  go_wp2_with fail
  rw [← HW.out.2.1]
  try rw [← HW.out.1]
  refine hs.mono ?_; rintro e w1 ⟨v, rfl, ho, k1⟩
  obtain ⟨pv, cv, rfl, hav, hcv⟩ := ho.arr
  obtain ⟨L, hL⟩ : ∃ L, L = (dig 0).length := ⟨_, rfl⟩
  rw [← hL]
  obtain ⟨g4, hg4⟩ : ∃ g4, g4 = w1.heap.size := ⟨_, rfl⟩
  obtain ⟨w4, hw4⟩ : ∃ w4, w4 = w1.alloc (.cells #[.int .u32 1] 67) := ⟨_, rfl⟩
  have k4 : Kp w1 w4 := by rw [hw4]; exact (Kp.refl _).alloc _
  have ar4 : Arr w4 (some ⟨g4, 0, none⟩) (dig 1) := by
    have h := (row1 w1 1).all rfl
    rw [← hw4, ← hg4] at h
    rw [dig_one6]
    exact h
  have h := frac_ false (.slice pv (dig 0).length cv) (.slice (some ⟨g4, 0, none⟩) (dig 1).length 1) (dig 0) (dig 1) 0 w4 ⟨pv, cv, rfl, hav.grown k4, hcv⟩ ⟨some ⟨g4, 0, none⟩, 1, rfl, ar4, by rw [dig_one6]; decide⟩ (Wd_dig _) (Wd_dig _) (by rw [dig_zero6]; decide) (by rw [dig_one6]; decide) (by rw [val_dig]; decide) (by decide)
  rw [val_dig, val_dig] at h
  rw [show (dig 1).length = 1 from by rw [dig_one6]; rfl] at h
  rw [← hL] at h
  have k04 := k1.trans k4
  have HG : Hid (g4 = w1.heap.size ∧ w4 = w1.alloc (.cells #[.int .u32 1] 67)) := ⟨hg4, hw4⟩
  replace r0 := kkeep k04 r0
  replace r1 := kkeep k04 r1
  replace r2 := kkeep k04 r2
  replace f0 := (kfro k04 hlt).trans f0
  replace f1 := (kfro k04 hlt).trans f1
  replace f2 := (kfro k04 hlt).trans f2
  have HK : Hid (Kp w0 w4 ∧ B < w0.heap.size) := ⟨k04, hlt⟩
  have hlt4 := cell_lt r0
  clear hs ho hav hcv hL hg4 hw4 k4 ar4 k1 k04 hlt
  go_wp2_with fail
  rw [← HG.out.1, ← HG.out.2]
  refine h.mono ?_; rintro e w5 ⟨vn, vd, a', b', ng, rfl, o1, o2, ff, k5⟩
  obtain ⟨pn, cn, rfl, an, ln⟩ := o1.arr
  obtain ⟨pd, cd, rfl, ad, ld⟩ := o2.arr
  replace r0 := kkeep k5 r0
  replace r1 := kkeep k5 r1
  replace r2 := kkeep k5 r2
  replace f0 := (kfro k5 hlt4).trans f0
  replace f1 := (kfro k5 hlt4).trans f1
  replace f2 := (kfro k5 hlt4).trans f2
  have hp : RP w4.heap.size w5 ng pn (dig a').length cn pd (dig b').length cd false 0 := by
    refine ⟨a', b', o1, o2, fun K hK => ⟨ff.1.1, ?_, ?_, ?_, ?_⟩⟩
    · rw [ff.1.2.1.2 rfl, Fq.vV_zero]; simp
    · unfold Iv; rw [Fq.vV_zero]; cases ng <;> rfl
    · have := ff.1.2.2.2.1; rw [ff.1.2.1.2 rfl]; rw [blen_zero]; omega
    · have := ff.1.2.2.2.2
      have h2 : blen 1 = 1 := blen_uniq 1 0 (by decide) (by decide)
      simp at this; omega
  have hq := (((hp.set (x := ⟨B, 0, none⟩) hlt4 (.bool ng)).set (x := ⟨B, 1, none⟩) hlt4 (.slice pn (dig a').length cn)).set (x := ⟨B, 2, none⟩) hlt4 (.slice pd (dig b').length cd)).mono (base' := w.heap.size) (by have h1 := Below.size HW.out.2.2; have h2 := Below.size HK.out.1; omega)
  have hkw : Kp w (((w5.setCell ⟨B, 0, none⟩ (.bool ng)).setCell ⟨B, 1, none⟩ (.slice pn (dig a').length cn)).setCell ⟨B, 2, none⟩ (.slice pd (dig b').length cd)) := by
    have hB := HW.out.2.1
    exact ((((HW.out.2.2.trans HK.out.1).trans k5).setCell (by rw [hB]; exact Nat.le_refl _) _).setCell (by rw [hB]; exact Nat.le_refl _) _).setCell (by rw [hB]; exact Nat.le_refl _) _
  generalize (dig a').length = La at hq hkw ⊢
  generalize (dig b').length = Lb at hq hkw ⊢
  have HO : Hid (_ ∧ _) := ⟨hq, hkw⟩
  clear h hp hq hkw o1 o2 ff k5 an ln ad ld hlt4 HG
  go_wp2
  exact bodyPost_ret (v := .agg #[.bool ng, .slice pn La cn, .slice pd Lb cd]) (by simp [results, Try.results43, go_sem, r0, r1, r2]) rfl ⟨ng, pn, La, cn, pd, Lb, cd, rfl, HO.out.1, HO.out.2⟩
set_option maxRecDepth 20000 in
set_option maxHeartbeats 1000000 in
theorem boundI_ (w : World) : Calls Try.prog 29 #[.int .u64 9218868437227405312] w fun e w' => ∃ (s : Bool) (p : Option Addr) (l c : Nat) (q : Option Addr) (k d : Nat), e = .returned (.agg #[.int .i64 1, .bool s, .slice p l c, .slice q k d]) ∧ RP w.heap.size w' s p l c q k d false 0 ∧ Kp w w' := by
  go_enter Try.func29, Try.ntmps29
  go_wp2_with (first | (go_at_call 43; refine (int0_ _).mono ?_; rintro e w1 ⟨s, p, l, c, q, k, d, rfl, hp, g1⟩; have r0 := kkeep g1 (b := w.heap.size) (o := 0) (v := .int .i64 0) (by simp [go_sem]); have rz0 : w1.frozen? ⟨w.heap.size, 0, none⟩ = false := (kfro g1 (by simp <;> omega)).trans (by simp [go_sem]); have r1 := kkeep g1 (b := w.heap.size) (o := 1) (v := .bool false) (by simp [go_sem]); have rz1 : w1.frozen? ⟨w.heap.size, 1, none⟩ = false := (kfro g1 (by simp <;> omega)).trans (by simp [go_sem]); have r2 := kkeep g1 (b := w.heap.size) (o := 2) (v := .slice none 0 0) (by simp [go_sem]); have rz2 : w1.frozen? ⟨w.heap.size, 2, none⟩ = false := (kfro g1 (by simp <;> omega)).trans (by simp [go_sem]); have r3 := kkeep g1 (b := w.heap.size) (o := 3) (v := .slice none 0 0) (by simp [go_sem]); have rz3 : w1.frozen? ⟨w.heap.size, 3, none⟩ = false := (kfro g1 (by simp <;> omega)).trans (by simp [go_sem])))
  exact bodyPost_ret (v := .agg #[.int .i64 1, .bool s, .slice p l c, .slice q k d]) (by simp [results, Try.results29, go_sem, r0, r1, r2, r3]) rfl ⟨s, p, l, c, q, k, d, rfl, RP.mono (((((hp).set (x := ⟨w.heap.size, 0, none⟩) (by simp) (.int .i64 1)).set (x := ⟨w.heap.size, 1, none⟩) (by simp) (.bool s)).set (x := ⟨w.heap.size, 2, none⟩) (by simp) (.slice p l c)).set (x := ⟨w.heap.size, 3, none⟩) (by simp) (.slice q k d)) (by simp), (((((Kp.trans ((Kp.refl w).alloc _) g1)).setCell (Nat.le_refl _) _).setCell (Nat.le_refl _) _).setCell (Nat.le_refl _) _).setCell (Nat.le_refl _) _⟩
set_option maxRecDepth 20000 in
set_option maxHeartbeats 1000000 in
theorem boundM_ (w : World) : Calls Try.prog 29 #[.int .u64 18442240474082181120] w fun e w' => ∃ (s : Bool) (p : Option Addr) (l c : Nat) (q : Option Addr) (k d : Nat), e = .returned (.agg #[.int .i64 (-1), .bool s, .slice p l c, .slice q k d]) ∧ RP w.heap.size w' s p l c q k d false 0 ∧ Kp w w' := by
  go_enter Try.func29, Try.ntmps29
  go_wp2_with (first | (go_at_call 43; refine (int0_ _).mono ?_; rintro e w1 ⟨s, p, l, c, q, k, d, rfl, hp, g1⟩; have r0 := kkeep g1 (b := w.heap.size) (o := 0) (v := .int .i64 0) (by simp [go_sem]); have rz0 : w1.frozen? ⟨w.heap.size, 0, none⟩ = false := (kfro g1 (by simp <;> omega)).trans (by simp [go_sem]); have r1 := kkeep g1 (b := w.heap.size) (o := 1) (v := .bool false) (by simp [go_sem]); have rz1 : w1.frozen? ⟨w.heap.size, 1, none⟩ = false := (kfro g1 (by simp <;> omega)).trans (by simp [go_sem]); have r2 := kkeep g1 (b := w.heap.size) (o := 2) (v := .slice none 0 0) (by simp [go_sem]); have rz2 : w1.frozen? ⟨w.heap.size, 2, none⟩ = false := (kfro g1 (by simp <;> omega)).trans (by simp [go_sem]); have r3 := kkeep g1 (b := w.heap.size) (o := 3) (v := .slice none 0 0) (by simp [go_sem]); have rz3 : w1.frozen? ⟨w.heap.size, 3, none⟩ = false := (kfro g1 (by simp <;> omega)).trans (by simp [go_sem])))
  exact bodyPost_ret (v := .agg #[.int .i64 (-1), .bool s, .slice p l c, .slice q k d]) (by simp [results, Try.results29, go_sem, r0, r1, r2, r3]) rfl ⟨s, p, l, c, q, k, d, rfl, RP.mono (((((hp).set (x := ⟨w.heap.size, 0, none⟩) (by simp) (.int .i64 (-1))).set (x := ⟨w.heap.size, 1, none⟩) (by simp) (.bool s)).set (x := ⟨w.heap.size, 2, none⟩) (by simp) (.slice p l c)).set (x := ⟨w.heap.size, 3, none⟩) (by simp) (.slice q k d)) (by simp), (((((Kp.trans ((Kp.refl w).alloc _) g1)).setCell (Nat.le_refl _) _).setCell (Nat.le_refl _) _).setCell (Nat.le_refl _) _).setCell (Nat.le_refl _) _⟩
set_option maxRecDepth 20000 in
set_option maxHeartbeats 1000000 in
theorem boundF_ (n : Bool) (m : Nat) (hm : m < 9218868437227405312) (ht : Fq.wD n m ≠ 9223372036854775808) (w : World) : Calls Try.prog 29 #[.int .u64 ((Fq.wD n m : Nat) : Int)] w fun e w' => ∃ (s : Bool) (p : Option Addr) (l c : Nat) (q : Option Addr) (k d : Nat), e = .returned (.agg #[.int .i64 0, .bool s, .slice p l c, .slice q k d]) ∧ RP w.heap.size w' s p l c q k d n m ∧ Kp w w' := by
  have hf := fromR_ n m hm
  have hq := Fq.rplain6_ n m (by omega)
  rw [show Fq.pla (Fq.wD n m) = Fq.wD n m from by unfold Fq.pla; rw [if_neg ht]] at hq
  have t1 : (((Fq.wD n m : Nat) : Int) == 9218868437227405312) = false := by
    have : Fq.wD n m ≠ 9218868437227405312 := by unfold Fq.wD; cases n <;> simp <;> omega
    simp; omega
  have t2 : (((Fq.wD n m : Nat) : Int) == 18442240474082181120) = false := by
    have : Fq.wD n m ≠ 18442240474082181120 := by unfold Fq.wD; cases n <;> simp <;> omega
    simp; omega
  generalize ((Fq.wD n m : Nat) : Int) = X at hf hq t1 t2 ⊢
  clear hm ht
  go_enter Try.func29, Try.ntmps29
  go_wp2_with (first | (go_at_call 42; refine (hq _).mono ?_; rintro e w' ⟨rfl, rfl⟩) | (go_at_call 44; refine (hf _).mono ?_; rintro e w1 ⟨s, p, l, c, q, k, d, rfl, hp, g1⟩; have r0 := kkeep g1 (b := w.heap.size) (o := 0) (v := .int .i64 0) (by simp [go_sem]); have rz0 : w1.frozen? ⟨w.heap.size, 0, none⟩ = false := (kfro g1 (by simp <;> omega)).trans (by simp [go_sem]); have r1 := kkeep g1 (b := w.heap.size) (o := 1) (v := .bool false) (by simp [go_sem]); have rz1 : w1.frozen? ⟨w.heap.size, 1, none⟩ = false := (kfro g1 (by simp <;> omega)).trans (by simp [go_sem]); have r2 := kkeep g1 (b := w.heap.size) (o := 2) (v := .slice none 0 0) (by simp [go_sem]); have rz2 : w1.frozen? ⟨w.heap.size, 2, none⟩ = false := (kfro g1 (by simp <;> omega)).trans (by simp [go_sem]); have r3 := kkeep g1 (b := w.heap.size) (o := 3) (v := .slice none 0 0) (by simp [go_sem]); have rz3 : w1.frozen? ⟨w.heap.size, 3, none⟩ = false := (kfro g1 (by simp <;> omega)).trans (by simp [go_sem])))
  exact bodyPost_ret (v := .agg #[.int .i64 0, .bool s, .slice p l c, .slice q k d]) (by simp [results, Try.results29, go_sem, r0, r1, r2, r3]) rfl ⟨s, p, l, c, q, k, d, rfl, RP.mono (((((hp).set (x := ⟨w.heap.size, 0, none⟩) (by simp) (.int .i64 0)).set (x := ⟨w.heap.size, 1, none⟩) (by simp) (.bool s)).set (x := ⟨w.heap.size, 2, none⟩) (by simp) (.slice p l c)).set (x := ⟨w.heap.size, 3, none⟩) (by simp) (.slice q k d)) (by simp), (((((Kp.trans ((Kp.refl w).alloc _) g1)).setCell (Nat.le_refl _) _).setCell (Nat.le_refl _) _).setCell (Nat.le_refl _) _).setCell (Nat.le_refl _) _⟩
def infS (n : Bool) (m : Nat) : Int := if m = 9218868437227405312 then (if n then -1 else 1) else 0
def fN (n : Bool) (m : Nat) : Bool := if m = 9218868437227405312 then false else n
def fM (m : Nat) : Nat := if m = 9218868437227405312 then 0 else m
theorem bound_ (n : Bool) (m : Nat) (hm : m ≤ 9218868437227405312) (ht : Fq.wD n m ≠ 9223372036854775808) (w : World) : Calls Try.prog 29 #[.int .u64 ((Fq.wD n m : Nat) : Int)] w fun e w' => ∃ (s : Bool) (p : Option Addr) (l c : Nat) (q : Option Addr) (k d : Nat), e = .returned (.agg #[.int .i64 (infS n m), .bool s, .slice p l c, .slice q k d]) ∧ RP w.heap.size w' s p l c q k d (fN n m) (fM m) ∧ Kp w w' := by
  unfold infS fN fM
  by_cases c : m = 9218868437227405312
  · rw [if_pos c, if_pos c, if_pos c, c]
    cases n
    · exact boundI_ w
    · exact boundM_ w
  · rw [if_neg c, if_neg c, if_neg c]
    exact boundF_ n m (by omega) ht w
set_option maxRecDepth 20000 in
set_option maxHeartbeats 1000000 in
theorem fin0_ (w : World) : Calls Try.prog 28 #[.int .i64 0] w fun e w' => ∃ (s : Bool) (p : Option Addr) (l c : Nat) (q : Option Addr) (k d : Nat), e = .returned (.agg #[.int .i64 0, .bool s, .slice p l c, .slice q k d]) ∧ RP w.heap.size w' s p l c q k d false 0 ∧ Kp w w' := by
  go_enter Try.func28, Try.ntmps28
  go_wp2_with (first | (go_at_call 43; refine (int0_ _).mono ?_; rintro e w1 ⟨s, p, l, c, q, k, d, rfl, hp, g1⟩; have r0 := kkeep g1 (b := w.heap.size) (o := 0) (v := .int .i64 0) (by simp [go_sem]); have rz0 : w1.frozen? ⟨w.heap.size, 0, none⟩ = false := (kfro g1 (by simp <;> omega)).trans (by simp [go_sem]); have r1 := kkeep g1 (b := w.heap.size) (o := 1) (v := .bool false) (by simp [go_sem]); have rz1 : w1.frozen? ⟨w.heap.size, 1, none⟩ = false := (kfro g1 (by simp <;> omega)).trans (by simp [go_sem]); have r2 := kkeep g1 (b := w.heap.size) (o := 2) (v := .slice none 0 0) (by simp [go_sem]); have rz2 : w1.frozen? ⟨w.heap.size, 2, none⟩ = false := (kfro g1 (by simp <;> omega)).trans (by simp [go_sem]); have r3 := kkeep g1 (b := w.heap.size) (o := 3) (v := .slice none 0 0) (by simp [go_sem]); have rz3 : w1.frozen? ⟨w.heap.size, 3, none⟩ = false := (kfro g1 (by simp <;> omega)).trans (by simp [go_sem])))
  exact bodyPost_ret (v := .agg #[.int .i64 0, .bool s, .slice p l c, .slice q k d]) (by simp [results, Try.results28, go_sem, r0, r1, r2, r3]) rfl ⟨s, p, l, c, q, k, d, rfl, RP.mono (((((hp).set (x := ⟨w.heap.size, 0, none⟩) (by simp) (.int .i64 0)).set (x := ⟨w.heap.size, 1, none⟩) (by simp) (.bool s)).set (x := ⟨w.heap.size, 2, none⟩) (by simp) (.slice p l c)).set (x := ⟨w.heap.size, 3, none⟩) (by simp) (.slice q k d)) (by simp), (((((Kp.trans ((Kp.refl w).alloc _) g1)).setCell (Nat.le_refl _) _).setCell (Nat.le_refl _) _).setCell (Nat.le_refl _) _).setCell (Nat.le_refl _) _⟩
set_option maxRecDepth 20000 in
set_option maxHeartbeats 1000000 in
theorem ofS_ (X Y LO HI i j : Int) (N1 N2 : Bool) (M1 M2 : Nat) (hr : ∀ w : World, Calls Try.prog 27 #[.agg #[.int .u64 X, .int .u64 Y]] w fun e w' => e = .returned (.agg #[.int .u64 LO, .int .u64 HI]) ∧ Kp w w') (hb1 : ∀ w : World, Calls Try.prog 29 #[.int .u64 LO] w fun e w' => ∃ (s : Bool) (p : Option Addr) (l c : Nat) (q : Option Addr) (k d : Nat), e = .returned (.agg #[.int .i64 i, .bool s, .slice p l c, .slice q k d]) ∧ RP w.heap.size w' s p l c q k d N1 M1 ∧ Kp w w') (hb2 : ∀ w : World, Calls Try.prog 29 #[.int .u64 HI] w fun e w' => ∃ (s : Bool) (p : Option Addr) (l c : Nat) (q : Option Addr) (k d : Nat), e = .returned (.agg #[.int .i64 j, .bool s, .slice p l c, .slice q k d]) ∧ RP w.heap.size w' s p l c q k d N2 M2 ∧ Kp w w') (t1 : (LO == 9218868437227405312) = false) (w : World) : Calls Try.prog 16 #[.agg #[.int .u64 X, .int .u64 Y]] w fun e w' => ∃ (s : Bool) (p : Option Addr) (l c : Nat) (q : Option Addr) (k d : Nat) (s2 : Bool) (p2 : Option Addr) (l2 c2 : Nat) (q2 : Option Addr) (k2 d2 : Nat), e = .returned (.agg #[.bool false, .int .i64 i, .bool s, .slice p l c, .slice q k d, .int .i64 j, .bool s2, .slice p2 l2 c2, .slice q2 k2 d2]) ∧ RP w.heap.size w' s p l c q k d N1 M1 ∧ RP w.heap.size w' s2 p2 l2 c2 q2 k2 d2 N2 M2 ∧ Kp w w' := by
  go_enter Try.func16, Try.ntmps16
  go_wp2_with (first | (go_at_call 27; refine (hr _).mono ?_; rintro e w1 ⟨rfl, g1⟩; have r0 := kkeep g1 (b := w.heap.size + 1) (o := 0) (v := .bool false) (by simp [go_sem]); have rz0 : w1.frozen? ⟨w.heap.size + 1, 0, none⟩ = false := (kfro g1 (by simp <;> omega)).trans (by simp [go_sem]); have r1 := kkeep g1 (b := w.heap.size + 1) (o := 1) (v := .int .i64 0) (by simp [go_sem]); have rz1 : w1.frozen? ⟨w.heap.size + 1, 1, none⟩ = false := (kfro g1 (by simp <;> omega)).trans (by simp [go_sem]); have r2 := kkeep g1 (b := w.heap.size + 1) (o := 2) (v := .bool false) (by simp [go_sem]); have rz2 : w1.frozen? ⟨w.heap.size + 1, 2, none⟩ = false := (kfro g1 (by simp <;> omega)).trans (by simp [go_sem]); have r3 := kkeep g1 (b := w.heap.size + 1) (o := 3) (v := .slice none 0 0) (by simp [go_sem]); have rz3 : w1.frozen? ⟨w.heap.size + 1, 3, none⟩ = false := (kfro g1 (by simp <;> omega)).trans (by simp [go_sem]); have r4 := kkeep g1 (b := w.heap.size + 1) (o := 4) (v := .slice none 0 0) (by simp [go_sem]); have rz4 : w1.frozen? ⟨w.heap.size + 1, 4, none⟩ = false := (kfro g1 (by simp <;> omega)).trans (by simp [go_sem]); have r5 := kkeep g1 (b := w.heap.size + 1) (o := 5) (v := .int .i64 0) (by simp [go_sem]); have rz5 : w1.frozen? ⟨w.heap.size + 1, 5, none⟩ = false := (kfro g1 (by simp <;> omega)).trans (by simp [go_sem]); have r6 := kkeep g1 (b := w.heap.size + 1) (o := 6) (v := .bool false) (by simp [go_sem]); have rz6 : w1.frozen? ⟨w.heap.size + 1, 6, none⟩ = false := (kfro g1 (by simp <;> omega)).trans (by simp [go_sem]); have r7 := kkeep g1 (b := w.heap.size + 1) (o := 7) (v := .slice none 0 0) (by simp [go_sem]); have rz7 : w1.frozen? ⟨w.heap.size + 1, 7, none⟩ = false := (kfro g1 (by simp <;> omega)).trans (by simp [go_sem]); have r8 := kkeep g1 (b := w.heap.size + 1) (o := 8) (v := .slice none 0 0) (by simp [go_sem]); have rz8 : w1.frozen? ⟨w.heap.size + 1, 8, none⟩ = false := (kfro g1 (by simp <;> omega)).trans (by simp [go_sem])))
  go_region_held3 (fun w' => w'.cell? ⟨w1.heap.size, 0, none⟩ = some (.int .u64 LO) ∧ w'.cell? ⟨w1.heap.size, 1, none⟩ = some (.int .u64 HI)) (simp [go_sem]) (first | (go_at_call 17; refine (Fq.rempty_ _).mono ?_; rintro e w' ⟨rfl, rfl⟩))
  have y0 : (((w1.alloc (.cells #[.int .u64 LO, .int .u64 HI] 24)).alloc (.cells #[.int .u64 9218868437227405312, .int .u64 18442240474082181120] 24)).drew).cell? ⟨w1.heap.size, 0, none⟩ = some (.int .u64 LO) := by simp [go_sem]
  have y1 : (((w1.alloc (.cells #[.int .u64 LO, .int .u64 HI] 24)).alloc (.cells #[.int .u64 9218868437227405312, .int .u64 18442240474082181120] 24)).drew).cell? ⟨w1.heap.size, 1, none⟩ = some (.int .u64 HI) := by simp [go_sem]
  have kW : Kp w1 (((w1.alloc (.cells #[.int .u64 LO, .int .u64 HI] 24)).alloc (.cells #[.int .u64 9218868437227405312, .int .u64 18442240474082181120] 24)).drew) := (((Kp.refl w1).alloc _).alloc _).drew
  have kw : Kp w w1 := Kp.trans (((Kp.refl w).alloc _).alloc _) g1
  have hB1 : w.heap.size + 1 < w1.heap.size := cell_lt r0
  have hne : w.heap.size + 1 ≠ w1.heap.size := Nat.ne_of_lt hB1
  go_wp2
  generalize (((w1.alloc (.cells #[.int .u64 LO, .int .u64 HI] 24)).alloc (.cells #[.int .u64 9218868437227405312, .int .u64 18442240474082181120] 24)).drew) = W at y0 y1 kW ⊢
  generalize hby : w1.heap.size = by9 at y0 y1 hne ⊢
  have hBW : w.heap.size + 1 < W.heap.size := Nat.lt_of_lt_of_le hB1 (Below.size kW)
  have y2 : W.drew.cell? ⟨by9, 0, none⟩ = some (.int .u64 LO) := y0
  have y3 : W.drew.cell? ⟨by9, 1, none⟩ = some (.int .u64 HI) := y1
  replace r0 := kkeep kW r0
  replace rz0 := (kfro kW hB1).trans rz0
  replace r1 := kkeep kW r1
  replace rz1 := (kfro kW hB1).trans rz1
  replace r2 := kkeep kW r2
  replace rz2 := (kfro kW hB1).trans rz2
  replace r3 := kkeep kW r3
  replace rz3 := (kfro kW hB1).trans rz3
  replace r4 := kkeep kW r4
  replace rz4 := (kfro kW hB1).trans rz4
  replace r5 := kkeep kW r5
  replace rz5 := (kfro kW hB1).trans rz5
  replace r6 := kkeep kW r6
  replace rz6 := (kfro kW hB1).trans rz6
  replace r7 := kkeep kW r7
  replace rz7 := (kfro kW hB1).trans rz7
  replace r8 := kkeep kW r8
  replace rz8 := (kfro kW hB1).trans rz8
  go_region_held3 (fun w' => w'.cell? ⟨by9, 0, none⟩ = some (.int .u64 LO) ∧ w'.cell? ⟨by9, 1, none⟩ = some (.int .u64 HI)) (first | (with_reducible exact ⟨y0, y1⟩) | (with_reducible exact ⟨y2, y3⟩) | (with_reducible exact ⟨a0, a1⟩) | (with_reducible exact ⟨b0, b1⟩) | (exact ⟨((World.cell?_setCell_far _ _ _ _ hne).trans ((World.cell?_setCell_far _ _ _ _ hne).trans ((World.cell?_setCell_far _ _ _ _ hne).trans ((World.cell?_setCell_far _ _ _ _ hne).trans ((World.cell?_setCell_far _ _ _ _ hne).trans ((World.cell?_setCell_far _ _ _ _ hne).trans ((World.cell?_setCell_far _ _ _ _ hne).trans ((World.cell?_setCell_far _ _ _ _ hne).trans ((World.cell?_setCell_far _ _ _ _ hne).trans b0))))))))), ((World.cell?_setCell_far _ _ _ _ hne).trans ((World.cell?_setCell_far _ _ _ _ hne).trans ((World.cell?_setCell_far _ _ _ _ hne).trans ((World.cell?_setCell_far _ _ _ _ hne).trans ((World.cell?_setCell_far _ _ _ _ hne).trans ((World.cell?_setCell_far _ _ _ _ hne).trans ((World.cell?_setCell_far _ _ _ _ hne).trans ((World.cell?_setCell_far _ _ _ _ hne).trans ((World.cell?_setCell_far _ _ _ _ hne).trans b1)))))))))⟩)) (first | (go_at_call_of 29 (Value.int .u64 LO); refine (hb1 _).mono ?_; rintro e wl ⟨s, p, l, c, q, k, d, rfl, hp, gl⟩; have kl : Kp W wl := Kp.trans (Kp.drew (Kp.refl _)) gl; have a0 := kkeep kl y0; have a1 := kkeep kl y1) | (go_at_call_of 29 (Value.int .u64 HI); refine (hb2 _).mono ?_; rintro e wh ⟨s2, p2, l2, c2, q2, k2, d2, rfl, hp2, gh⟩; have kh := Kp.trans kl gh; have b0 := kkeep kh y0; have b1 := kkeep kh y1; have R0 := kkeep kh r0; have Rz0 : wh.frozen? ⟨w.heap.size + 1, 0, none⟩ = false := (kfro kh (cell_lt r0)).trans rz0; have R1 := kkeep kh r1; have Rz1 : wh.frozen? ⟨w.heap.size + 1, 1, none⟩ = false := (kfro kh (cell_lt r1)).trans rz1; have R2 := kkeep kh r2; have Rz2 : wh.frozen? ⟨w.heap.size + 1, 2, none⟩ = false := (kfro kh (cell_lt r2)).trans rz2; have R3 := kkeep kh r3; have Rz3 : wh.frozen? ⟨w.heap.size + 1, 3, none⟩ = false := (kfro kh (cell_lt r3)).trans rz3; have R4 := kkeep kh r4; have Rz4 : wh.frozen? ⟨w.heap.size + 1, 4, none⟩ = false := (kfro kh (cell_lt r4)).trans rz4; have R5 := kkeep kh r5; have Rz5 : wh.frozen? ⟨w.heap.size + 1, 5, none⟩ = false := (kfro kh (cell_lt r5)).trans rz5; have R6 := kkeep kh r6; have Rz6 : wh.frozen? ⟨w.heap.size + 1, 6, none⟩ = false := (kfro kh (cell_lt r6)).trans rz6; have R7 := kkeep kh r7; have Rz7 : wh.frozen? ⟨w.heap.size + 1, 7, none⟩ = false := (kfro kh (cell_lt r7)).trans rz7; have R8 := kkeep kh r8; have Rz8 : wh.frozen? ⟨w.heap.size + 1, 8, none⟩ = false := (kfro kh (cell_lt r8)).trans rz8))
  go_wp2
  have hP1 : RP W.heap.size wh s p l c q k d N1 M1 := (RP.mono hp (Nat.le_refl _)).kp gh
  have hP2 : RP W.heap.size wh s2 p2 l2 c2 q2 k2 d2 N2 M2 := RP.mono hp2 (Below.size kl)
  have hle : w.heap.size ≤ W.heap.size := Nat.le_of_lt (Nat.lt_trans (Nat.lt_succ_self _) hBW)
  exact bodyPost_ret (v := .agg #[.bool false, .int .i64 i, .bool s, .slice p l c, .slice q k d, .int .i64 j, .bool s2, .slice p2 l2 c2, .slice q2 k2 d2]) (by simp [results, Try.results16, go_sem, R0, R1, R2, R3, R4, R5, R6, R7, R8]) rfl ⟨s, p, l, c, q, k, d, s2, p2, l2, c2, q2, k2, d2, rfl, RP.mono ((((((((((hP1).set (x := ⟨w.heap.size + 1, 0, none⟩) hBW (.bool false)).set (x := ⟨w.heap.size + 1, 1, none⟩) hBW (.int .i64 i)).set (x := ⟨w.heap.size + 1, 2, none⟩) hBW (.bool s)).set (x := ⟨w.heap.size + 1, 3, none⟩) hBW (.slice p l c)).set (x := ⟨w.heap.size + 1, 4, none⟩) hBW (.slice q k d)).set (x := ⟨w.heap.size + 1, 5, none⟩) hBW (.int .i64 j)).set (x := ⟨w.heap.size + 1, 6, none⟩) hBW (.bool s2)).set (x := ⟨w.heap.size + 1, 7, none⟩) hBW (.slice p2 l2 c2)).set (x := ⟨w.heap.size + 1, 8, none⟩) hBW (.slice q2 k2 d2)) hle, RP.mono ((((((((((hP2).set (x := ⟨w.heap.size + 1, 0, none⟩) hBW (.bool false)).set (x := ⟨w.heap.size + 1, 1, none⟩) hBW (.int .i64 i)).set (x := ⟨w.heap.size + 1, 2, none⟩) hBW (.bool s)).set (x := ⟨w.heap.size + 1, 3, none⟩) hBW (.slice p l c)).set (x := ⟨w.heap.size + 1, 4, none⟩) hBW (.slice q k d)).set (x := ⟨w.heap.size + 1, 5, none⟩) hBW (.int .i64 j)).set (x := ⟨w.heap.size + 1, 6, none⟩) hBW (.bool s2)).set (x := ⟨w.heap.size + 1, 7, none⟩) hBW (.slice p2 l2 c2)).set (x := ⟨w.heap.size + 1, 8, none⟩) hBW (.slice q2 k2 d2)) hle, ((((((((((Kp.trans (Kp.trans kw kW) kh)).setCell (Nat.le_succ _) _).setCell (Nat.le_succ _) _).setCell (Nat.le_succ _) _).setCell (Nat.le_succ _) _).setCell (Nat.le_succ _) _).setCell (Nat.le_succ _) _).setCell (Nat.le_succ _) _).setCell (Nat.le_succ _) _).setCell (Nat.le_succ _) _⟩
set_option maxRecDepth 20000 in
set_option maxHeartbeats 1000000 in
theorem ofE_ (X Y : Int) (hr : ∀ w : World, Calls Try.prog 27 #[.agg #[.int .u64 X, .int .u64 Y]] w fun e w' => e = .returned (.agg #[.int .u64 9218868437227405312, .int .u64 18442240474082181120]) ∧ Kp w w') (w : World) : Calls Try.prog 16 #[.agg #[.int .u64 X, .int .u64 Y]] w fun e w' => ∃ (s : Bool) (p : Option Addr) (l c : Nat) (q : Option Addr) (k d : Nat) (s2 : Bool) (p2 : Option Addr) (l2 c2 : Nat) (q2 : Option Addr) (k2 d2 : Nat), e = .returned (.agg #[.bool true, .int .i64 0, .bool s, .slice p l c, .slice q k d, .int .i64 0, .bool s2, .slice p2 l2 c2, .slice q2 k2 d2]) ∧ RP w.heap.size w' s p l c q k d false 0 ∧ RP w.heap.size w' s2 p2 l2 c2 q2 k2 d2 false 0 ∧ Kp w w' := by
  go_enter Try.func16, Try.ntmps16
  go_wp2_with (first | (go_at_call 27; refine (hr _).mono ?_; rintro e w1 ⟨rfl, g1⟩; have r0 := kkeep g1 (b := w.heap.size + 1) (o := 0) (v := .bool false) (by simp [go_sem]); have rz0 : w1.frozen? ⟨w.heap.size + 1, 0, none⟩ = false := (kfro g1 (by simp <;> omega)).trans (by simp [go_sem]); have r1 := kkeep g1 (b := w.heap.size + 1) (o := 1) (v := .int .i64 0) (by simp [go_sem]); have rz1 : w1.frozen? ⟨w.heap.size + 1, 1, none⟩ = false := (kfro g1 (by simp <;> omega)).trans (by simp [go_sem]); have r2 := kkeep g1 (b := w.heap.size + 1) (o := 2) (v := .bool false) (by simp [go_sem]); have rz2 : w1.frozen? ⟨w.heap.size + 1, 2, none⟩ = false := (kfro g1 (by simp <;> omega)).trans (by simp [go_sem]); have r3 := kkeep g1 (b := w.heap.size + 1) (o := 3) (v := .slice none 0 0) (by simp [go_sem]); have rz3 : w1.frozen? ⟨w.heap.size + 1, 3, none⟩ = false := (kfro g1 (by simp <;> omega)).trans (by simp [go_sem]); have r4 := kkeep g1 (b := w.heap.size + 1) (o := 4) (v := .slice none 0 0) (by simp [go_sem]); have rz4 : w1.frozen? ⟨w.heap.size + 1, 4, none⟩ = false := (kfro g1 (by simp <;> omega)).trans (by simp [go_sem]); have r5 := kkeep g1 (b := w.heap.size + 1) (o := 5) (v := .int .i64 0) (by simp [go_sem]); have rz5 : w1.frozen? ⟨w.heap.size + 1, 5, none⟩ = false := (kfro g1 (by simp <;> omega)).trans (by simp [go_sem]); have r6 := kkeep g1 (b := w.heap.size + 1) (o := 6) (v := .bool false) (by simp [go_sem]); have rz6 : w1.frozen? ⟨w.heap.size + 1, 6, none⟩ = false := (kfro g1 (by simp <;> omega)).trans (by simp [go_sem]); have r7 := kkeep g1 (b := w.heap.size + 1) (o := 7) (v := .slice none 0 0) (by simp [go_sem]); have rz7 : w1.frozen? ⟨w.heap.size + 1, 7, none⟩ = false := (kfro g1 (by simp <;> omega)).trans (by simp [go_sem]); have r8 := kkeep g1 (b := w.heap.size + 1) (o := 8) (v := .slice none 0 0) (by simp [go_sem]); have rz8 : w1.frozen? ⟨w.heap.size + 1, 8, none⟩ = false := (kfro g1 (by simp <;> omega)).trans (by simp [go_sem])))
  go_region_held3 (fun w' => w'.cell? ⟨w1.heap.size, 0, none⟩ = some (.int .u64 9218868437227405312) ∧ w'.cell? ⟨w1.heap.size, 1, none⟩ = some (.int .u64 18442240474082181120)) (simp [go_sem]) (first | (go_at_call 17; refine (Fq.rempty_ _).mono ?_; rintro e w' ⟨rfl, rfl⟩))
  have kW : Kp w1 (((w1.alloc (.cells #[.int .u64 9218868437227405312, .int .u64 18442240474082181120] 24)).alloc (.cells #[.int .u64 9218868437227405312, .int .u64 18442240474082181120] 24)).drew) := (((Kp.refl w1).alloc _).alloc _).drew
  have kw : Kp w w1 := Kp.trans (((Kp.refl w).alloc _).alloc _) g1
  have hB1 : w.heap.size + 1 < w1.heap.size := cell_lt r0
  generalize (((w1.alloc (.cells #[.int .u64 9218868437227405312, .int .u64 18442240474082181120] 24)).alloc (.cells #[.int .u64 9218868437227405312, .int .u64 18442240474082181120] 24)).drew) = W at kW ⊢
  have hBW : w.heap.size + 1 < W.heap.size := Nat.lt_of_lt_of_le hB1 (Below.size kW)
  replace r0 := kkeep kW r0
  replace rz0 := (kfro kW hB1).trans rz0
  replace r1 := kkeep kW r1
  replace rz1 := (kfro kW hB1).trans rz1
  replace r2 := kkeep kW r2
  replace rz2 := (kfro kW hB1).trans rz2
  replace r3 := kkeep kW r3
  replace rz3 := (kfro kW hB1).trans rz3
  replace r4 := kkeep kW r4
  replace rz4 := (kfro kW hB1).trans rz4
  replace r5 := kkeep kW r5
  replace rz5 := (kfro kW hB1).trans rz5
  replace r6 := kkeep kW r6
  replace rz6 := (kfro kW hB1).trans rz6
  replace r7 := kkeep kW r7
  replace rz7 := (kfro kW hB1).trans rz7
  replace r8 := kkeep kW r8
  replace rz8 := (kfro kW hB1).trans rz8
  go_wp2_with (first | (go_at_call 28; refine (fin0_ _).mono ?_; rintro e wh ⟨s2, p2, l2, c2, q2, k2, d2, rfl, hp2, gh⟩; have kh := Kp.trans kl gh; have R0 := kkeep kh r0; have Rz0 : wh.frozen? ⟨w.heap.size + 1, 0, none⟩ = false := (kfro kh (cell_lt r0)).trans rz0; have R1 := kkeep kh r1; have Rz1 : wh.frozen? ⟨w.heap.size + 1, 1, none⟩ = false := (kfro kh (cell_lt r1)).trans rz1; have R2 := kkeep kh r2; have Rz2 : wh.frozen? ⟨w.heap.size + 1, 2, none⟩ = false := (kfro kh (cell_lt r2)).trans rz2; have R3 := kkeep kh r3; have Rz3 : wh.frozen? ⟨w.heap.size + 1, 3, none⟩ = false := (kfro kh (cell_lt r3)).trans rz3; have R4 := kkeep kh r4; have Rz4 : wh.frozen? ⟨w.heap.size + 1, 4, none⟩ = false := (kfro kh (cell_lt r4)).trans rz4; have R5 := kkeep kh r5; have Rz5 : wh.frozen? ⟨w.heap.size + 1, 5, none⟩ = false := (kfro kh (cell_lt r5)).trans rz5; have R6 := kkeep kh r6; have Rz6 : wh.frozen? ⟨w.heap.size + 1, 6, none⟩ = false := (kfro kh (cell_lt r6)).trans rz6; have R7 := kkeep kh r7; have Rz7 : wh.frozen? ⟨w.heap.size + 1, 7, none⟩ = false := (kfro kh (cell_lt r7)).trans rz7; have R8 := kkeep kh r8; have Rz8 : wh.frozen? ⟨w.heap.size + 1, 8, none⟩ = false := (kfro kh (cell_lt r8)).trans rz8) | (go_at_call 28; refine (fin0_ _).mono ?_; rintro e wl ⟨s, p, l, c, q, k, d, rfl, hp, kl⟩))
  have hP1 : RP W.heap.size wh s p l c q k d false 0 := hp.kp gh
  have hP2 : RP W.heap.size wh s2 p2 l2 c2 q2 k2 d2 false 0 := RP.mono hp2 (Below.size kl)
  have hle : w.heap.size ≤ W.heap.size := Nat.le_of_lt (Nat.lt_trans (Nat.lt_succ_self _) hBW)
  exact bodyPost_ret (v := .agg #[.bool true, .int .i64 0, .bool s, .slice p l c, .slice q k d, .int .i64 0, .bool s2, .slice p2 l2 c2, .slice q2 k2 d2]) (by simp [results, Try.results16, go_sem, R0, R1, R2, R3, R4, R5, R6, R7, R8]) rfl ⟨s, p, l, c, q, k, d, s2, p2, l2, c2, q2, k2, d2, rfl, RP.mono ((((((((((hP1).set (x := ⟨w.heap.size + 1, 0, none⟩) hBW (.bool true)).set (x := ⟨w.heap.size + 1, 1, none⟩) hBW (.int .i64 0)).set (x := ⟨w.heap.size + 1, 2, none⟩) hBW (.bool s)).set (x := ⟨w.heap.size + 1, 3, none⟩) hBW (.slice p l c)).set (x := ⟨w.heap.size + 1, 4, none⟩) hBW (.slice q k d)).set (x := ⟨w.heap.size + 1, 5, none⟩) hBW (.int .i64 0)).set (x := ⟨w.heap.size + 1, 6, none⟩) hBW (.bool s2)).set (x := ⟨w.heap.size + 1, 7, none⟩) hBW (.slice p2 l2 c2)).set (x := ⟨w.heap.size + 1, 8, none⟩) hBW (.slice q2 k2 d2)) hle, RP.mono ((((((((((hP2).set (x := ⟨w.heap.size + 1, 0, none⟩) hBW (.bool true)).set (x := ⟨w.heap.size + 1, 1, none⟩) hBW (.int .i64 0)).set (x := ⟨w.heap.size + 1, 2, none⟩) hBW (.bool s)).set (x := ⟨w.heap.size + 1, 3, none⟩) hBW (.slice p l c)).set (x := ⟨w.heap.size + 1, 4, none⟩) hBW (.slice q k d)).set (x := ⟨w.heap.size + 1, 5, none⟩) hBW (.int .i64 0)).set (x := ⟨w.heap.size + 1, 6, none⟩) hBW (.bool s2)).set (x := ⟨w.heap.size + 1, 7, none⟩) hBW (.slice p2 l2 c2)).set (x := ⟨w.heap.size + 1, 8, none⟩) hBW (.slice q2 k2 d2)) hle, ((((((((((Kp.trans (Kp.trans kw kW) kh)).setCell (Nat.le_succ _) _).setCell (Nat.le_succ _) _).setCell (Nat.le_succ _) _).setCell (Nat.le_succ _) _).setCell (Nat.le_succ _) _).setCell (Nat.le_succ _) _).setCell (Nat.le_succ _) _).setCell (Nat.le_succ _) _).setCell (Nat.le_succ _) _⟩
end Go.Proofs.Ytbbmoaiilnfmgaa
