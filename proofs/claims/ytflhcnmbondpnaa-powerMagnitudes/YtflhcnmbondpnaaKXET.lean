import Derived.Test.YtflhcnmbondpnaaProg
import Derived.Test.YtflhcnmbondpnaaKXA0
import Derived.Test.YtflhcnmbondpnaaKXM
import Derived.Test.YtflhcnmbondpnaaKXY
import Derived.Test.YtflhcnmbondpnaaKXQF
import Derived.Test.YtflhcnmbondpnaaKQA
import Derived.Test.YtflhcnmbondpnaaKXQU
import Derived.Test.YtflhcnmbondpnaaKXEA
import Derived.Test.YtflhcnmbondpnaaKXED
import Derived.Test.YtflhcnmbondpnaaKMR7Q
import Derived.Test.YtflhcnmbondpnaaKXMR
import Derived.Test.YtflhcnmbondpnaaKXM3
import Derived.Test.YtflhcnmbondpnaaKXO
import Derived.Test.YtflhcnmbondpnaaKXO3
import Derived.Test.YtflhcnmbondpnaaKXT
import Derived.Test.YtflhcnmbondpnaaKHB
import Derived.Test.YtflhcnmbondpnaaKLX
import Derived.Test.YtflhcnmbondpnaaKRX
import Derived.Test.YtflhcnmbondpnaaKXRL
import Derived.Test.YtflhcnmbondpnaaKXCO
import Derived.Test.YtflhcnmbondpnaaKLN
import Derived.Test.YtflhcnmbondpnaaKRN
import Derived.Test.YtflhcnmbondpnaaKW4
import Derived.Test.YtflhcnmbondpnaaKBY
import Derived.Test.YtflhcnmbondpnaaKBW
import Derived.Test.YtflhcnmbondpnaaKXTZ
import Derived.Test.YtflhcnmbondpnaaKXG1
import Derived.Test.YtflhcnmbondpnaaKNSm
import Derived.Test.YtflhcnmbondpnaaKXH2Q
import Derived.Test.YtflhcnmbondpnaaKXG4
import Derived.WalkKit
import Derived.ProofKit
import Derived.RowKit3
import Derived.WalkSpells
import Derived.StillTactics
import Derived.Deep.QuietTactic
import Derived.BigQuiet
import Derived.Below
import Derived.Deep.OwnRows
import Derived.OwnWalk
import Derived.Laws.BitsAllLaws
import Derived.Laws.Slices
import Derived.Laws.Bits64b
import Derived.Laws.FloatArith
import Derived.Deep.RegionHeld3
namespace Go.Proofs.Ytflhcnmbondpnaa
open Go.RowKit
theorem kfro {W w : World} {b o : Nat} (g : Kp W w) (h : b < W.heap.size) : w.frozen? ⟨b, o, none⟩ = W.frozen? ⟨b, o, none⟩ := World.frozen?_of_block (w := W) (Below.block g b h)

/-- what a ratio's parts tell of a number -/
def RF (s : Bool) (a b : Nat) (n : Bool) (m : Nat) : Prop := ∀ K : Nat, K = 1074 → b ≠ 0 ∧ a * 2 ^ K = Fq.vV Ieee.double m * b ∧ Iv n m = (if s then -((Fq.vV Ieee.double m : Nat) : Int) else ((Fq.vV Ieee.double m : Nat) : Int)) ∧ blen a ≤ 1500 ∧ blen b ≤ 1500
/-- a ratio that is the number n m, with rows of its own from 'base' on -/
def RP (base : Nat) (w : World) (s : Bool) (p : Option Addr) (l c : Nat) (q : Option Addr) (k d : Nat) (n : Bool) (m : Nat) : Prop := ∃ a b, Own w base (.slice p l c) (dig a) ∧ Own w base (.slice q k d) (dig b) ∧ RF s a b n m
theorem RP.kp {base : Nat} {w w' : World} {s : Bool} {p : Option Addr} {l c : Nat} {q : Option Addr} {k d : Nat} {n : Bool} {m : Nat} (h : RP base w s p l c q k d n m) (g : Kp w w') : RP base w' s p l c q k d n m := by
  obtain ⟨a, b, h1, h2, h3⟩ := h
  exact ⟨a, b, h1.kp g, h2.kp g, h3⟩
theorem RP.mono {base base' : Nat} {w : World} {s : Bool} {p : Option Addr} {l c : Nat} {q : Option Addr} {k d : Nat} {n : Bool} {m : Nat} (h : RP base w s p l c q k d n m) (g : base' ≤ base) : RP base' w s p l c q k d n m := by
  obtain ⟨a, b, h1, h2, h3⟩ := h
  exact ⟨a, b, h1.mono g, h2.mono g, h3⟩
theorem RP.set {base : Nat} {w : World} {s : Bool} {p : Option Addr} {l c : Nat} {q : Option Addr} {k d : Nat} {n : Bool} {m : Nat} (h : RP base w s p l c q k d n m) {x : Addr} (hx : x.block < base) (u : Value) : RP base (w.setCell x u) s p l c q k d n m := by
  obtain ⟨a, b, h1, h2, h3⟩ := h
  exact ⟨a, b, h1.setOther hx u, h2.setOther hx u, h3⟩
theorem fromR_ (n : Bool) (m : Nat) (hm : m < 9218868437227405312) (w : World) : Calls Try.prog 40 #[.int .u64 ((Fq.wD n m : Nat) : Int)] w fun e w' => ∃ (s : Bool) (p : Option Addr) (l c : Nat) (q : Option Addr) (k d : Nat), e = .returned (.agg #[.bool s, .slice p l c, .slice q k d]) ∧ RP w.heap.size w' s p l c q k d n m ∧ Kp w w' := by
  have h := fromBits_ n m hm w
  refine Calls.mono (show Calls Try.prog 40 #[.int .u64 ((Fq.wD n m : Nat) : Int)] w _ from h) ?_
  rintro e w' ⟨vn, vd, a, b, s, rfl, o1, o2, ⟨hF, hs⟩, g⟩
  obtain ⟨p, c, rfl, -, -⟩ := o1.arr
  obtain ⟨q, d, rfl, -, -⟩ := o2.arr
  obtain ⟨v1, v2, v3, v4, v5⟩ := Fq.vlsgD m hm
  have hF' : FracOf (Fq.sgD m) 1 (Fq.epD m) a b := hF
  have hs' : Fq.sgD m ≠ 0 → s = n := hs
  have hval : Fq.vV Ieee.double m = Fq.sgD m * 2 ^ (Fq.epD m + 1074).toNat := v1.symm
  refine ⟨s, p, _, c, q, _, d, rfl, ⟨a, b, o1, o2, fun K hK => ⟨hF'.1, ?_, ?_, ?_, ?_⟩⟩, g⟩
  · by_cases c0 : Fq.sgD m = 0
    · rw [hval, c0, hF'.2.1.2 c0]; simp
    · rw [hval]
      exact frac_exact (Fq.sgD m) (Fq.epD m) a b K (Fq.epD m + 1074).toNat hF' c0 (by omega)
  · unfold Iv
    by_cases c0 : Fq.sgD m = 0
    · have : Fq.vV Ieee.double m = 0 := by rw [hval, c0]; simp
      rw [this]; cases n <;> cases s <;> simp
    · rw [hs' c0]
  · have h1 := hF'.2.2.2.1
    have h2 : blen (Fq.sgD m) ≤ 53 := by rw [blen_le_iff, show (2 : Nat) ^ 53 = 9007199254740992 from by decide]; exact v2
    omega
  · have h1 := hF'.2.2.2.2
    have h2 : blen 1 = 1 := blen_uniq 1 0 (by decide) (by decide)
    omega
theorem dig_zero6 : dig 0 = [] := by decide +kernel
theorem dig_one6 : dig 1 = [1] := by decide +kernel
set_option maxRecDepth 20000 in
set_option maxHeartbeats 1000000 in
theorem int0_ (w : World) : Calls Try.prog 37 #[.int .i64 0] w fun e w' => ∃ (s : Bool) (p : Option Addr) (l c : Nat) (q : Option Addr) (k d : Nat), e = .returned (.agg #[.bool s, .slice p l c, .slice q k d]) ∧ RP w.heap.size w' s p l c q k d false 0 ∧ Kp w w' := by
  obtain ⟨B, hB⟩ : ∃ B, B = w.heap.size := ⟨_, rfl⟩
  obtain ⟨w0, hw0⟩ : ∃ w0, w0 = w.alloc (.cells #[.bool false, .slice none 0 0, .slice none 0 0] 41) := ⟨_, rfl⟩
  have kw : Kp w w0 := by rw [hw0]; exact (Kp.refl w).alloc _
  have r0 : w0.cell? ⟨B, 0, none⟩ = some (.bool false) := by rw [hw0, hB]; simp [go_sem]
  have r1 : w0.cell? ⟨B, 1, none⟩ = some (.slice none 0 0) := by rw [hw0, hB]; simp [go_sem]
  have r2 : w0.cell? ⟨B, 2, none⟩ = some (.slice none 0 0) := by rw [hw0, hB]; simp [go_sem]
  have f0 : w0.frozen? ⟨B, 0, none⟩ = false := by rw [hw0, hB]; simp [go_sem]
  have f1 : w0.frozen? ⟨B, 1, none⟩ = false := by rw [hw0, hB]; simp [go_sem]
  have f2 : w0.frozen? ⟨B, 2, none⟩ = false := by rw [hw0, hB]; simp [go_sem]
  have hlt := cell_lt r0
  have hs := rsmall_ 0 (by decide) w0
  have HW : Hid (w0 = w.alloc (.cells #[.bool false, .slice none 0 0, .slice none 0 0] 41) ∧ B = w.heap.size ∧ Kp w w0) := ⟨hw0, hB, kw⟩
  clear hw0 hB kw
  go_enter Try.func37, Try.ntmps37
  go_wp2_with fail
  rw [← HW.out.2.1]
  try rw [← HW.out.1]
  refine hs.mono ?_; rintro e w1 ⟨v, rfl, ho, k1⟩
  obtain ⟨pv, cv, rfl, hav, hcv⟩ := ho.arr
  obtain ⟨L, hL⟩ : ∃ L, L = (dig 0).length := ⟨_, rfl⟩
  rw [← hL]
  obtain ⟨g4, hg4⟩ : ∃ g4, g4 = w1.heap.size := ⟨_, rfl⟩
  obtain ⟨w4, hw4⟩ : ∃ w4, w4 = w1.alloc (.cells #[.int .u32 1] 81) := ⟨_, rfl⟩
  have k4 : Kp w1 w4 := by rw [hw4]; exact (Kp.refl _).alloc _
  have ar4 : Arr w4 (some ⟨g4, 0, none⟩) (dig 1) := by
    have h := (row1 w1 1).all rfl
    rw [← hw4, ← hg4] at h
    rw [dig_one6]
    exact h
  have h := frac_ false (.slice pv (dig 0).length cv) (.slice (some ⟨g4, 0, none⟩) (dig 1).length 1) (dig 0) (dig 1) 0 w4 ⟨pv, cv, rfl, hav.grown k4, hcv⟩ ⟨some ⟨g4, 0, none⟩, 1, rfl, ar4, by rw [dig_one6]; decide⟩ (Wd_dig _) (Wd_dig _) (by rw [dig_zero6]; decide) (by rw [dig_one6]; decide) (by rw [val_dig]; decide) (by decide)
  rw [val_dig, val_dig] at h
  rw [show (dig 1).length = 1 from by rw [dig_one6]; rfl] at h
  rw [← hL] at h
  have k04 := k1.trans k4
  have HG : Hid (g4 = w1.heap.size ∧ w4 = w1.alloc (.cells #[.int .u32 1] 81)) := ⟨hg4, hw4⟩
  replace r0 := kkeep k04 r0
  replace r1 := kkeep k04 r1
  replace r2 := kkeep k04 r2
  replace f0 := (kfro k04 hlt).trans f0
  replace f1 := (kfro k04 hlt).trans f1
  replace f2 := (kfro k04 hlt).trans f2
  have HK : Hid (Kp w0 w4 ∧ B < w0.heap.size) := ⟨k04, hlt⟩
  have hlt4 := cell_lt r0
  clear hs ho hav hcv hL hg4 hw4 k4 ar4 k1 k04 hlt
  go_wp2_with fail
  rw [← HG.out.1, ← HG.out.2]
  refine h.mono ?_; rintro e w5 ⟨vn, vd, a', b', ng, rfl, o1, o2, ff, k5⟩
  obtain ⟨pn, cn, rfl, an, ln⟩ := o1.arr
  obtain ⟨pd, cd, rfl, ad, ld⟩ := o2.arr
  replace r0 := kkeep k5 r0
  replace r1 := kkeep k5 r1
  replace r2 := kkeep k5 r2
  replace f0 := (kfro k5 hlt4).trans f0
  replace f1 := (kfro k5 hlt4).trans f1
  replace f2 := (kfro k5 hlt4).trans f2
  have hp : RP w4.heap.size w5 ng pn (dig a').length cn pd (dig b').length cd false 0 := by
    refine ⟨a', b', o1, o2, fun K hK => ⟨ff.1.1, ?_, ?_, ?_, ?_⟩⟩
    · rw [ff.1.2.1.2 rfl, Fq.vV_zero]; simp
    · unfold Iv; rw [Fq.vV_zero]; cases ng <;> rfl
    · have := ff.1.2.2.2.1; rw [ff.1.2.1.2 rfl]; rw [blen_zero]; omega
    · have := ff.1.2.2.2.2
      have h2 : blen 1 = 1 := blen_uniq 1 0 (by decide) (by decide)
      simp at this; omega
  have hq := (((hp.set (x := ⟨B, 0, none⟩) hlt4 (.bool ng)).set (x := ⟨B, 1, none⟩) hlt4 (.slice pn (dig a').length cn)).set (x := ⟨B, 2, none⟩) hlt4 (.slice pd (dig b').length cd)).mono (base' := w.heap.size) (by have h1 := Below.size HW.out.2.2; have h2 := Below.size HK.out.1; omega)
  have hkw : Kp w (((w5.setCell ⟨B, 0, none⟩ (.bool ng)).setCell ⟨B, 1, none⟩ (.slice pn (dig a').length cn)).setCell ⟨B, 2, none⟩ (.slice pd (dig b').length cd)) := by
    have hB := HW.out.2.1
    exact ((((HW.out.2.2.trans HK.out.1).trans k5).setCell (by rw [hB]; exact Nat.le_refl _) _).setCell (by rw [hB]; exact Nat.le_refl _) _).setCell (by rw [hB]; exact Nat.le_refl _) _
  generalize (dig a').length = La at hq hkw ⊢
  generalize (dig b').length = Lb at hq hkw ⊢
  have HO : Hid (_ ∧ _) := ⟨hq, hkw⟩
  clear h hp hq hkw o1 o2 ff k5 an ln ad ld hlt4 HG
  go_wp2
  exact bodyPost_ret (v := .agg #[.bool ng, .slice pn La cn, .slice pd Lb cd]) (by simp [results, Try.results37, go_sem, r0, r1, r2]) rfl ⟨ng, pn, La, cn, pd, Lb, cd, rfl, HO.out.1, HO.out.2⟩
set_option maxRecDepth 20000 in
set_option maxHeartbeats 1000000 in
theorem boundI_ (w : World) : Calls Try.prog 32 #[.int .u64 9218868437227405312] w fun e w' => ∃ (s : Bool) (p : Option Addr) (l c : Nat) (q : Option Addr) (k d : Nat), e = .returned (.agg #[.int .i64 1, .bool s, .slice p l c, .slice q k d]) ∧ RP w.heap.size w' s p l c q k d false 0 ∧ Kp w w' := by
  go_enter Try.func32, Try.ntmps32
  go_wp2_with (first | (go_at_call 37; refine (int0_ _).mono ?_; rintro e w1 ⟨s, p, l, c, q, k, d, rfl, hp, g1⟩; have r0 := kkeep g1 (b := w.heap.size) (o := 0) (v := .int .i64 0) (by simp [go_sem]); have rz0 : w1.frozen? ⟨w.heap.size, 0, none⟩ = false := (kfro g1 (by simp <;> omega)).trans (by simp [go_sem]); have r1 := kkeep g1 (b := w.heap.size) (o := 1) (v := .bool false) (by simp [go_sem]); have rz1 : w1.frozen? ⟨w.heap.size, 1, none⟩ = false := (kfro g1 (by simp <;> omega)).trans (by simp [go_sem]); have r2 := kkeep g1 (b := w.heap.size) (o := 2) (v := .slice none 0 0) (by simp [go_sem]); have rz2 : w1.frozen? ⟨w.heap.size, 2, none⟩ = false := (kfro g1 (by simp <;> omega)).trans (by simp [go_sem]); have r3 := kkeep g1 (b := w.heap.size) (o := 3) (v := .slice none 0 0) (by simp [go_sem]); have rz3 : w1.frozen? ⟨w.heap.size, 3, none⟩ = false := (kfro g1 (by simp <;> omega)).trans (by simp [go_sem])))
  exact bodyPost_ret (v := .agg #[.int .i64 1, .bool s, .slice p l c, .slice q k d]) (by simp [results, Try.results32, go_sem, r0, r1, r2, r3]) rfl ⟨s, p, l, c, q, k, d, rfl, RP.mono (((((hp).set (x := ⟨w.heap.size, 0, none⟩) (by simp) (.int .i64 1)).set (x := ⟨w.heap.size, 1, none⟩) (by simp) (.bool s)).set (x := ⟨w.heap.size, 2, none⟩) (by simp) (.slice p l c)).set (x := ⟨w.heap.size, 3, none⟩) (by simp) (.slice q k d)) (by simp), (((((Kp.trans ((Kp.refl w).alloc _) g1)).setCell (Nat.le_refl _) _).setCell (Nat.le_refl _) _).setCell (Nat.le_refl _) _).setCell (Nat.le_refl _) _⟩
set_option maxRecDepth 20000 in
set_option maxHeartbeats 1000000 in
theorem boundM_ (w : World) : Calls Try.prog 32 #[.int .u64 18442240474082181120] w fun e w' => ∃ (s : Bool) (p : Option Addr) (l c : Nat) (q : Option Addr) (k d : Nat), e = .returned (.agg #[.int .i64 (-1), .bool s, .slice p l c, .slice q k d]) ∧ RP w.heap.size w' s p l c q k d false 0 ∧ Kp w w' := by
  go_enter Try.func32, Try.ntmps32
  go_wp2_with (first | (go_at_call 37; refine (int0_ _).mono ?_; rintro e w1 ⟨s, p, l, c, q, k, d, rfl, hp, g1⟩; have r0 := kkeep g1 (b := w.heap.size) (o := 0) (v := .int .i64 0) (by simp [go_sem]); have rz0 : w1.frozen? ⟨w.heap.size, 0, none⟩ = false := (kfro g1 (by simp <;> omega)).trans (by simp [go_sem]); have r1 := kkeep g1 (b := w.heap.size) (o := 1) (v := .bool false) (by simp [go_sem]); have rz1 : w1.frozen? ⟨w.heap.size, 1, none⟩ = false := (kfro g1 (by simp <;> omega)).trans (by simp [go_sem]); have r2 := kkeep g1 (b := w.heap.size) (o := 2) (v := .slice none 0 0) (by simp [go_sem]); have rz2 : w1.frozen? ⟨w.heap.size, 2, none⟩ = false := (kfro g1 (by simp <;> omega)).trans (by simp [go_sem]); have r3 := kkeep g1 (b := w.heap.size) (o := 3) (v := .slice none 0 0) (by simp [go_sem]); have rz3 : w1.frozen? ⟨w.heap.size, 3, none⟩ = false := (kfro g1 (by simp <;> omega)).trans (by simp [go_sem])))
  exact bodyPost_ret (v := .agg #[.int .i64 (-1), .bool s, .slice p l c, .slice q k d]) (by simp [results, Try.results32, go_sem, r0, r1, r2, r3]) rfl ⟨s, p, l, c, q, k, d, rfl, RP.mono (((((hp).set (x := ⟨w.heap.size, 0, none⟩) (by simp) (.int .i64 (-1))).set (x := ⟨w.heap.size, 1, none⟩) (by simp) (.bool s)).set (x := ⟨w.heap.size, 2, none⟩) (by simp) (.slice p l c)).set (x := ⟨w.heap.size, 3, none⟩) (by simp) (.slice q k d)) (by simp), (((((Kp.trans ((Kp.refl w).alloc _) g1)).setCell (Nat.le_refl _) _).setCell (Nat.le_refl _) _).setCell (Nat.le_refl _) _).setCell (Nat.le_refl _) _⟩
set_option maxRecDepth 20000 in
set_option maxHeartbeats 1000000 in
theorem boundF_ (n : Bool) (m : Nat) (hm : m < 9218868437227405312) (ht : Fq.wD n m ≠ 9223372036854775808) (w : World) : Calls Try.prog 32 #[.int .u64 ((Fq.wD n m : Nat) : Int)] w fun e w' => ∃ (s : Bool) (p : Option Addr) (l c : Nat) (q : Option Addr) (k d : Nat), e = .returned (.agg #[.int .i64 0, .bool s, .slice p l c, .slice q k d]) ∧ RP w.heap.size w' s p l c q k d n m ∧ Kp w w' := by
  have hf := fromR_ n m hm
  have hq := Fq.rplain6_ n m (by omega)
  rw [show Fq.pla (Fq.wD n m) = Fq.wD n m from by unfold Fq.pla; rw [if_neg ht]] at hq
  have t1 : (((Fq.wD n m : Nat) : Int) == 9218868437227405312) = false := by
    have : Fq.wD n m ≠ 9218868437227405312 := by unfold Fq.wD; cases n <;> simp <;> omega
    simp; omega
  have t2 : (((Fq.wD n m : Nat) : Int) == 18442240474082181120) = false := by
    have : Fq.wD n m ≠ 18442240474082181120 := by unfold Fq.wD; cases n <;> simp <;> omega
    simp; omega
  generalize ((Fq.wD n m : Nat) : Int) = X at hf hq t1 t2 ⊢
  clear hm ht
  go_enter Try.func32, Try.ntmps32
  go_wp2_with (first | (go_at_call 39; refine (hq _).mono ?_; rintro e w' ⟨rfl, rfl⟩) | (go_at_call 40; refine (hf _).mono ?_; rintro e w1 ⟨s, p, l, c, q, k, d, rfl, hp, g1⟩; have r0 := kkeep g1 (b := w.heap.size) (o := 0) (v := .int .i64 0) (by simp [go_sem]); have rz0 : w1.frozen? ⟨w.heap.size, 0, none⟩ = false := (kfro g1 (by simp <;> omega)).trans (by simp [go_sem]); have r1 := kkeep g1 (b := w.heap.size) (o := 1) (v := .bool false) (by simp [go_sem]); have rz1 : w1.frozen? ⟨w.heap.size, 1, none⟩ = false := (kfro g1 (by simp <;> omega)).trans (by simp [go_sem]); have r2 := kkeep g1 (b := w.heap.size) (o := 2) (v := .slice none 0 0) (by simp [go_sem]); have rz2 : w1.frozen? ⟨w.heap.size, 2, none⟩ = false := (kfro g1 (by simp <;> omega)).trans (by simp [go_sem]); have r3 := kkeep g1 (b := w.heap.size) (o := 3) (v := .slice none 0 0) (by simp [go_sem]); have rz3 : w1.frozen? ⟨w.heap.size, 3, none⟩ = false := (kfro g1 (by simp <;> omega)).trans (by simp [go_sem])))
  exact bodyPost_ret (v := .agg #[.int .i64 0, .bool s, .slice p l c, .slice q k d]) (by simp [results, Try.results32, go_sem, r0, r1, r2, r3]) rfl ⟨s, p, l, c, q, k, d, rfl, RP.mono (((((hp).set (x := ⟨w.heap.size, 0, none⟩) (by simp) (.int .i64 0)).set (x := ⟨w.heap.size, 1, none⟩) (by simp) (.bool s)).set (x := ⟨w.heap.size, 2, none⟩) (by simp) (.slice p l c)).set (x := ⟨w.heap.size, 3, none⟩) (by simp) (.slice q k d)) (by simp), (((((Kp.trans ((Kp.refl w).alloc _) g1)).setCell (Nat.le_refl _) _).setCell (Nat.le_refl _) _).setCell (Nat.le_refl _) _).setCell (Nat.le_refl _) _⟩
/-- an end's infinity, and the number beside it -/
def infS (n : Bool) (m : Nat) : Int := if m = 9218868437227405312 then (if n then -1 else 1) else 0
def fN (n : Bool) (m : Nat) : Bool := if m = 9218868437227405312 then false else n
def fM (m : Nat) : Nat := if m = 9218868437227405312 then 0 else m
theorem bound_ (n : Bool) (m : Nat) (hm : m ≤ 9218868437227405312) (ht : Fq.wD n m ≠ 9223372036854775808) (w : World) : Calls Try.prog 32 #[.int .u64 ((Fq.wD n m : Nat) : Int)] w fun e w' => ∃ (s : Bool) (p : Option Addr) (l c : Nat) (q : Option Addr) (k d : Nat), e = .returned (.agg #[.int .i64 (infS n m), .bool s, .slice p l c, .slice q k d]) ∧ RP w.heap.size w' s p l c q k d (fN n m) (fM m) ∧ Kp w w' := by
  unfold infS fN fM
  by_cases c : m = 9218868437227405312
  · rw [if_pos c, if_pos c, if_pos c, c]
    cases n
    · exact boundI_ w
    · exact boundM_ w
  · rw [if_neg c, if_neg c, if_neg c]
    exact boundF_ n m (by omega) ht w
set_option linter.unusedSimpArgs false
set_option maxRecDepth 20000 in
set_option maxHeartbeats 1000000 in
theorem rnegT_ (p : Option Addr) (l c : Nat) (q : Option Addr) (k d : Nat) (a b : Nat) (w : World) (h1 : Own w 0 (.slice p l c) (dig a)) (h2 : Own w 0 (.slice q k d) (dig b)) (la : blen a ≤ 1500) (lb : blen b ≤ 1500) : Calls Try.prog 35 #[.agg #[.bool true, .slice p l c, .slice q k d]] w fun e w' => ∃ (p2 : Option Addr) (l2 c2 : Nat) (q2 : Option Addr) (k2 d2 : Nat), e = .returned (.agg #[.bool false, .slice p2 l2 c2, .slice q2 k2 d2]) ∧ Own w' w.heap.size (.slice p2 l2 c2) (dig a) ∧ Own w' w.heap.size (.slice q2 k2 d2) (dig b) ∧ Kp w w' := by
  have nrm : ∀ (pp : Option Addr) (ll cc : Nat) (x : Nat), Own w 0 (.slice pp ll cc) (dig x) → blen x ≤ 1500 → ∀ W : World, Kp w W → Calls Try.prog 50 #[.slice pp ll cc] W fun e w' => ∃ (p2 : Option Addr) (l2 c2 : Nat), e = .returned (.slice p2 l2 c2) ∧ Own w' W.heap.size (.slice p2 l2 c2) (dig x) ∧ Kp W w' := by
    intro pp ll cc x h hx W g
    have hl : (dig x).length ≤ 1048576 := Nat.le_trans (show len32 x ≤ 4000 from dlen x 4000 (by omega)) (by decide)
    have h := normO (.slice pp ll cc) (dig x) W (h.kp g).ls (Wd_dig _) hl
    rw [val_dig] at h
    refine h.mono ?_
    rintro e w' ⟨v', rfl, o1, g2⟩
    obtain ⟨p2, c2, rfl, -, -⟩ := o1.arr
    exact ⟨p2, _, c2, rfl, o1, g2⟩
  have hs1 := nrm p l c a h1 la
  have hs2 := nrm q k d b h2 lb
  clear nrm h1 h2 la lb
  go_enter Try.func35, Try.ntmps35
  go_wp2
  generalize hW : ((w.alloc (.cells #[.bool true, .slice p l c, .slice q k d] 41)).alloc (.cells #[.bool false, .slice none 0 0, .slice none 0 0] 41)) = W
  have kw : Kp w W := by rw [← hW]; exact ((Kp.refl w).alloc _).alloc _
  have xw0 : W.cell? ⟨w.heap.size, 0, none⟩ = some (.bool true) := by rw [← hW]; simp [go_sem]
  have dw0 : W.drew.cell? ⟨w.heap.size, 0, none⟩ = some (.bool true) := xw0
  have xw1 : W.cell? ⟨w.heap.size, 1, none⟩ = some (.slice p l c) := by rw [← hW]; simp [go_sem]
  have dw1 : W.drew.cell? ⟨w.heap.size, 1, none⟩ = some (.slice p l c) := xw1
  have xw2 : W.cell? ⟨w.heap.size, 2, none⟩ = some (.slice q k d) := by rw [← hW]; simp [go_sem]
  have dw2 : W.drew.cell? ⟨w.heap.size, 2, none⟩ = some (.slice q k d) := xw2
  have r0 : W.cell? ⟨w.heap.size + 1, 0, none⟩ = some (.bool false) := by rw [← hW]; simp [go_sem]
  have rz0 : W.frozen? ⟨w.heap.size + 1, 0, none⟩ = false := by rw [← hW]; simp [go_sem]
  have r1 : W.cell? ⟨w.heap.size + 1, 1, none⟩ = some (.slice none 0 0) := by rw [← hW]; simp [go_sem]
  have rz1 : W.frozen? ⟨w.heap.size + 1, 1, none⟩ = false := by rw [← hW]; simp [go_sem]
  have r2 : W.cell? ⟨w.heap.size + 1, 2, none⟩ = some (.slice none 0 0) := by rw [← hW]; simp [go_sem]
  have rz2 : W.frozen? ⟨w.heap.size + 1, 2, none⟩ = false := by rw [← hW]; simp [go_sem]
  have hBW : w.heap.size + 1 < W.heap.size := cell_lt r0
  have hn1 : w.heap.size + 1 ≠ w.heap.size := by omega
  clear hW
  refine wp_region_held_drew (S := (fun w' => w'.cell? ⟨w.heap.size, 0, none⟩ = some (.bool true) ∧ w'.cell? ⟨w.heap.size, 1, none⟩ = some (.slice p l c) ∧ w'.cell? ⟨w.heap.size, 2, none⟩ = some (.slice q k d))) (by kernel_rfl) ?_ (fun hHeld => ?_)
  · exact ⟨dw0, dw1, dw2⟩
  refine wpAnyH_take (i := 0) (v := .pointer (some ⟨w.heap.size, 0, none⟩)) rfl (by kernel_rfl) (by kernel_rfl) (by kernel_rfl) (fun _ _ _ h => h) (Or.inl ⟨by rfl, ?_⟩) (by assumption) ?_
  · intro w hSw
    (try dsimp only at hSw)
    go_simp
  try simp only [Act.put, List.getElem_toArray, List.getElem_cons_zero, List.getElem_cons_succ, List.setIfInBounds_toArray, List.set_cons_zero, List.set_cons_succ]
  refine wpAnyH_take (i := 1) (v := .bool true) rfl (by kernel_rfl) (by kernel_rfl) (by kernel_rfl) (fun _ _ _ h => h) (Or.inl ⟨by rfl, ?_⟩) (by assumption) ?_
  · intro w hSw
    (try dsimp only at hSw)
    go_simp
  try simp only [Act.put, List.getElem_toArray, List.getElem_cons_zero, List.getElem_cons_succ, List.setIfInBounds_toArray, List.set_cons_zero, List.set_cons_succ]
  refine wpAnyH_take (i := 2) (v := .bool false) rfl (by kernel_rfl) (by kernel_rfl) (by kernel_rfl) (fun _ _ _ h => h) (Or.inl ⟨by rfl, ?_⟩) (by assumption) ?_
  · intro w hSw
    (try dsimp only at hSw)
    go_simp
  try simp only [Act.put, List.getElem_toArray, List.getElem_cons_zero, List.getElem_cons_succ, List.setIfInBounds_toArray, List.set_cons_zero, List.set_cons_succ]
  refine wpAnyH_take (i := 3) (v := .bool false) rfl (by kernel_rfl) (by kernel_rfl) (by kernel_rfl) (fun _ _ _ h => h) (Or.inl ⟨by rfl, ?_⟩) (by assumption) ?_
  · intro w hSw
    (try dsimp only at hSw)
    go_simp
  try simp only [Act.put, List.getElem_toArray, List.getElem_cons_zero, List.getElem_cons_succ, List.setIfInBounds_toArray, List.set_cons_zero, List.set_cons_succ]
  refine wpAnyH_take (i := 4) (v := undef) rfl (by kernel_rfl) (by kernel_rfl) (by kernel_rfl) (fun _ _ _ h => h) (Or.inr ⟨by rfl, rfl⟩) (by assumption) ?_
  try simp only [Act.put, List.getElem_toArray, List.getElem_cons_zero, List.getElem_cons_succ, List.setIfInBounds_toArray, List.set_cons_zero, List.set_cons_succ]
  refine wpAnyH_take (i := 5) (v := undef) rfl (by kernel_rfl) (by kernel_rfl) (by kernel_rfl) (fun _ _ _ h => h) (Or.inr ⟨by rfl, rfl⟩) (by assumption) ?_
  try simp only [Act.put, List.getElem_toArray, List.getElem_cons_zero, List.getElem_cons_succ, List.setIfInBounds_toArray, List.set_cons_zero, List.set_cons_succ]
  refine wpAnyH_take (i := 6) (v := undef) rfl (by kernel_rfl) (by kernel_rfl) (by kernel_rfl) (fun _ _ _ h => h) (Or.inr ⟨by rfl, rfl⟩) (by assumption) ?_
  try simp only [Act.put, List.getElem_toArray, List.getElem_cons_zero, List.getElem_cons_succ, List.setIfInBounds_toArray, List.set_cons_zero, List.set_cons_succ]
  refine wpAnyH_take (i := 7) (v := undef) rfl (by kernel_rfl) (by kernel_rfl) (by kernel_rfl) (fun _ _ _ h => h) (Or.inr ⟨by rfl, rfl⟩) (by assumption) ?_
  try simp only [Act.put, List.getElem_toArray, List.getElem_cons_zero, List.getElem_cons_succ, List.setIfInBounds_toArray, List.set_cons_zero, List.set_cons_succ]
  refine wpAnyH_take (i := 8) (v := .bool false) rfl (by kernel_rfl) (by kernel_rfl) (by kernel_rfl) (fun _ _ _ h => h) (Or.inl ⟨by rfl, ?_⟩) (by assumption) ?_
  · intro w hSw
    (try dsimp only at hSw)
    go_simp
  try simp only [Act.put, List.getElem_toArray, List.getElem_cons_zero, List.getElem_cons_succ, List.setIfInBounds_toArray, List.set_cons_zero, List.set_cons_succ]
  refine wpAnyH_take (i := 9) (v := .pointer (some ⟨w.heap.size, 1, none⟩)) rfl (by kernel_rfl) (by kernel_rfl) (by kernel_rfl) (fun _ _ _ h => h) (Or.inl ⟨by rfl, ?_⟩) (by assumption) ?_
  · intro w hSw
    (try dsimp only at hSw)
    go_simp
  try simp only [Act.put, List.getElem_toArray, List.getElem_cons_zero, List.getElem_cons_succ, List.setIfInBounds_toArray, List.set_cons_zero, List.set_cons_succ]
  refine wpAnyH_take (i := 10) (v := .slice p l c) rfl (by kernel_rfl) (by kernel_rfl) (by kernel_rfl) (fun _ _ _ h => h) (Or.inl ⟨by rfl, ?_⟩) (by assumption) ?_
  · intro w hSw
    (try dsimp only at hSw)
    go_simp
  try simp only [Act.put, List.getElem_toArray, List.getElem_cons_zero, List.getElem_cons_succ, List.setIfInBounds_toArray, List.set_cons_zero, List.set_cons_succ]
  refine wpAnyH_take (i := 12) (v := .pointer (some ⟨w.heap.size, 2, none⟩)) rfl (by kernel_rfl) (by kernel_rfl) (by kernel_rfl) (fun _ _ _ h => h) (Or.inl ⟨by rfl, ?_⟩) (by assumption) ?_
  · intro w hSw
    (try dsimp only at hSw)
    go_simp
  try simp only [Act.put, List.getElem_toArray, List.getElem_cons_zero, List.getElem_cons_succ, List.setIfInBounds_toArray, List.set_cons_zero, List.set_cons_succ]
  refine wpAnyH_take (i := 13) (v := .slice q k d) rfl (by kernel_rfl) (by kernel_rfl) (by kernel_rfl) (fun _ _ _ h => h) (Or.inl ⟨by rfl, ?_⟩) (by assumption) ?_
  · intro w hSw
    (try dsimp only at hSw)
    go_simp
  try simp only [Act.put, List.getElem_toArray, List.getElem_cons_zero, List.getElem_cons_succ, List.setIfInBounds_toArray, List.set_cons_zero, List.set_cons_succ]
  refine wpAnyH_ready (rs := [11]) (by kernel_rfl) (by simp) ?_
  refine AllReadyH.cons rfl (fun K hK => ?_) AllReadyH.nil
  go_simp
  go_at_call_of 50 (Value.slice p l c); refine (hs1 _ ?q0).mono ?_; (case q0 => exact kw.drew); rintro e wl ⟨p2, l2, c2, rfl, ho1, gl⟩; have kl : Kp W wl := Kp.trans (Kp.drew (Kp.refl _)) gl; have aw0 := kkeep kl xw0; have aw1 := kkeep kl xw1; have aw2 := kkeep kl xw2
  go_wp2_with fail
  refine hK.out _ _ ?_ (fun hHeld => ?_)
  · exact ⟨aw0, aw1, aw2⟩
  clear hK K
  try simp only [Act.put, List.getElem_toArray, List.getElem_cons_zero, List.getElem_cons_succ, List.setIfInBounds_toArray, List.set_cons_zero, List.set_cons_succ]
  refine wpAnyH_ready (rs := [14]) (by kernel_rfl) (by simp) ?_
  refine AllReadyH.cons rfl (fun K hK => ?_) AllReadyH.nil
  go_simp
  go_at_call_of 50 (Value.slice q k d); refine (hs2 _ ?q0).mono ?_; (case q0 => exact kw.trans kl); rintro e wh ⟨q2, k2, d2, rfl, ho2, gh⟩; have kh : Kp W wh := Kp.trans kl gh; have bw0 := kkeep kh xw0; have bw1 := kkeep kh xw1; have bw2 := kkeep kh xw2; have R0 := kkeep kh r0; have Rz0 : wh.frozen? ⟨w.heap.size + 1, 0, none⟩ = false := (kfro kh (cell_lt r0)).trans rz0; have R1 := kkeep kh r1; have Rz1 : wh.frozen? ⟨w.heap.size + 1, 1, none⟩ = false := (kfro kh (cell_lt r1)).trans rz1; have R2 := kkeep kh r2; have Rz2 : wh.frozen? ⟨w.heap.size + 1, 2, none⟩ = false := (kfro kh (cell_lt r2)).trans rz2
  go_wp2_with fail
  refine hK.out _ _ ?_ (fun hHeld => ?_)
  · exact ⟨bw0, bw1, bw2⟩
  clear hK K
  try simp only [Act.put, List.getElem_toArray, List.getElem_cons_zero, List.getElem_cons_succ, List.setIfInBounds_toArray, List.set_cons_zero, List.set_cons_succ]
  refine wpAnyH_take (i := 15) (v := .agg #[.bool false, .slice p2 l2 c2, .slice q2 k2 d2]) rfl (by kernel_rfl) (by kernel_rfl) (by kernel_rfl) (fun _ _ _ h => h) (Or.inl ⟨by rfl, ?_⟩) (by assumption) ?_
  · intro w hSw
    (try dsimp only at hSw)
    go_simp
  try simp only [Act.put, List.getElem_toArray, List.getElem_cons_zero, List.getElem_cons_succ, List.setIfInBounds_toArray, List.set_cons_zero, List.set_cons_succ]
  refine wpAnyH_ready (rs := [16]) (by kernel_rfl) (by simp) ?_
  refine AllReadyH.cons rfl (fun K hK => ?_) AllReadyH.nil
  go_simp
  refine hK.out _ _ ?_ (fun hHeld => ?_)
  · exact ⟨((World.cell?_setCell_far _ _ _ _ hn1).trans ((World.cell?_setCell_far _ _ _ _ hn1).trans ((World.cell?_setCell_far _ _ _ _ hn1).trans bw0))), ((World.cell?_setCell_far _ _ _ _ hn1).trans ((World.cell?_setCell_far _ _ _ _ hn1).trans ((World.cell?_setCell_far _ _ _ _ hn1).trans bw1))), ((World.cell?_setCell_far _ _ _ _ hn1).trans ((World.cell?_setCell_far _ _ _ _ hn1).trans ((World.cell?_setCell_far _ _ _ _ hn1).trans bw2)))⟩
  clear hK K
  try simp only [Act.put, List.getElem_toArray, List.getElem_cons_zero, List.getElem_cons_succ, List.setIfInBounds_toArray, List.set_cons_zero, List.set_cons_succ]
  refine wpAnyH_done (by kernel_rfl) ?_ _
  all_goals go_wp2
  all_goals (
    have hle : w.heap.size ≤ W.heap.size := by omega
    have O1 : Own wh W.heap.size (.slice p2 l2 c2) (dig a) := (ho1.mono (base' := W.heap.size) (Nat.le_refl _)).kp gh
    have O2 : Own wh W.heap.size (.slice q2 k2 d2) (dig b) := ho2.mono (base' := W.heap.size) (Below.size kl)
    exact bodyPost_ret (v := .agg #[.bool false, .slice p2 l2 c2, .slice q2 k2 d2]) (by simp [results, Try.results35, go_sem, R0, R1, R2]) rfl ⟨p2, l2, c2, q2, k2, d2, rfl, (((O1.setOther (a := ⟨w.heap.size + 1, 0, none⟩) hBW _).setOther (a := ⟨w.heap.size + 1, 1, none⟩) hBW _).setOther (a := ⟨w.heap.size + 1, 2, none⟩) hBW _).mono hle, (((O2.setOther (a := ⟨w.heap.size + 1, 0, none⟩) hBW _).setOther (a := ⟨w.heap.size + 1, 1, none⟩) hBW _).setOther (a := ⟨w.heap.size + 1, 2, none⟩) hBW _).mono hle, ((((Kp.trans kw kh)).setCell (by simp) _).setCell (by simp) _).setCell (by simp) _⟩)
set_option maxRecDepth 20000 in
set_option maxHeartbeats 1000000 in
theorem rnegP_ (p : Option Addr) (l c : Nat) (q : Option Addr) (k d : Nat) (a b : Nat) (w : World) (h1 : Own w 0 (.slice p l c) (dig a)) (h2 : Own w 0 (.slice q k d) (dig b)) (la : blen a ≤ 1500) (lb : blen b ≤ 1500) (t1 : 0 < l) : Calls Try.prog 35 #[.agg #[.bool false, .slice p l c, .slice q k d]] w fun e w' => ∃ (p2 : Option Addr) (l2 c2 : Nat) (q2 : Option Addr) (k2 d2 : Nat), e = .returned (.agg #[.bool true, .slice p2 l2 c2, .slice q2 k2 d2]) ∧ Own w' w.heap.size (.slice p2 l2 c2) (dig a) ∧ Own w' w.heap.size (.slice q2 k2 d2) (dig b) ∧ Kp w w' := by
  have nrm : ∀ (pp : Option Addr) (ll cc : Nat) (x : Nat), Own w 0 (.slice pp ll cc) (dig x) → blen x ≤ 1500 → ∀ W : World, Kp w W → Calls Try.prog 50 #[.slice pp ll cc] W fun e w' => ∃ (p2 : Option Addr) (l2 c2 : Nat), e = .returned (.slice p2 l2 c2) ∧ Own w' W.heap.size (.slice p2 l2 c2) (dig x) ∧ Kp W w' := by
    intro pp ll cc x h hx W g
    have hl : (dig x).length ≤ 1048576 := Nat.le_trans (show len32 x ≤ 4000 from dlen x 4000 (by omega)) (by decide)
    have h := normO (.slice pp ll cc) (dig x) W (h.kp g).ls (Wd_dig _) hl
    rw [val_dig] at h
    refine h.mono ?_
    rintro e w' ⟨v', rfl, o1, g2⟩
    obtain ⟨p2, c2, rfl, -, -⟩ := o1.arr
    exact ⟨p2, _, c2, rfl, o1, g2⟩
  have hs1 := nrm p l c a h1 la
  have hs2 := nrm q k d b h2 lb
  clear nrm h1 h2 la lb
  go_enter Try.func35, Try.ntmps35
  go_wp2
  generalize hW : ((w.alloc (.cells #[.bool false, .slice p l c, .slice q k d] 41)).alloc (.cells #[.bool false, .slice none 0 0, .slice none 0 0] 41)) = W
  have kw : Kp w W := by rw [← hW]; exact ((Kp.refl w).alloc _).alloc _
  have xw0 : W.cell? ⟨w.heap.size, 0, none⟩ = some (.bool false) := by rw [← hW]; simp [go_sem]
  have dw0 : W.drew.cell? ⟨w.heap.size, 0, none⟩ = some (.bool false) := xw0
  have xw1 : W.cell? ⟨w.heap.size, 1, none⟩ = some (.slice p l c) := by rw [← hW]; simp [go_sem]
  have dw1 : W.drew.cell? ⟨w.heap.size, 1, none⟩ = some (.slice p l c) := xw1
  have xw2 : W.cell? ⟨w.heap.size, 2, none⟩ = some (.slice q k d) := by rw [← hW]; simp [go_sem]
  have dw2 : W.drew.cell? ⟨w.heap.size, 2, none⟩ = some (.slice q k d) := xw2
  have r0 : W.cell? ⟨w.heap.size + 1, 0, none⟩ = some (.bool false) := by rw [← hW]; simp [go_sem]
  have rz0 : W.frozen? ⟨w.heap.size + 1, 0, none⟩ = false := by rw [← hW]; simp [go_sem]
  have r1 : W.cell? ⟨w.heap.size + 1, 1, none⟩ = some (.slice none 0 0) := by rw [← hW]; simp [go_sem]
  have rz1 : W.frozen? ⟨w.heap.size + 1, 1, none⟩ = false := by rw [← hW]; simp [go_sem]
  have r2 : W.cell? ⟨w.heap.size + 1, 2, none⟩ = some (.slice none 0 0) := by rw [← hW]; simp [go_sem]
  have rz2 : W.frozen? ⟨w.heap.size + 1, 2, none⟩ = false := by rw [← hW]; simp [go_sem]
  have hBW : w.heap.size + 1 < W.heap.size := cell_lt r0
  have hn1 : w.heap.size + 1 ≠ w.heap.size := by omega
  clear hW
  go_region_held3 (fun w' => w'.cell? ⟨w.heap.size, 0, none⟩ = some (.bool false) ∧ w'.cell? ⟨w.heap.size, 1, none⟩ = some (.slice p l c) ∧ w'.cell? ⟨w.heap.size, 2, none⟩ = some (.slice q k d)) (first | (with_reducible exact ⟨xw0, xw1, xw2⟩) | (with_reducible exact ⟨dw0, dw1, dw2⟩) | (with_reducible exact ⟨aw0, aw1, aw2⟩) | (with_reducible exact ⟨bw0, bw1, bw2⟩) | (exact ⟨((World.cell?_setCell_far _ _ _ _ hn1).trans ((World.cell?_setCell_far _ _ _ _ hn1).trans ((World.cell?_setCell_far _ _ _ _ hn1).trans bw0))), ((World.cell?_setCell_far _ _ _ _ hn1).trans ((World.cell?_setCell_far _ _ _ _ hn1).trans ((World.cell?_setCell_far _ _ _ _ hn1).trans bw1))), ((World.cell?_setCell_far _ _ _ _ hn1).trans ((World.cell?_setCell_far _ _ _ _ hn1).trans ((World.cell?_setCell_far _ _ _ _ hn1).trans bw2)))⟩)) (first | (go_at_call_of 50 (Value.slice p l c); refine (hs1 _ ?q0).mono ?_; (case q0 => exact kw.drew); rintro e wl ⟨p2, l2, c2, rfl, ho1, gl⟩; have kl : Kp W wl := Kp.trans (Kp.drew (Kp.refl _)) gl; have aw0 := kkeep kl xw0; have aw1 := kkeep kl xw1; have aw2 := kkeep kl xw2) | (go_at_call_of 50 (Value.slice q k d); refine (hs2 _ ?q0).mono ?_; (case q0 => exact kw.trans kl); rintro e wh ⟨q2, k2, d2, rfl, ho2, gh⟩; have kh : Kp W wh := Kp.trans kl gh; have bw0 := kkeep kh xw0; have bw1 := kkeep kh xw1; have bw2 := kkeep kh xw2; have R0 := kkeep kh r0; have Rz0 : wh.frozen? ⟨w.heap.size + 1, 0, none⟩ = false := (kfro kh (cell_lt r0)).trans rz0; have R1 := kkeep kh r1; have Rz1 : wh.frozen? ⟨w.heap.size + 1, 1, none⟩ = false := (kfro kh (cell_lt r1)).trans rz1; have R2 := kkeep kh r2; have Rz2 : wh.frozen? ⟨w.heap.size + 1, 2, none⟩ = false := (kfro kh (cell_lt r2)).trans rz2))
  all_goals go_wp2
  all_goals (
    have hle : w.heap.size ≤ W.heap.size := by omega
    have O1 : Own wh W.heap.size (.slice p2 l2 c2) (dig a) := (ho1.mono (base' := W.heap.size) (Nat.le_refl _)).kp gh
    have O2 : Own wh W.heap.size (.slice q2 k2 d2) (dig b) := ho2.mono (base' := W.heap.size) (Below.size kl)
    exact bodyPost_ret (v := .agg #[.bool true, .slice p2 l2 c2, .slice q2 k2 d2]) (by simp [results, Try.results35, go_sem, R0, R1, R2]) rfl ⟨p2, l2, c2, q2, k2, d2, rfl, (((O1.setOther (a := ⟨w.heap.size + 1, 0, none⟩) hBW _).setOther (a := ⟨w.heap.size + 1, 1, none⟩) hBW _).setOther (a := ⟨w.heap.size + 1, 2, none⟩) hBW _).mono hle, (((O2.setOther (a := ⟨w.heap.size + 1, 0, none⟩) hBW _).setOther (a := ⟨w.heap.size + 1, 1, none⟩) hBW _).setOther (a := ⟨w.heap.size + 1, 2, none⟩) hBW _).mono hle, ((((Kp.trans kw kh)).setCell (by simp) _).setCell (by simp) _).setCell (by simp) _⟩)
set_option maxRecDepth 20000 in
set_option maxHeartbeats 1000000 in
theorem rnegZ_ (p : Option Addr) (l c : Nat) (q : Option Addr) (k d : Nat) (a b : Nat) (w : World) (h1 : Own w 0 (.slice p l c) (dig a)) (h2 : Own w 0 (.slice q k d) (dig b)) (la : blen a ≤ 1500) (lb : blen b ≤ 1500) (t1 : ¬ (0 < l)) : Calls Try.prog 35 #[.agg #[.bool false, .slice p l c, .slice q k d]] w fun e w' => ∃ (p2 : Option Addr) (l2 c2 : Nat) (q2 : Option Addr) (k2 d2 : Nat), e = .returned (.agg #[.bool false, .slice p2 l2 c2, .slice q2 k2 d2]) ∧ Own w' w.heap.size (.slice p2 l2 c2) (dig a) ∧ Own w' w.heap.size (.slice q2 k2 d2) (dig b) ∧ Kp w w' := by
  have nrm : ∀ (pp : Option Addr) (ll cc : Nat) (x : Nat), Own w 0 (.slice pp ll cc) (dig x) → blen x ≤ 1500 → ∀ W : World, Kp w W → Calls Try.prog 50 #[.slice pp ll cc] W fun e w' => ∃ (p2 : Option Addr) (l2 c2 : Nat), e = .returned (.slice p2 l2 c2) ∧ Own w' W.heap.size (.slice p2 l2 c2) (dig x) ∧ Kp W w' := by
    intro pp ll cc x h hx W g
    have hl : (dig x).length ≤ 1048576 := Nat.le_trans (show len32 x ≤ 4000 from dlen x 4000 (by omega)) (by decide)
    have h := normO (.slice pp ll cc) (dig x) W (h.kp g).ls (Wd_dig _) hl
    rw [val_dig] at h
    refine h.mono ?_
    rintro e w' ⟨v', rfl, o1, g2⟩
    obtain ⟨p2, c2, rfl, -, -⟩ := o1.arr
    exact ⟨p2, _, c2, rfl, o1, g2⟩
  have hs1 := nrm p l c a h1 la
  have hs2 := nrm q k d b h2 lb
  clear nrm h1 h2 la lb
  go_enter Try.func35, Try.ntmps35
  go_wp2
  generalize hW : ((w.alloc (.cells #[.bool false, .slice p l c, .slice q k d] 41)).alloc (.cells #[.bool false, .slice none 0 0, .slice none 0 0] 41)) = W
  have kw : Kp w W := by rw [← hW]; exact ((Kp.refl w).alloc _).alloc _
  have xw0 : W.cell? ⟨w.heap.size, 0, none⟩ = some (.bool false) := by rw [← hW]; simp [go_sem]
  have dw0 : W.drew.cell? ⟨w.heap.size, 0, none⟩ = some (.bool false) := xw0
  have xw1 : W.cell? ⟨w.heap.size, 1, none⟩ = some (.slice p l c) := by rw [← hW]; simp [go_sem]
  have dw1 : W.drew.cell? ⟨w.heap.size, 1, none⟩ = some (.slice p l c) := xw1
  have xw2 : W.cell? ⟨w.heap.size, 2, none⟩ = some (.slice q k d) := by rw [← hW]; simp [go_sem]
  have dw2 : W.drew.cell? ⟨w.heap.size, 2, none⟩ = some (.slice q k d) := xw2
  have r0 : W.cell? ⟨w.heap.size + 1, 0, none⟩ = some (.bool false) := by rw [← hW]; simp [go_sem]
  have rz0 : W.frozen? ⟨w.heap.size + 1, 0, none⟩ = false := by rw [← hW]; simp [go_sem]
  have r1 : W.cell? ⟨w.heap.size + 1, 1, none⟩ = some (.slice none 0 0) := by rw [← hW]; simp [go_sem]
  have rz1 : W.frozen? ⟨w.heap.size + 1, 1, none⟩ = false := by rw [← hW]; simp [go_sem]
  have r2 : W.cell? ⟨w.heap.size + 1, 2, none⟩ = some (.slice none 0 0) := by rw [← hW]; simp [go_sem]
  have rz2 : W.frozen? ⟨w.heap.size + 1, 2, none⟩ = false := by rw [← hW]; simp [go_sem]
  have hBW : w.heap.size + 1 < W.heap.size := cell_lt r0
  have hn1 : w.heap.size + 1 ≠ w.heap.size := by omega
  clear hW
  go_region_held3 (fun w' => w'.cell? ⟨w.heap.size, 0, none⟩ = some (.bool false) ∧ w'.cell? ⟨w.heap.size, 1, none⟩ = some (.slice p l c) ∧ w'.cell? ⟨w.heap.size, 2, none⟩ = some (.slice q k d)) (first | (with_reducible exact ⟨xw0, xw1, xw2⟩) | (with_reducible exact ⟨dw0, dw1, dw2⟩) | (with_reducible exact ⟨aw0, aw1, aw2⟩) | (with_reducible exact ⟨bw0, bw1, bw2⟩) | (exact ⟨((World.cell?_setCell_far _ _ _ _ hn1).trans ((World.cell?_setCell_far _ _ _ _ hn1).trans ((World.cell?_setCell_far _ _ _ _ hn1).trans bw0))), ((World.cell?_setCell_far _ _ _ _ hn1).trans ((World.cell?_setCell_far _ _ _ _ hn1).trans ((World.cell?_setCell_far _ _ _ _ hn1).trans bw1))), ((World.cell?_setCell_far _ _ _ _ hn1).trans ((World.cell?_setCell_far _ _ _ _ hn1).trans ((World.cell?_setCell_far _ _ _ _ hn1).trans bw2)))⟩)) (first | (go_at_call_of 50 (Value.slice p l c); refine (hs1 _ ?q0).mono ?_; (case q0 => exact kw.drew); rintro e wl ⟨p2, l2, c2, rfl, ho1, gl⟩; have kl : Kp W wl := Kp.trans (Kp.drew (Kp.refl _)) gl; have aw0 := kkeep kl xw0; have aw1 := kkeep kl xw1; have aw2 := kkeep kl xw2) | (go_at_call_of 50 (Value.slice q k d); refine (hs2 _ ?q0).mono ?_; (case q0 => exact kw.trans kl); rintro e wh ⟨q2, k2, d2, rfl, ho2, gh⟩; have kh : Kp W wh := Kp.trans kl gh; have bw0 := kkeep kh xw0; have bw1 := kkeep kh xw1; have bw2 := kkeep kh xw2; have R0 := kkeep kh r0; have Rz0 : wh.frozen? ⟨w.heap.size + 1, 0, none⟩ = false := (kfro kh (cell_lt r0)).trans rz0; have R1 := kkeep kh r1; have Rz1 : wh.frozen? ⟨w.heap.size + 1, 1, none⟩ = false := (kfro kh (cell_lt r1)).trans rz1; have R2 := kkeep kh r2; have Rz2 : wh.frozen? ⟨w.heap.size + 1, 2, none⟩ = false := (kfro kh (cell_lt r2)).trans rz2))
  all_goals go_wp2
  all_goals (
    have hle : w.heap.size ≤ W.heap.size := by omega
    have O1 : Own wh W.heap.size (.slice p2 l2 c2) (dig a) := (ho1.mono (base' := W.heap.size) (Nat.le_refl _)).kp gh
    have O2 : Own wh W.heap.size (.slice q2 k2 d2) (dig b) := ho2.mono (base' := W.heap.size) (Below.size kl)
    exact bodyPost_ret (v := .agg #[.bool false, .slice p2 l2 c2, .slice q2 k2 d2]) (by simp [results, Try.results35, go_sem, R0, R1, R2]) rfl ⟨p2, l2, c2, q2, k2, d2, rfl, (((O1.setOther (a := ⟨w.heap.size + 1, 0, none⟩) hBW _).setOther (a := ⟨w.heap.size + 1, 1, none⟩) hBW _).setOther (a := ⟨w.heap.size + 1, 2, none⟩) hBW _).mono hle, (((O2.setOther (a := ⟨w.heap.size + 1, 0, none⟩) hBW _).setOther (a := ⟨w.heap.size + 1, 1, none⟩) hBW _).setOther (a := ⟨w.heap.size + 1, 2, none⟩) hBW _).mono hle, ((((Kp.trans kw kh)).setCell (by simp) _).setCell (by simp) _).setCell (by simp) _⟩)

theorem RP.zero {base : Nat} {w : World} {s : Bool} {p : Option Addr} {l c : Nat} {q : Option Addr} {k d : Nat} {n : Bool} (n' : Bool) (h : RP base w s p l c q k d n 0) : RP base w s p l c q k d n' 0 := by
  obtain ⟨a, b, h1, h2, h3⟩ := h
  refine ⟨a, b, h1, h2, fun K hK => ?_⟩
  obtain ⟨f1, f2, f3, f4, f5⟩ := h3 K hK
  refine ⟨f1, f2, ?_, f4, f5⟩
  unfold Iv; rw [Fq.vV_zero]; cases n' <;> cases s <;> rfl
theorem rneg6_ (n : Bool) (m : Nat) (s : Bool) (p : Option Addr) (l c : Nat) (q : Option Addr) (k d : Nat) (B1 : Nat) (w : World) (h : RP B1 w s p l c q k d n m) : Calls Try.prog 35 #[.agg #[.bool s, .slice p l c, .slice q k d]] w fun e w' => ∃ (s2 : Bool) (p2 : Option Addr) (l2 c2 : Nat) (q2 : Option Addr) (k2 d2 : Nat), e = .returned (.agg #[.bool s2, .slice p2 l2 c2, .slice q2 k2 d2]) ∧ RP w.heap.size w' s2 p2 l2 c2 q2 k2 d2 (!n) m ∧ Kp w w' := by
  obtain ⟨a, b, u1, u2, u3⟩ := h
  have hl : l = (dig a).length := by
    obtain ⟨P1, C1, e1, -, -⟩ := u1.arr
    injection e1
  have key : ∀ (s2 : Bool), (a ≠ 0 → s2 = !s) → RF s2 a b (!n) m := by
    intro s2 hs K hK
    obtain ⟨f1, f2, f3, f4, f5⟩ := u3 K hK
    refine ⟨f1, f2, ?_, f4, f5⟩
    have hv : Iv (!n) m = - Iv n m := by unfold Iv; cases n <;> simp
    rw [hv, f3]
    by_cases c0 : a = 0
    · have hz : Fq.vV Ieee.double m = 0 := by
        rw [c0, Nat.zero_mul] at f2
        rcases Nat.mul_eq_zero.1 f2.symm with h | h
        · exact h
        · exact absurd h f1
      rw [hz]; cases s <;> cases s2 <;> rfl
    · rw [hs c0]; cases s <;> simp
  have hf := u3 1074 rfl
  have hl0 : a ≠ 0 → 0 < l := fun h0 => by
    rw [hl]
    rcases Nat.eq_zero_or_pos (dig a).length with z | z
    · have := List.eq_nil_of_length_eq_zero z
      have e := val_dig a
      rw [this] at e
      exact absurd e.symm h0
    · exact z
  have u1 := u1.mono (Nat.zero_le B1)
  have u2 := u2.mono (Nat.zero_le B1)
  cases s
  · by_cases t1 : 0 < l
    · refine (rnegP_ p l c q k d a b w u1 u2 hf.2.2.2.1 hf.2.2.2.2 t1).mono ?_
      rintro e w' ⟨p2, l2, c2, q2, k2, d2, rfl, o1, o2, g⟩
      exact ⟨true, p2, l2, c2, q2, k2, d2, rfl, ⟨a, b, o1, o2, key true (fun _ => rfl)⟩, g⟩
    · refine (rnegZ_ p l c q k d a b w u1 u2 hf.2.2.2.1 hf.2.2.2.2 t1).mono ?_
      rintro e w' ⟨p2, l2, c2, q2, k2, d2, rfl, o1, o2, g⟩
      exact ⟨false, p2, l2, c2, q2, k2, d2, rfl, ⟨a, b, o1, o2, key false (fun h0 => absurd (hl0 h0) t1)⟩, g⟩
  · refine (rnegT_ p l c q k d a b w u1 u2 hf.2.2.2.1 hf.2.2.2.2).mono ?_
    rintro e w' ⟨p2, l2, c2, q2, k2, d2, rfl, o1, o2, g⟩
    exact ⟨false, p2, l2, c2, q2, k2, d2, rfl, ⟨a, b, o1, o2, key false (fun _ => rfl)⟩, g⟩
end Go.Proofs.Ytflhcnmbondpnaa
