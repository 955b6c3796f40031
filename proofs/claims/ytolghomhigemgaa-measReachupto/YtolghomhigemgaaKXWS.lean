import Derived.Test.YtolghomhigemgaaProg
import Derived.Test.YtolghomhigemgaaKXA0
import Derived.Test.YtolghomhigemgaaKXQF
import Derived.Test.YtolghomhigemgaaKQA
import Derived.Test.YtolghomhigemgaaKXQU
import Derived.Test.YtolghomhigemgaaKXEA
import Derived.Test.YtolghomhigemgaaKXNR
import Derived.Test.YtolghomhigemgaaKXM
import Derived.Test.YtolghomhigemgaaKXY
import Derived.Test.YtolghomhigemgaaKXEE
import Derived.Test.YtolghomhigemgaaKMR7Q
import Derived.Test.YtolghomhigemgaaKXMR
import Derived.Test.YtolghomhigemgaaKXM3
import Derived.Test.YtolghomhigemgaaKXO
import Derived.Test.YtolghomhigemgaaKXO3
import Derived.Test.YtolghomhigemgaaKXT
import Derived.Test.YtolghomhigemgaaKXLB
import Derived.Test.YtolghomhigemgaaKRX
import Derived.Test.YtolghomhigemgaaKXRL
import Derived.Test.YtolghomhigemgaaKXCO
import Derived.Test.YtolghomhigemgaaKLN
import Derived.Test.YtolghomhigemgaaKXRN
import Derived.Test.YtolghomhigemgaaKW4
import Derived.Test.YtolghomhigemgaaKBY
import Derived.Test.YtolghomhigemgaaKBW
import Derived.Test.YtolghomhigemgaaKXTZ
import Derived.Test.YtolghomhigemgaaKXG1
import Derived.Test.YtolghomhigemgaaKNSm
import Derived.Test.YtolghomhigemgaaKXH2Q
import Derived.Test.YtolghomhigemgaaKXG4
import Derived.Test.YtolghomhigemgaaKEKF
import Derived.Test.YtolghomhigemgaaKXET
import Derived.Test.YtolghomhigemgaaKXEG
import Derived.Test.YtolghomhigemgaaKXEC
import Derived.Test.YtolghomhigemgaaKXWR
import Derived.Test.YtolghomhigemgaaKXME
import Derived.Test.YtolghomhigemgaaKXMM
import Derived.WalkKit
import Derived.ProofKit
import Derived.RowKit3
import Derived.WalkSpells
import Derived.StillTactics
import Derived.Deep.QuietTactic
import Derived.BigQuiet
import Derived.Below
import Derived.Deep.OwnRows
import Derived.OwnWalk
import Derived.Laws.BitsAllLaws
import Derived.Laws.Slices
import Derived.Laws.Bits64b
import Derived.Laws.FloatArith
import Derived.Deep.RegionHeld3
namespace Go.Proofs.Ytolghomhigemgaa
open Go.RowKit

def H3c (w : World) (b : Nat) (v0 v1 v2 : Value) : Prop := w.cell? ⟨b, 0, none⟩ = some v0 ∧ w.cell? ⟨b, 1, none⟩ = some v1 ∧ w.cell? ⟨b, 2, none⟩ = some v2 ∧ w.frozen? ⟨b, 0, none⟩ = false ∧ w.frozen? ⟨b, 1, none⟩ = false ∧ w.frozen? ⟨b, 2, none⟩ = false
theorem H3c.keep {W w : World} {b : Nat} {v0 v1 v2 : Value} (h : H3c W b v0 v1 v2) (g : Kp W w) : H3c w b v0 v1 v2 := by
  obtain ⟨h0, h1, h2, h3, h4, h5⟩ := h
  exact ⟨kkeep g h0, kkeep g h1, kkeep g h2, (kfro g (cell_lt h0)).trans h3, (kfro g (cell_lt h0)).trans h4, (kfro g (cell_lt h0)).trans h5⟩
theorem H3c.new (w : World) (v0 v1 v2 : Value) (t : TypeId) : H3c (w.alloc (.cells #[v0, v1, v2] t)) w.heap.size v0 v1 v2 := by
  unfold H3c; simp [go_sem]
theorem H3c.lt {w : World} {b : Nat} {v0 v1 v2 : Value} (h : H3c w b v0 v1 v2) : b < w.heap.size := cell_lt h.1
set_option maxRecDepth 20000 in
set_option maxHeartbeats 1000000 in
theorem H3c.put {w : World} {b : Nat} {v0 v1 v2 : Value} (h : H3c w b v0 v1 v2) (u0 u1 u2 : Value) : H3c ((((w.setCell ⟨b, 0, none⟩ u0).setCell ⟨b, 1, none⟩ u1).setCell ⟨b, 2, none⟩ u2)) b u0 u1 u2 := by
  obtain ⟨h0, h1, h2, h3, h4, h5⟩ := h
  unfold H3c; simp [go_sem, h0, h1, h2, h3, h4, h5]
theorem H3c.far1 {w : World} {b : Nat} {v0 v1 v2 : Value} (h : H3c w b v0 v1 v2) (x : Addr) (hne : x.block ≠ b) (u : Value) : H3c (w.setCell x u) b v0 v1 v2 := by
  obtain ⟨h0, h1, h2, h3, h4, h5⟩ := h
  exact ⟨(World.cell?_setCell_far _ _ _ _ hne).trans h0, (World.cell?_setCell_far _ _ _ _ hne).trans h1, (World.cell?_setCell_far _ _ _ _ hne).trans h2, (World.frozen?_setCell _ _ _ _).trans h3, (World.frozen?_setCell _ _ _ _).trans h4, (World.frozen?_setCell _ _ _ _).trans h5⟩
theorem Fq.H2.n1 (w : World) (c : Array Value) (s : TypeId) (u v : Value) (t : TypeId) : Fq.H2 ((w.alloc (.cells c s)).alloc (.cells #[u, v] t)) (w.heap.size + 1) u v := by
  unfold Fq.H2; simp [go_sem]
theorem H3c.n2 (w : World) (c c2 : Array Value) (s s2 : TypeId) (v0 v1 v2 : Value) (t : TypeId) : H3c (((w.alloc (.cells c s)).alloc (.cells c2 s2)).alloc (.cells #[v0, v1, v2] t)) (w.heap.size + 2) v0 v1 v2 := by
  unfold H3c; simp [go_sem]
theorem H3c.n3 (w : World) (c c2 c3 : Array Value) (s s2 s3 : TypeId) (v0 v1 v2 : Value) (t : TypeId) : H3c ((((w.alloc (.cells c s)).alloc (.cells c2 s2)).alloc (.cells c3 s3)).alloc (.cells #[v0, v1, v2] t)) (w.heap.size + 3) v0 v1 v2 := by
  unfold H3c; simp [go_sem]
theorem H3c.two (w : World) (c : Array Value) (v0 v1 v2 : Value) (s t : TypeId) : H3c ((w.alloc (.cells c s)).alloc (.cells #[v0, v1, v2] t)) (w.heap.size + 1) v0 v1 v2 := by
  unfold H3c; simp [go_sem]
theorem Fq.H2.keepK {W w : World} {b : Nat} {u v : Value} (h : Fq.H2 W b u v) (g : Kp W w) : Fq.H2 w b u v := Fq.H2.keep h g
theorem Fq.H2.newD (w : World) (u v : Value) (t : TypeId) : Fq.H2 ((w.alloc (.cells #[u, v] t)).drew) w.heap.size u v := by
  unfold Fq.H2; simp [go_sem]
set_option linter.unusedVariables false
theorem sub_self8 (m : Nat) (h : m < 9218868437227405312) : FloatKind.f64.format.sub m m = some 0 := by
  have g := sub_w false false m m h h 0 (by omega)
  rw [if_pos rfl, show Fq.wD false m = m from rfl] at g
  rw [g]
  have e : rU 0 53 (Int.natAbs 0) 1 = 0 := by
    unfold rU rS rR
    rw [show Int.natAbs 0 = 0 from rfl, Nat.zero_div, Nat.zero_mod, upw_none _ _ _ (by rw [Nat.one_mul]; exact Nat.two_pow_pos _)]
    simp
  rw [e]
  unfold finU
  rw [blen_zero, if_pos (by omega), rgU_zero]
  rfl
theorem sub_inf8 : FloatKind.f64.format.sub 9218868437227405312 9218868437227405312 = none := by decide +kernel
theorem nan_cut8 (t : Nat) : 9218868437227405312 < (t % 2 * 2 ^ 63 + 0x7ff0000000000000 + 1 + t / 2 % (2 ^ 52 - 1)) % 9223372036854775808 ∧ t % 2 * 2 ^ 63 + 0x7ff0000000000000 + 1 + t / 2 % (2 ^ 52 - 1) < 18446744073709551616 := by
  rw [show (2 : Nat) ^ 63 = 9223372036854775808 from by decide, show (2 : Nat) ^ 52 - 1 = 4503599627370495 from by decide]
  have h1 : t % 2 = 0 ∨ t % 2 = 1 := by omega
  have h2 : t / 2 % 4503599627370495 < 4503599627370495 := Nat.mod_lt _ (by decide)
  generalize t / 2 % 4503599627370495 = b at *
  rcases h1 with h | h <;> rw [h] <;> omega
theorem run_nan8 (X Y : Nat) (h : FloatKind.f64.format.sub X Y = none) (w : World) : ∃ r, 9218868437227405312 < r % 9223372036854775808 ∧ r < 18446744073709551616 ∧ (binOp .sub 28 (.float .f64 X) (.float .f64 Y)).run Try.prog w = .ok (.float .f64 r) w.drew := by
  refine ⟨Question.cut (.nanBits .f64 X Y) _, ?_, ?_, by simp [binOp, Op.floatArith, h]; rfl⟩
  · simp only [Question.cut]; exact (nan_cut8 _).1
  · simp only [Question.cut]; exact (nan_cut8 _).2
set_option maxRecDepth 20000 in
set_option maxHeartbeats 1000000 in
theorem finiteN8_ (m : Nat) (h : FloatKind.f64.format.sub m m = some 0) (w : World) : Calls Try.prog 9 #[.float .f64 m] w fun e w' => e = .returned (.bool true) ∧ Kp w w' := by
  have t : (FloatKind.f64.format.order 0 0 == some Ordering.eq) = true := by decide +kernel
  have hr : ∀ w : World, (binOp .sub 28 (.float .f64 m) (.float .f64 m)).run Try.prog w = .ok (.float .f64 0) w := fun w => by simp [binOp, Op.floatArith, h]
  go_enter Try.func9, Try.ntmps9
  go_wp2
  exact bodyPost_ret (v := .bool true) (by simp [results, Try.results9, go_sem] <;> simpa using t) rfl ⟨rfl, (by repeat (with_reducible (first | assumption | exact Kp.refl _ | apply Kp.drew | apply Kp.alloc | apply Kp.drewN | (refine Kp.setCell ?_ (by first | omega | (simp <;> omega)) _) | (refine Kp.trans ?_ (by assumption)))))⟩
set_option maxRecDepth 20000 in
set_option maxHeartbeats 1000000 in
theorem finiteI8_ (w : World) : Calls Try.prog 9 #[.float .f64 9218868437227405312] w fun e w' => e = .returned (.bool false) ∧ Kp w w' := by
  obtain ⟨r, hr1, hr2, hr⟩ := run_nan8 9218868437227405312 9218868437227405312 sub_inf8 w
  obtain ⟨n, m, hm, rfl⟩ := Fq.exD r hr2
  have t := Fq.feq n false m 0 hm (by decide)
  rw [show Fq.wD false 0 = 0 from rfl, decide_eq_false (by
    intro h
    have : Fq.wD n m % 9223372036854775808 = m := by unfold Fq.wD; cases n <;> simp <;> omega
    omega)] at t
  generalize Fq.wD n m = r at *
  go_enter Try.func9, Try.ntmps9
  go_wp2
  exact bodyPost_ret (v := .bool false) (by simp [results, Try.results9, go_sem] <;> simpa using t) rfl ⟨rfl, (by repeat (with_reducible (first | assumption | exact Kp.refl _ | apply Kp.drew | apply Kp.alloc | apply Kp.drewN | (refine Kp.setCell ?_ (by first | omega | (simp <;> omega)) _) | (refine Kp.trans ?_ (by assumption)))))⟩
theorem finite8_ (m : Nat) (h : m ≤ 9218868437227405312) (w : World) : Calls Try.prog 9 #[.float .f64 m] w fun e w' => e = .returned (.bool (decide (m ≠ 9218868437227405312))) ∧ Kp w w' := by
  by_cases c : m = 9218868437227405312
  · rw [decide_eq_false (fun x => x c), c]; exact finiteI8_ w
  · rw [decide_eq_true c]; exact finiteN8_ m (sub_self8 m (by omega)) w
set_option maxRecDepth 20000 in
set_option maxHeartbeats 1000000 in
theorem number8_ (n : Bool) (m : Nat) (hm : m < 9218868437227405312) (w : World) : Calls Try.prog 11 #[.float .f64 (Fq.wD n m)] w fun e w' => ∃ (s : Bool) (p : Option Addr) (l c : Nat) (q : Option Addr) (k d : Nat), e = .returned (.agg #[.bool s, .slice p l c, .slice q k d]) ∧ RP 0 w' s p l c q k d n m ∧ Kp w w' := by
  have hf := fromR_ n m hm
  have hb := Fq.fb64 (Fq.wD n m)
  generalize ((Fq.wD n m : Nat) : Int) = X at hf hb
  generalize Fq.wD n m = Y at hb ⊢
  clear hm
  go_enter Try.func11, Try.ntmps11
  go_wp2_with (first | (go_at_call 26; refine (hf _).mono ?_; rintro e w1 ⟨s, p, l, c, q, k, d, rfl, hp, g1⟩; have r0 := kkeep g1 (b := w.heap.size) (o := 0) (v := .bool false) (by simp [go_sem]); have rz0 : w1.frozen? ⟨w.heap.size, 0, none⟩ = false := (kfro g1 (by simp <;> omega)).trans (by simp [go_sem]); have r1 := kkeep g1 (b := w.heap.size) (o := 1) (v := .slice none 0 0) (by simp [go_sem]); have rz1 : w1.frozen? ⟨w.heap.size, 1, none⟩ = false := (kfro g1 (by simp <;> omega)).trans (by simp [go_sem]); have r2 := kkeep g1 (b := w.heap.size) (o := 2) (v := .slice none 0 0) (by simp [go_sem]); have rz2 : w1.frozen? ⟨w.heap.size, 2, none⟩ = false := (kfro g1 (by simp <;> omega)).trans (by simp [go_sem])))
  exact bodyPost_ret (v := .agg #[.bool s, .slice p l c, .slice q k d]) (by simp [results, Try.results11, go_sem, r0, r1, r2]) rfl ⟨s, p, l, c, q, k, d, rfl, RP.mono ((((hp).set (x := ⟨w.heap.size, 0, none⟩) (by simp) (.bool s)).set (x := ⟨w.heap.size, 1, none⟩) (by simp) (.slice p l c)).set (x := ⟨w.heap.size, 2, none⟩) (by simp) (.slice q k d)) (Nat.zero_le _), ((((Kp.trans ((Kp.refl w).alloc _) g1)).setCell (Nat.le_refl _) _).setCell (Nat.le_refl _) _).setCell (Nat.le_refl _) _⟩
theorem RP.rw {base : Nat} {w : World} {s : Bool} {p : Option Addr} {l c : Nat} {q : Option Addr} {k d : Nat} {n : Bool} {m : Nat} (h : RP base w s p l c q k d n m) : ∃ a b, RW w s p l c q k d a b ∧ RF s a b n m := by
  obtain ⟨a, b, o1, o2, f⟩ := h
  obtain ⟨zb, -, -, j1, j2⟩ := f 1074 rfl
  exact ⟨a, b, ⟨LN9.ofOwn o1 (by omega), LN9.ofOwn o2 (by omega), zb⟩, f⟩
theorem lo_num (K : Nat) (hK : K = 1074) (s : Bool) (a b : Nat) (n : Bool) (m : Nat) (hm : m < 9218868437227405312) (h : RF s a b n m) (z : Int) (hz : BdZ z) : (loC K s a b z ≤ 0 ↔ z ≤ Fq.plz n m) ∧ (hiC K s a b z ≤ 0 ↔ Fq.plz n m ≤ z) := by
  have i1 := h.iv K hK
  obtain ⟨zb, -⟩ := h K hK
  have pb : (0 : Int) < (b : Int) := by omega
  have pl : -9218868437227405312 < Fq.plz n m ∧ Fq.plz n m < 9218868437227405312 := by unfold Fq.plz; cases n <;> simp <;> omega
  unfold BdZ at hz
  have e1 : vI z * (b : Int) ≤ Iv n m * b ↔ z ≤ Fq.plz n m := by
    have g := iv_lt8 n (decide (z < 0)) m z.natAbs
    rw [plz_pw] at g
    have g2 : vI z ≤ Iv n m ↔ z ≤ Fq.plz n m := by unfold vI; omega
    rw [← g2]
    exact ⟨fun h => Int.le_of_mul_le_mul_right h pb, fun h => Int.mul_le_mul_of_nonneg_right h (by omega)⟩
  have e2 : Iv n m * (b : Int) ≤ vI z * b ↔ Fq.plz n m ≤ z := by
    have g := iv_lt8 (decide (z < 0)) n z.natAbs m
    rw [plz_pw] at g
    have g2 : Iv n m ≤ vI z ↔ Fq.plz n m ≤ z := by unfold vI; omega
    rw [← g2]
    exact ⟨fun h => Int.le_of_mul_le_mul_right h pb, fun h => Int.mul_le_mul_of_nonneg_right h (by omega)⟩
  rw [loC_le, hiC_le, i1, e1, e2]
  omega
theorem holdsP_ (a b : Nat) (L H : Int) (hx : Rd a b L H) (n : Bool) (m : Nat) (hm : m < 9218868437227405312) (s3 : Bool) (p3 : Option Addr) (l3 c3 : Nat) (q3 : Option Addr) (k3 d3 : Nat) (w : World) (hz : RP 0 w s3 p3 l3 c3 q3 k3 d3 n m) : Calls Try.prog 10 #[.agg #[.int .u64 ((a : Nat) : Int), .int .u64 ((b : Nat) : Int)], .agg #[.bool s3, .slice p3 l3 c3, .slice q3 k3 d3]] w fun e w' => e = .returned (.bool (decide (L ≤ Fq.plz n m ∧ Fq.plz n m ≤ H))) ∧ Kp w w' := by
  obtain ⟨K, hK⟩ : ∃ K : Nat, K = 1074 := ⟨_, rfl⟩
  obtain ⟨x, y, h1, h2⟩ := hz.rw
  have h := holdsW_ K hK a b L H hx s3 p3 l3 c3 q3 k3 d3 x y w h1
  have e1 := (lo_num K hK s3 x y n m hm h2 L hx.vd.lo).1
  have e2 := (lo_num K hK s3 x y n m hm h2 H hx.vd.hi).2
  rw [← Bool.decide_and] at h
  rw [show decide (L ≤ Fq.plz n m ∧ Fq.plz n m ≤ H) = decide (loC K s3 x y L ≤ 0 ∧ hiC K s3 x y H ≤ 0) from by congr 1; apply propext; rw [e1, e2]]
  exact h
theorem cmpP_ (K : Nat) (hK : K = 1074) (n : Bool) (m : Nat) (s : Bool) (p : Option Addr) (l c : Nat) (q : Option Addr) (k d : Nat) (s3 : Bool) (p3 : Option Addr) (l3 c3 : Nat) (q3 : Option Addr) (k3 d3 : Nat) (x y : Nat) (w : World) (h : RP 0 w s p l c q k d n m) (h2 : RW w s3 p3 l3 c3 q3 k3 d3 x y) : (Calls Try.prog 15 #[.agg #[.bool s, .slice p l c, .slice q k d], .agg #[.bool s3, .slice p3 l3 c3, .slice q3 k3 d3]] w fun e w' => e = .returned (.int .i64 (cmI (Iv n m * y) (rvI s3 x * ((2 ^ K : Nat) : Int)))) ∧ Kp w w') ∧ (Calls Try.prog 15 #[.agg #[.bool s3, .slice p3 l3 c3, .slice q3 k3 d3], .agg #[.bool s, .slice p l c, .slice q k d]] w fun e w' => e = .returned (.int .i64 (cmI (rvI s3 x * ((2 ^ K : Nat) : Int)) (Iv n m * y))) ∧ Kp w w') := by
  obtain ⟨a, b, r, f⟩ := h.rw
  obtain ⟨e1, e2⟩ := cmL9 K hK s s3 a b x y n m f h2.2.2
  rw [← e1, ← e2]
  exact ⟨rcmpW_ s p l c q k d s3 p3 l3 c3 q3 k3 d3 a b x y w r.1 r.2.1 h2.1 h2.2.1 r.2.2 h2.2.2, rcmpW_ s3 p3 l3 c3 q3 k3 d3 s p l c q k d x y a b w h2.1 h2.2.1 r.1 r.2.1 h2.2.2 r.2.2⟩
set_option linter.unusedSimpArgs false
set_option maxRecDepth 20000 in
set_option maxHeartbeats 1000000 in
theorem rnegW_ (p : Option Addr) (l c : Nat) (q : Option Addr) (k d : Nat) (a b : Nat) (w : World) (h1 : LN9 w (.slice p l c) a) (h2 : LN9 w (.slice q k d) b) : Calls Try.prog 14 #[.agg #[.bool true, .slice p l c, .slice q k d]] w fun e w' => ∃ (p2 : Option Addr) (l2 c2 : Nat) (q2 : Option Addr) (k2 d2 : Nat), e = .returned (.agg #[.bool false, .slice p2 l2 c2, .slice q2 k2 d2]) ∧ Own w' w.heap.size (.slice p2 l2 c2) (dig a) ∧ Own w' w.heap.size (.slice q2 k2 d2) (dig b) ∧ Kp w w' := by
  have nrm : ∀ (pp : Option Addr) (ll cc : Nat) (x : Nat), LN9 w (.slice pp ll cc) x → ∀ W : World, Kp w W → Calls Try.prog 12 #[.slice pp ll cc] W fun e w' => ∃ (p2 : Option Addr) (l2 c2 : Nat), e = .returned (.slice p2 l2 c2) ∧ Own w' W.heap.size (.slice p2 l2 c2) (dig x) ∧ Kp W w' := by
    intro pp ll cc x h W g
    obtain ⟨L, h1, h2, h3, h4⟩ := h.kp g
    have h := normO (.slice pp ll cc) L W h1 h2 h3
    rw [h4] at h
    refine h.mono ?_
    rintro e w' ⟨v', rfl, o1, g2⟩
    obtain ⟨p2, c2, rfl, -, -⟩ := o1.arr
    exact ⟨p2, _, c2, rfl, o1, g2⟩
  have hs1 := nrm p l c a h1
  have hs2 := nrm q k d b h2
  clear nrm h1 h2
  go_enter Try.func14, Try.ntmps14
  go_wp2
  generalize hW : ((w.alloc (.cells #[.bool true, .slice p l c, .slice q k d] 27)).alloc (.cells #[.bool false, .slice none 0 0, .slice none 0 0] 27)) = W
  have kw : Kp w W := by rw [← hW]; exact ((Kp.refl w).alloc _).alloc _
  have xw0 : W.cell? ⟨w.heap.size, 0, none⟩ = some (.bool true) := by rw [← hW]; simp [go_sem]
  have dw0 : W.drew.cell? ⟨w.heap.size, 0, none⟩ = some (.bool true) := xw0
  have xw1 : W.cell? ⟨w.heap.size, 1, none⟩ = some (.slice p l c) := by rw [← hW]; simp [go_sem]
  have dw1 : W.drew.cell? ⟨w.heap.size, 1, none⟩ = some (.slice p l c) := xw1
  have xw2 : W.cell? ⟨w.heap.size, 2, none⟩ = some (.slice q k d) := by rw [← hW]; simp [go_sem]
  have dw2 : W.drew.cell? ⟨w.heap.size, 2, none⟩ = some (.slice q k d) := xw2
  have r0 : W.cell? ⟨w.heap.size + 1, 0, none⟩ = some (.bool false) := by rw [← hW]; simp [go_sem]
  have rz0 : W.frozen? ⟨w.heap.size + 1, 0, none⟩ = false := by rw [← hW]; simp [go_sem]
  have r1 : W.cell? ⟨w.heap.size + 1, 1, none⟩ = some (.slice none 0 0) := by rw [← hW]; simp [go_sem]
  have rz1 : W.frozen? ⟨w.heap.size + 1, 1, none⟩ = false := by rw [← hW]; simp [go_sem]
  have r2 : W.cell? ⟨w.heap.size + 1, 2, none⟩ = some (.slice none 0 0) := by rw [← hW]; simp [go_sem]
  have rz2 : W.frozen? ⟨w.heap.size + 1, 2, none⟩ = false := by rw [← hW]; simp [go_sem]
  have hBW : w.heap.size + 1 < W.heap.size := cell_lt r0
  have hn1 : w.heap.size + 1 ≠ w.heap.size := by omega
  clear hW
  refine wp_region_held_drew (S := (fun w' => w'.cell? ⟨w.heap.size, 0, none⟩ = some (.bool true) ∧ w'.cell? ⟨w.heap.size, 1, none⟩ = some (.slice p l c) ∧ w'.cell? ⟨w.heap.size, 2, none⟩ = some (.slice q k d))) (by kernel_rfl) ?_ (fun hHeld => ?_)
  · exact ⟨dw0, dw1, dw2⟩
  refine wpAnyH_take (i := 0) (v := .pointer (some ⟨w.heap.size, 0, none⟩)) rfl (by kernel_rfl) (by kernel_rfl) (by kernel_rfl) (fun _ _ _ h => h) (Or.inl ⟨by rfl, ?_⟩) (by assumption) ?_
  · intro w hSw
    (try dsimp only at hSw)
    go_simp
  try simp only [Act.put, List.getElem_toArray, List.getElem_cons_zero, List.getElem_cons_succ, List.setIfInBounds_toArray, List.set_cons_zero, List.set_cons_succ]
  refine wpAnyH_take (i := 1) (v := .bool true) rfl (by kernel_rfl) (by kernel_rfl) (by kernel_rfl) (fun _ _ _ h => h) (Or.inl ⟨by rfl, ?_⟩) (by assumption) ?_
  · intro w hSw
    (try dsimp only at hSw)
    go_simp
  try simp only [Act.put, List.getElem_toArray, List.getElem_cons_zero, List.getElem_cons_succ, List.setIfInBounds_toArray, List.set_cons_zero, List.set_cons_succ]
  refine wpAnyH_take (i := 2) (v := .bool false) rfl (by kernel_rfl) (by kernel_rfl) (by kernel_rfl) (fun _ _ _ h => h) (Or.inl ⟨by rfl, ?_⟩) (by assumption) ?_
  · intro w hSw
    (try dsimp only at hSw)
    go_simp
  try simp only [Act.put, List.getElem_toArray, List.getElem_cons_zero, List.getElem_cons_succ, List.setIfInBounds_toArray, List.set_cons_zero, List.set_cons_succ]
  refine wpAnyH_take (i := 3) (v := .bool false) rfl (by kernel_rfl) (by kernel_rfl) (by kernel_rfl) (fun _ _ _ h => h) (Or.inl ⟨by rfl, ?_⟩) (by assumption) ?_
  · intro w hSw
    (try dsimp only at hSw)
    go_simp
  try simp only [Act.put, List.getElem_toArray, List.getElem_cons_zero, List.getElem_cons_succ, List.setIfInBounds_toArray, List.set_cons_zero, List.set_cons_succ]
  refine wpAnyH_take (i := 4) (v := undef) rfl (by kernel_rfl) (by kernel_rfl) (by kernel_rfl) (fun _ _ _ h => h) (Or.inr ⟨by rfl, rfl⟩) (by assumption) ?_
  try simp only [Act.put, List.getElem_toArray, List.getElem_cons_zero, List.getElem_cons_succ, List.setIfInBounds_toArray, List.set_cons_zero, List.set_cons_succ]
  refine wpAnyH_take (i := 5) (v := undef) rfl (by kernel_rfl) (by kernel_rfl) (by kernel_rfl) (fun _ _ _ h => h) (Or.inr ⟨by rfl, rfl⟩) (by assumption) ?_
  try simp only [Act.put, List.getElem_toArray, List.getElem_cons_zero, List.getElem_cons_succ, List.setIfInBounds_toArray, List.set_cons_zero, List.set_cons_succ]
  refine wpAnyH_take (i := 6) (v := undef) rfl (by kernel_rfl) (by kernel_rfl) (by kernel_rfl) (fun _ _ _ h => h) (Or.inr ⟨by rfl, rfl⟩) (by assumption) ?_
  try simp only [Act.put, List.getElem_toArray, List.getElem_cons_zero, List.getElem_cons_succ, List.setIfInBounds_toArray, List.set_cons_zero, List.set_cons_succ]
  refine wpAnyH_take (i := 7) (v := undef) rfl (by kernel_rfl) (by kernel_rfl) (by kernel_rfl) (fun _ _ _ h => h) (Or.inr ⟨by rfl, rfl⟩) (by assumption) ?_
  try simp only [Act.put, List.getElem_toArray, List.getElem_cons_zero, List.getElem_cons_succ, List.setIfInBounds_toArray, List.set_cons_zero, List.set_cons_succ]
  refine wpAnyH_take (i := 8) (v := .bool false) rfl (by kernel_rfl) (by kernel_rfl) (by kernel_rfl) (fun _ _ _ h => h) (Or.inl ⟨by rfl, ?_⟩) (by assumption) ?_
  · intro w hSw
    (try dsimp only at hSw)
    go_simp
  try simp only [Act.put, List.getElem_toArray, List.getElem_cons_zero, List.getElem_cons_succ, List.setIfInBounds_toArray, List.set_cons_zero, List.set_cons_succ]
  refine wpAnyH_take (i := 9) (v := .pointer (some ⟨w.heap.size, 1, none⟩)) rfl (by kernel_rfl) (by kernel_rfl) (by kernel_rfl) (fun _ _ _ h => h) (Or.inl ⟨by rfl, ?_⟩) (by assumption) ?_
  · intro w hSw
    (try dsimp only at hSw)
    go_simp
  try simp only [Act.put, List.getElem_toArray, List.getElem_cons_zero, List.getElem_cons_succ, List.setIfInBounds_toArray, List.set_cons_zero, List.set_cons_succ]
  refine wpAnyH_take (i := 10) (v := .slice p l c) rfl (by kernel_rfl) (by kernel_rfl) (by kernel_rfl) (fun _ _ _ h => h) (Or.inl ⟨by rfl, ?_⟩) (by assumption) ?_
  · intro w hSw
    (try dsimp only at hSw)
    go_simp
  try simp only [Act.put, List.getElem_toArray, List.getElem_cons_zero, List.getElem_cons_succ, List.setIfInBounds_toArray, List.set_cons_zero, List.set_cons_succ]
  refine wpAnyH_take (i := 12) (v := .pointer (some ⟨w.heap.size, 2, none⟩)) rfl (by kernel_rfl) (by kernel_rfl) (by kernel_rfl) (fun _ _ _ h => h) (Or.inl ⟨by rfl, ?_⟩) (by assumption) ?_
  · intro w hSw
    (try dsimp only at hSw)
    go_simp
  try simp only [Act.put, List.getElem_toArray, List.getElem_cons_zero, List.getElem_cons_succ, List.setIfInBounds_toArray, List.set_cons_zero, List.set_cons_succ]
  refine wpAnyH_take (i := 13) (v := .slice q k d) rfl (by kernel_rfl) (by kernel_rfl) (by kernel_rfl) (fun _ _ _ h => h) (Or.inl ⟨by rfl, ?_⟩) (by assumption) ?_
  · intro w hSw
    (try dsimp only at hSw)
    go_simp
  try simp only [Act.put, List.getElem_toArray, List.getElem_cons_zero, List.getElem_cons_succ, List.setIfInBounds_toArray, List.set_cons_zero, List.set_cons_succ]
  refine wpAnyH_ready (rs := [11]) (by kernel_rfl) (by simp) ?_
  refine AllReadyH.cons rfl (fun K hK => ?_) AllReadyH.nil
  go_simp
  go_at_call_of 12 (Value.slice p l c); refine (hs1 _ ?q0).mono ?_; (case q0 => exact kw.drew); rintro e wl ⟨p2, l2, c2, rfl, ho1, gl⟩; have kl : Kp W wl := Kp.trans (Kp.drew (Kp.refl _)) gl; have aw0 := kkeep kl xw0; have aw1 := kkeep kl xw1; have aw2 := kkeep kl xw2
  go_wp2_with fail
  refine hK.out _ _ ?_ (fun hHeld => ?_)
  · exact ⟨aw0, aw1, aw2⟩
  clear hK K
  try simp only [Act.put, List.getElem_toArray, List.getElem_cons_zero, List.getElem_cons_succ, List.setIfInBounds_toArray, List.set_cons_zero, List.set_cons_succ]
  refine wpAnyH_ready (rs := [14]) (by kernel_rfl) (by simp) ?_
  refine AllReadyH.cons rfl (fun K hK => ?_) AllReadyH.nil
  go_simp
  go_at_call_of 12 (Value.slice q k d); refine (hs2 _ ?q0).mono ?_; (case q0 => exact kw.trans kl); rintro e wh ⟨q2, k2, d2, rfl, ho2, gh⟩; have kh : Kp W wh := Kp.trans kl gh; have bw0 := kkeep kh xw0; have bw1 := kkeep kh xw1; have bw2 := kkeep kh xw2; have R0 := kkeep kh r0; have Rz0 : wh.frozen? ⟨w.heap.size + 1, 0, none⟩ = false := (kfro kh (cell_lt r0)).trans rz0; have R1 := kkeep kh r1; have Rz1 : wh.frozen? ⟨w.heap.size + 1, 1, none⟩ = false := (kfro kh (cell_lt r1)).trans rz1; have R2 := kkeep kh r2; have Rz2 : wh.frozen? ⟨w.heap.size + 1, 2, none⟩ = false := (kfro kh (cell_lt r2)).trans rz2
  go_wp2_with fail
  refine hK.out _ _ ?_ (fun hHeld => ?_)
  · exact ⟨bw0, bw1, bw2⟩
  clear hK K
  try simp only [Act.put, List.getElem_toArray, List.getElem_cons_zero, List.getElem_cons_succ, List.setIfInBounds_toArray, List.set_cons_zero, List.set_cons_succ]
  refine wpAnyH_take (i := 15) (v := .agg #[.bool false, .slice p2 l2 c2, .slice q2 k2 d2]) rfl (by kernel_rfl) (by kernel_rfl) (by kernel_rfl) (fun _ _ _ h => h) (Or.inl ⟨by rfl, ?_⟩) (by assumption) ?_
  · intro w hSw
    (try dsimp only at hSw)
    go_simp
  try simp only [Act.put, List.getElem_toArray, List.getElem_cons_zero, List.getElem_cons_succ, List.setIfInBounds_toArray, List.set_cons_zero, List.set_cons_succ]
  refine wpAnyH_ready (rs := [16]) (by kernel_rfl) (by simp) ?_
  refine AllReadyH.cons rfl (fun K hK => ?_) AllReadyH.nil
  go_simp
  refine hK.out _ _ ?_ (fun hHeld => ?_)
  · exact ⟨((World.cell?_setCell_far _ _ _ _ hn1).trans ((World.cell?_setCell_far _ _ _ _ hn1).trans ((World.cell?_setCell_far _ _ _ _ hn1).trans bw0))), ((World.cell?_setCell_far _ _ _ _ hn1).trans ((World.cell?_setCell_far _ _ _ _ hn1).trans ((World.cell?_setCell_far _ _ _ _ hn1).trans bw1))), ((World.cell?_setCell_far _ _ _ _ hn1).trans ((World.cell?_setCell_far _ _ _ _ hn1).trans ((World.cell?_setCell_far _ _ _ _ hn1).trans bw2)))⟩
  clear hK K
  try simp only [Act.put, List.getElem_toArray, List.getElem_cons_zero, List.getElem_cons_succ, List.setIfInBounds_toArray, List.set_cons_zero, List.set_cons_succ]
  refine wpAnyH_done (by kernel_rfl) ?_ _
  all_goals go_wp2
  all_goals (
    have hle : w.heap.size ≤ W.heap.size := by omega
    have O1 : Own wh W.heap.size (.slice p2 l2 c2) (dig a) := (ho1.mono (base' := W.heap.size) (Nat.le_refl _)).kp gh
    have O2 : Own wh W.heap.size (.slice q2 k2 d2) (dig b) := ho2.mono (base' := W.heap.size) (Below.size kl)
    exact bodyPost_ret (v := .agg #[.bool false, .slice p2 l2 c2, .slice q2 k2 d2]) (by simp [results, Try.results14, go_sem, R0, R1, R2]) rfl ⟨p2, l2, c2, q2, k2, d2, rfl, (((O1.setOther (a := ⟨w.heap.size + 1, 0, none⟩) hBW _).setOther (a := ⟨w.heap.size + 1, 1, none⟩) hBW _).setOther (a := ⟨w.heap.size + 1, 2, none⟩) hBW _).mono hle, (((O2.setOther (a := ⟨w.heap.size + 1, 0, none⟩) hBW _).setOther (a := ⟨w.heap.size + 1, 1, none⟩) hBW _).setOther (a := ⟨w.heap.size + 1, 2, none⟩) hBW _).mono hle, ((((Kp.trans kw kh)).setCell (by simp) _).setCell (by simp) _).setCell (by simp) _⟩)

set_option linter.unusedVariables false
theorem vI_nat (k : Nat) : vI (k : Int) = Iv false k := by
  unfold vI
  rw [show decide ((k : Int) < 0) = false from decide_eq_false (by omega), show ((k : Int)).natAbs = k from by omega]
theorem vI_zero : vI 0 = 0 := by
  unfold vI Iv
  rw [show (0 : Int).natAbs = 0 from rfl, Fq.vV_zero]; rfl
theorem vI_neg (z : Int) : vI (-z) = -vI z := by
  unfold vI Iv
  rw [Int.natAbs_neg]
  have h := vV_zero_iff z.natAbs
  by_cases c : z < 0
  · rw [decide_eq_true c, decide_eq_false (by omega)]; simp
  · by_cases c2 : z = 0
    · have : Fq.vV Ieee.double z.natAbs = 0 := h.2 (by omega)
      rw [this, c2]; rfl
    · rw [decide_eq_false c, decide_eq_true (by omega)]; simp
theorem vI_le (a b : Int) (h : a ≤ b) : vI a ≤ vI b := by
  by_cases c : vI b < vI a
  · have := (vI_lt b a).1 c; omega
  · omega
theorem reach1 (K : Nat) (s : Bool) (x y : Nat) (L H : Int) (d : VdZ L H) (h1 : loC K s x y L ≤ 0) (h2 : hiC K s x y H ≤ 0) (lo : Nat) (hlo : (0 < L ∧ (lo : Int) = L) ∨ (H < 0 ∧ (lo : Int) = -H) ∨ lo = 0) : Iv false lo * (y : Int) ≤ (x : Int) * ((2 ^ K : Nat) : Int) := by
  rw [loC_le] at h1
  rw [hiC_le] at h2
  have pk : (0 : Int) < ((2 ^ K : Nat) : Int) := by have := Nat.two_pow_pos K; omega
  have q1 : rvI s x * ((2 ^ K : Nat) : Int) ≤ (x : Int) * ((2 ^ K : Nat) : Int) := Int.mul_le_mul_of_nonneg_right (by unfold rvI; cases s <;> simp <;> omega) (by omega)
  have q2 : -(rvI s x) * ((2 ^ K : Nat) : Int) ≤ (x : Int) * ((2 ^ K : Nat) : Int) := Int.mul_le_mul_of_nonneg_right (by unfold rvI; cases s <;> simp <;> omega) (by omega)
  have q3 : (0 : Int) ≤ (x : Int) * ((2 ^ K : Nat) : Int) := Int.mul_nonneg (by omega) (by omega)
  rw [Int.neg_mul] at q2
  rw [← vI_nat]
  unfold VdZ at d
  rcases hlo with ⟨c, e⟩ | ⟨c, e⟩ | e
  · rw [e]
    rcases h1 with h1 | h1
    · omega
    · exact Int.le_trans h1.2 q1
  · rw [e, vI_neg, Int.neg_mul]
    rcases h2 with h2 | h2
    · omega
    · have := h2.2; omega
  · rw [e, show ((0 : Nat) : Int) = 0 from rfl, vI_zero, Int.zero_mul]; exact q3
theorem reach2 (K : Nat) (s : Bool) (x y : Nat) (L H : Int) (h1 : loC K s x y L ≤ 0) (h2 : hiC K s x y H ≤ 0) (hi : Nat) (hL : L ≠ -9218868437227405312) (hH : H ≠ 9218868437227405312) (e1 : -L ≤ hi) (e2 : H ≤ hi) : (x : Int) * ((2 ^ K : Nat) : Int) ≤ Iv false hi * (y : Int) := by
  rw [loC_le] at h1
  rw [hiC_le] at h2
  replace h1 := (h1.resolve_left hL).2
  replace h2 := (h2.resolve_left hH).2
  rw [← vI_nat]
  have p1 : vI H * (y : Int) ≤ vI (hi : Int) * y := Int.mul_le_mul_of_nonneg_right (vI_le _ _ e2) (by omega)
  have p2 : vI (-L) * (y : Int) ≤ vI (hi : Int) * y := Int.mul_le_mul_of_nonneg_right (vI_le _ _ e1) (by omega)
  rw [vI_neg, Int.neg_mul] at p2
  have e : (x : Int) * ((2 ^ K : Nat) : Int) = rvI s x * ((2 ^ K : Nat) : Int) ∨ (x : Int) * ((2 ^ K : Nat) : Int) = -(rvI s x * ((2 ^ K : Nat) : Int)) := by
    unfold rvI
    cases s
    · left; rfl
    · right; simp [Int.neg_mul]
  omega
theorem magX_ (a b : Nat) (ha : a < 18446744073709551616) (hb : b < 18446744073709551616) (s1 : Fq.snd a b = true) (n g : Bool) (m r : Nat) (l1 : m ≤ 9218868437227405312) (l2 : r ≤ 9218868437227405312) (e1 : Fq.rlo a b = Fq.wD n m) (e2 : Fq.rhi a b = Fq.wD g r) (w : World) : Calls Try.prog 4 #[.agg #[.float .f64 a, .float .f64 b]] w fun e w' => e = .returned (.float .f64 (if r < m then m else r)) ∧ Kp w w' := by
  have hp := Fq.read_ a b ha hb
  have hv := void8_ a b ha hb false (by simpa using s1)
  rw [e1, e2] at hp hv
  exact magS_ a b _ _ hp hv m r _ (abs_ n m (by omega)) (abs_ g r (by omega)) (greater8_ m r l1 l2) w
/-- the least magnitude, by the ends -/
def miW (n : Bool) (m : Nat) (g : Bool) (r : Nat) : Nat := if 0 < Fq.plz n m then m else if Fq.plz g r < 0 then r else 0
theorem migX_ (a b : Nat) (ha : a < 18446744073709551616) (hb : b < 18446744073709551616) (s1 : Fq.snd a b = true) (n g : Bool) (m r : Nat) (l1 : m ≤ 9218868437227405312) (l2 : r ≤ 9218868437227405312) (e1 : Fq.rlo a b = Fq.wD n m) (e2 : Fq.rhi a b = Fq.wD g r) (w : World) : Calls Try.prog 7 #[.agg #[.float .f64 a, .float .f64 b]] w fun e w' => e = .returned (.float .f64 (miW n m g r)) ∧ Kp w w' := by
  have hp := Fq.read_ a b ha hb
  have hv := void8_ a b ha hb false (by simpa using s1)
  rw [e1, e2] at hp hv
  have f1 := fgt8 n false m 0 (by omega) (by decide)
  have f2 := Fq.flt g false r 0 (by omega) (by decide)
  rw [show Fq.wD false 0 = 0 from rfl, show Fq.plz false 0 = 0 from rfl] at f1 f2
  unfold miW
  by_cases c1 : 0 < Fq.plz n m
  · rw [decide_eq_true ⟨l1, by decide, c1⟩] at f1
    rw [if_pos c1]
    have nn : n = false := by cases n; rfl; unfold Fq.plz at c1; simp at c1; omega
    have h := mig1_ a b _ _ hp hv f1 w
    rw [nn] at h
    exact h
  · rw [decide_eq_false (fun h => c1 h.2.2)] at f1
    rw [if_neg c1]
    by_cases c2 : Fq.plz g r < 0
    · rw [decide_eq_true ⟨l2, by decide, c2⟩] at f2
      rw [if_pos c2]
      have gg : g = true := by cases g; unfold Fq.plz at c2; simp at c2; omega; rfl
      have hn := negW8 g r (by omega)
      rw [gg] at hn hp hv f2
      exact mig2_ a b _ _ hp hv r hn f1 f2 w
    · rw [decide_eq_false (fun h => c2 h.2.2)] at f2
      rw [if_neg c2]
      exact mig3_ a b _ _ hp hv f1 f2 w
end Go.Proofs.Ytolghomhigemgaa
