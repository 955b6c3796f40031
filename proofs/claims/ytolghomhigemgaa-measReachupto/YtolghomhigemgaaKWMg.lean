import Derived.Test.YtolghomhigemgaaProg
import Derived.Test.YtolghomhigemgaaKXA0
import Derived.Test.YtolghomhigemgaaKXQF
import Derived.Test.YtolghomhigemgaaKQA
import Derived.Test.YtolghomhigemgaaKXQU
import Derived.Test.YtolghomhigemgaaKXEA
import Derived.Test.YtolghomhigemgaaKXNR
import Derived.Test.YtolghomhigemgaaKXM
import Derived.Test.YtolghomhigemgaaKXY
import Derived.Test.YtolghomhigemgaaKXEE
import Derived.Test.YtolghomhigemgaaKMR7Q
import Derived.Test.YtolghomhigemgaaKXMR
import Derived.Test.YtolghomhigemgaaKXM3
import Derived.Test.YtolghomhigemgaaKXO
import Derived.Test.YtolghomhigemgaaKXO3
import Derived.Test.YtolghomhigemgaaKXT
import Derived.Test.YtolghomhigemgaaKXLB
import Derived.Test.YtolghomhigemgaaKRX
import Derived.Test.YtolghomhigemgaaKXRL
import Derived.Test.YtolghomhigemgaaKXCO
import Derived.Test.YtolghomhigemgaaKLN
import Derived.Test.YtolghomhigemgaaKXRN
import Derived.Test.YtolghomhigemgaaKW4
import Derived.Test.YtolghomhigemgaaKBY
import Derived.Test.YtolghomhigemgaaKBW
import Derived.Test.YtolghomhigemgaaKXTZ
import Derived.Test.YtolghomhigemgaaKXG1
import Derived.Test.YtolghomhigemgaaKNSm
import Derived.Test.YtolghomhigemgaaKXH2Q
import Derived.Test.YtolghomhigemgaaKXG4
import Derived.Test.YtolghomhigemgaaKEKF
import Derived.Test.YtolghomhigemgaaKXET
import Derived.Test.YtolghomhigemgaaKXEG
import Derived.Test.YtolghomhigemgaaKXEC
import Derived.Test.YtolghomhigemgaaKXWR
import Derived.Test.YtolghomhigemgaaKXWS
import Derived.Test.YtolghomhigemgaaKXWM
import Derived.Test.YtolghomhigemgaaKWMd
import Derived.Test.YtolghomhigemgaaKWMe
import Derived.Test.YtolghomhigemgaaKXME
import Derived.Test.YtolghomhigemgaaKXMM
import Derived.WalkKit
import Derived.ProofKit
import Derived.RowKit3
import Derived.WalkSpells
import Derived.StillTactics
import Derived.Deep.QuietTactic
import Derived.BigQuiet
import Derived.Below
import Derived.Deep.OwnRows
import Derived.OwnWalk
import Derived.Laws.BitsAllLaws
import Derived.Laws.Slices
import Derived.Laws.Bits64b
import Derived.Laws.FloatArith
import Derived.Deep.RegionHeld3
import Derived.Deep.CutRange
import Derived.Deep.DeepCutAuto
namespace Go.Proofs.Ytolghomhigemgaa
open Go.RowKit
theorem normW_ (v : Value) (y : Nat) (W : World) (h : LN9 W v y) : Calls Try.prog 12 #[v] W fun e w' => ∃ (pn : Option Addr) (cn : Nat), e = .returned (.slice pn (dig y).length cn) ∧ Kp W w' := by
  obtain ⟨L, h1, h2, h3, h4⟩ := h
  have g := normR v L W h1 h2 h3
  rw [h4] at g
  exact g.mono fun e w' ⟨v', e1, ⟨p, c, e2, _, _⟩, k⟩ => ⟨p, c, by rw [e1, e2], k⟩
theorem LN9.len {w : World} {v : Value} {a : Nat} (h : LN9 w v a) : (dig a).length ≤ 1048576 := by
  obtain ⟨xs, -, x2, x3, x4⟩ := h
  obtain ⟨T5, hT5⟩ : ∃ T5 : Nat, T5 = 1048576 := ⟨_, rfl⟩
  have b1 : a < 4294967296 ^ T5 := by rw [← x4]; exact Nat.lt_of_lt_of_le (val_lt xs x2) (Nat.pow_le_pow_right (by decide) (by omega))
  by_cases cc : (dig a).length ≤ T5
  · omega
  · exfalso
    have := len32_lt a T5 (by unfold len32; omega)
    omega
theorem LN9.ofOwn' {w : World} {base : Nat} {v : Value} {a : Nat} (h : Own w base v (dig a)) (l : (dig a).length ≤ 1048576) : LN9 w v a := ⟨dig a, h.ls, Wd_dig a, l, val_dig a⟩
set_option maxHeartbeats 2000000 in
theorem reach_ (a b : Nat) (ha : a < 18446744073709551616) (hb : b < 18446744073709551616) (s3 : Bool) (p3 : Option Addr) (c3 : Nat) (xs : List Int) (q3 : Option Addr) (d3 : Nat) (ys : List Int) (w : World) (ax : Arr w p3 xs) (wx : Wd xs) (kx : xs.length ≤ c3) (lx : xs.length ≤ 1048576) (ay : Arr w q3 ys) (wy : Wd ys) (ky : ys.length ≤ d3) (ly : ys.length ≤ 1048576) : Calls Try.prog 3 #[.agg #[.int .u64 ((a : Nat) : Int), .int .u64 ((b : Nat) : Int)], .agg #[.bool s3, .slice p3 xs.length c3, .slice q3 ys.length d3]] w fun e w' => e = .returned (.bool true) ∧ Kp w w' := by
  obtain ⟨L, H, r⟩ := Rd.ex a b ha hb
  obtain ⟨K, hK⟩ : ∃ K : Nat, K = 1074 := ⟨_, rfl⟩
  have d := r.vd
  have hz0 : (fun W => LN9 W (.slice p3 xs.length c3) (val xs) ∧ LN9 W (.slice q3 ys.length d3) (val ys)) w := ⟨⟨xs, ⟨p3, c3, rfl, ax, kx⟩, wx, lx, rfl⟩, ⟨ys, ⟨q3, d3, rfl, ay, ky⟩, wy, ly, rfl⟩⟩
  have hkr : ∀ W W' : World, Kp W W' → (fun W => LN9 W (.slice p3 xs.length c3) (val xs) ∧ LN9 W (.slice q3 ys.length d3) (val ys)) W → (fun W => LN9 W (.slice p3 xs.length c3) (val xs) ∧ LN9 W (.slice q3 ys.length d3) (val ys)) W' := fun W W' g h => ⟨h.1.kp g, h.2.kp g⟩
  have hm3 : ∀ w : World, Calls Try.prog 4 #[.agg #[.float .f64 13837309855095848960, .float .f64 4611686018427387904]] w fun e w' => e = .returned (.float .f64 4613937818241073152) ∧ Kp w w' := fun w => magX_ 13837309855095848960 4611686018427387904 (by decide) (by decide) (by decide +kernel) true false 4613937818241073152 4611686018427387904 (by decide) (by decide) (by decide +kernel) (by decide +kernel) w
  have hr := rread9_ a b L H r
  by_cases c : L = 9218868437227405312
  · have cH : H = -9218868437227405312 := by unfold VdZ at d; omega
    exact reachE_ _ _ (pI L) (pI H) a b 0 0 s3 p3 xs.length c3 q3 ys.length d3 _ hkr hm3 hr (by rw [c]; decide) (by rw [cH]; decide) w hz0
  have es : Fq.snd a b = true := by
    have h1 := Fq.void_read a b
    rw [r.2.2.2.1, r.2.2.2.2, emp9 L H d, decide_eq_false c] at h1
    cases h : Fq.snd a b
    · rw [h] at h1; cases h1
    · rfl
  have dd := d
  unfold VdZ at dd
  have hlo := migX_ a b ha hb es (decide (L < 0)) (decide (H < 0)) L.natAbs H.natAbs (abs_pw L d.lo) (abs_pw H d.hi) r.2.2.2.1 r.2.2.2.2
  have hhi := magX_ a b ha hb es (decide (L < 0)) (decide (H < 0)) L.natAbs H.natAbs (abs_pw L d.lo) (abs_pw H d.hi) r.2.2.2.1 r.2.2.2.2
  obtain ⟨LO, hLO⟩ : ∃ LO, LO = miW (decide (L < 0)) L.natAbs (decide (H < 0)) H.natAbs := ⟨_, rfl⟩
  obtain ⟨HI, hHI⟩ : ∃ HI, HI = (if H.natAbs < L.natAbs then L.natAbs else H.natAbs) := ⟨_, rfl⟩
  rw [← hLO] at hlo
  rw [← hHI] at hhi
  have lo3 : (0 < L ∧ (LO : Int) = L) ∨ (H < 0 ∧ (LO : Int) = -H) ∨ (LO = 0 ∧ L ≤ 0 ∧ 0 ≤ H) := by
    unfold miW at hLO
    rw [plz_pw, plz_pw] at hLO
    by_cases c1 : 0 < L
    · rw [if_pos c1] at hLO; left; omega
    · rw [if_neg c1] at hLO
      by_cases c2 : H < 0
      · rw [if_pos c2] at hLO; right; left; omega
      · rw [if_neg c2] at hLO; right; right; omega
  have hi3 : -L ≤ HI ∧ H ≤ HI ∧ L ≤ HI ∧ -H ≤ HI ∧ ((HI : Int) = L ∨ (HI : Int) = -L ∨ (HI : Int) = H ∨ (HI : Int) = -H) ∧ HI ≤ 9218868437227405312 := by
    by_cases c1 : H.natAbs < L.natAbs
    · rw [if_pos c1] at hHI; omega
    · rw [if_neg c1] at hHI; omega
  have lI : LO < 9218868437227405312 := by omega
  have lh : LO ≤ HI := by omega
  clear hLO hHI
  have hfl := finite8_ LO (by omega)
  rw [decide_eq_true (show LO ≠ 9218868437227405312 by omega)] at hfl
  have hfh := finite8_ HI (by omega)
  have tl : (FloatKind.f64.format.order LO 0 == some Ordering.lt) = false := by
    have h := Fq.flt false false LO 0 (by omega) (by decide)
    rw [decide_eq_false (fun x => by have := x.2.2; unfold Fq.plz at this; simp at this; omega)] at h
    exact h
  have th : (FloatKind.f64.format.order HI HI == some Ordering.eq) = true := by
    have h := Fq.feq false false HI HI (by omega) (by omega)
    rw [decide_eq_true ⟨by omega, by omega, rfl⟩] at h
    exact h
  have tw : (FloatKind.f64.format.order HI LO == some Ordering.lt) = false := by
    have h := Fq.flt false false HI LO (by omega) (by omega)
    rw [decide_eq_false (fun x => by have := x.2.2; unfold Fq.plz at this; simp at this; omega)] at h
    exact h
  have ng1 := negW8 false LO (by omega)
  have ng2 := negW8 false HI (by omega)
  have dd1 : LO ≠ Fq.wD true LO := by unfold Fq.wD; simp <;> omega
  have dd2 : HI ≠ Fq.wD true HI := by unfold Fq.wD; simp <;> omega
  have hn1 := number8_ false LO lI
  have hn2 := number8_ true LO lI
  have hn3 : decide (HI ≠ 9218868437227405312) = true → ∀ W : World, Calls Try.prog 11 #[.float .f64 HI] W fun e w' => ∃ (s : Bool) (p : Option Addr) (l c : Nat) (q : Option Addr) (k d : Nat), e = .returned (.agg #[.bool s, .slice p l c, .slice q k d]) ∧ RP 0 w' s p l c q k d false HI ∧ Kp W w' := fun h => number8_ false HI (by have := of_decide_eq_true h; omega)
  have hn4 : decide (HI ≠ 9218868437227405312) = true → ∀ W : World, Calls Try.prog 11 #[.float .f64 (Fq.wD true HI)] W fun e w' => ∃ (s : Bool) (p : Option Addr) (l c : Nat) (q : Option Addr) (k d : Nat), e = .returned (.agg #[.bool s, .slice p l c, .slice q k d]) ∧ RP 0 w' s p l c q k d true HI ∧ Kp W w' := fun h => number8_ true HI (by have := of_decide_eq_true h; omega)
  have rp : Rd (pw L) (pw H) L H := Rd.of d
  have hh1 := fun (W : World) (s : Bool) (p : Option Addr) (l c : Nat) (q : Option Addr) (k d : Nat) (h : RP 0 W s p l c q k d false LO) => holdsP_ (pw L) (pw H) L H rp false LO lI s p l c q k d W h
  have hh2 := fun (W : World) (s : Bool) (p : Option Addr) (l c : Nat) (q : Option Addr) (k d : Nat) (h : RP 0 W s p l c q k d true LO) => holdsP_ (pw L) (pw H) L H rp true LO lI s p l c q k d W h
  have pz : ∀ k : Nat, Fq.plz false k = (k : Int) ∧ Fq.plz true k = -(k : Int) := fun k => ⟨by simp [Fq.plz], by simp [Fq.plz]⟩
  rw [(pz LO).1] at hh1
  rw [(pz LO).2] at hh2
  have te : (pI L == 9218868437227405312) = false := by
    have i1 := pI_inj L 9218868437227405312 d.lo (by unfold BdZ; omega)
    rw [show pI 9218868437227405312 = 9218868437227405312 from by decide] at i1
    simpa using fun h => c (i1.1 h)
  have hno : ∀ W : World, (fun W => LN9 W (.slice p3 xs.length c3) (val xs) ∧ LN9 W (.slice q3 ys.length d3) (val ys)) W → Calls Try.prog 12 #[.slice q3 ys.length d3] W fun e w' => ∃ (pn : Option Addr) (cn : Nat), e = .returned (.slice pn (dig (val ys)).length cn) ∧ Kp W w' := fun W h => normW_ _ _ W h.2
  have hlz := dig_len_zero (val ys)
  have b12 : (decide (L ≤ (LO : Int) ∧ (LO : Int) ≤ H) || decide (L ≤ -(LO : Int) ∧ -(LO : Int) ≤ H)) = true := by
    rcases lo3 with h | h | h
    · rw [decide_eq_true (show L ≤ (LO : Int) ∧ (LO : Int) ≤ H by omega)]; rfl
    · rw [decide_eq_true (show L ≤ -(LO : Int) ∧ -(LO : Int) ≤ H by omega)]; simp
    · rw [decide_eq_true (show L ≤ (LO : Int) ∧ (LO : Int) ≤ H by omega)]; rfl
  have hh3 : decide (HI ≠ 9218868437227405312) = true → ∀ (W : World) (s : Bool) (p : Option Addr) (l c : Nat) (q : Option Addr) (k d : Nat), RP 0 W s p l c q k d false HI → Calls Try.prog 10 #[.agg #[.int .u64 (pI L), .int .u64 (pI H)], .agg #[.bool s, .slice p l c, .slice q k d]] W fun e w' => e = .returned (.bool (decide (L ≤ (HI : Int) ∧ (HI : Int) ≤ H))) ∧ Kp W w' := by
    intro hf W s p l c q k d h
    have g := holdsP_ (pw L) (pw H) L H rp false HI (by have := of_decide_eq_true hf; omega) s p l c q k d W h
    rw [(pz HI).1] at g
    exact g
  have hh4 : decide (HI ≠ 9218868437227405312) = true → ∀ (W : World) (s : Bool) (p : Option Addr) (l c : Nat) (q : Option Addr) (k d : Nat), RP 0 W s p l c q k d true HI → Calls Try.prog 10 #[.agg #[.int .u64 (pI L), .int .u64 (pI H)], .agg #[.bool s, .slice p l c, .slice q k d]] W fun e w' => e = .returned (.bool (decide (L ≤ -(HI : Int) ∧ -(HI : Int) ≤ H))) ∧ Kp W w' := by
    intro hf W s p l c q k d h
    have g := holdsP_ (pw L) (pw H) L H rp true HI (by have := of_decide_eq_true hf; omega) s p l c q k d W h
    rw [(pz HI).2] at g
    exact g
  have hB : (decide (L ≤ (LO : Int) ∧ (LO : Int) ≤ H) || decide (L ≤ -(LO : Int) ∧ -(LO : Int) ≤ H)) = true ∧ (decide (HI ≠ 9218868437227405312) = false ∨ (decide (HI ≠ 9218868437227405312) = true ∧ decide (L ≤ (HI : Int) ∧ (HI : Int) ≤ H) = true) ∨ (decide (HI ≠ 9218868437227405312) = true ∧ decide (L ≤ (HI : Int) ∧ (HI : Int) ≤ H) = false ∧ decide (L ≤ -(HI : Int) ∧ -(HI : Int) ≤ H) = true)) := by
    refine ⟨b12, ?_⟩
    by_cases e : HI = 9218868437227405312
    · left; exact decide_eq_false (fun h => h e)
    · right
      by_cases e2 : L ≤ (HI : Int) ∧ (HI : Int) ≤ H
      · exact Or.inl ⟨decide_eq_true e, decide_eq_true e2⟩
      · exact Or.inr ⟨decide_eq_true e, decide_eq_false e2, decide_eq_true (by omega)⟩
  by_cases zy : val ys = 0
  · exact reachZ_ _ _ (pI L) (pI H) a b LO HI s3 p3 xs.length c3 q3 ys.length d3 _ hkr _ _ _ _ _ _ _ (fun (W : World) (s : Bool) (p : Option Addr) (l c : Nat) (q : Option Addr) (k d : Nat) => RP 0 W s p l c q k d false LO) (fun (W : World) (s : Bool) (p : Option Addr) (l c : Nat) (q : Option Addr) (k d : Nat) => RP 0 W s p l c q k d true LO) (fun (W : World) (s : Bool) (p : Option Addr) (l c : Nat) (q : Option Addr) (k d : Nat) => RP 0 W s p l c q k d false HI) (fun (W : World) (s : Bool) (p : Option Addr) (l c : Nat) (q : Option Addr) (k d : Nat) => RP 0 W s p l c q k d true HI) hm3 hr (in8_ a b) hlo hhi hfl hfh tl th tw ng1 ng2 dd1 dd2 hn1 hh1 hn2 hh2 hn3 hh3 hn4 hh4 hB te _ hno (by rw [hlz.2 zy]; rfl) w hz0
  have n1 : ¬ ((dig (val ys)).length = 0) := mt hlz.1 zy
  have n2 : ¬ (((dig (val ys)).length : Int) = 0) := by omega
  have n3 : (((dig (val ys)).length : Int) == 0) = false := by simpa using n1
  have hv : ∀ W : World, (fun W => LN9 W (.slice p3 xs.length c3) (val xs) ∧ LN9 W (.slice q3 ys.length d3) (val ys)) W → Calls Try.prog 10 #[.agg #[.int .u64 (pI L), .int .u64 (pI H)], .agg #[.bool s3, .slice p3 xs.length c3, .slice q3 ys.length d3]] W fun e w' => e = .returned (.bool (decide (loC K s3 (val xs) (val ys) L ≤ 0) && decide (hiC K s3 (val xs) (val ys) H ≤ 0))) ∧ Kp W w' := fun W h => holdsW_ K hK (pw L) (pw H) L H rp s3 p3 xs.length c3 q3 ys.length d3 (val xs) (val ys) W ⟨h.1, h.2, zy⟩
  by_cases v1 : loC K s3 (val xs) (val ys) L ≤ 0 ∧ hiC K s3 (val xs) (val ys) H ≤ 0
  · rw [decide_eq_true v1.1, decide_eq_true v1.2] at hv
    have hsg : ∀ W : World, (fun W => LN9 W (.slice p3 xs.length c3) (val xs) ∧ LN9 W (.slice q3 ys.length d3) (val ys)) W → Calls Try.prog 13 #[.agg #[.bool s3, .slice p3 xs.length c3, .slice q3 ys.length d3]] W fun e w' => e = .returned (.int .i64 (if val xs = 0 then 0 else if s3 then -1 else 1)) ∧ Kp W w' := fun W h => by
      obtain ⟨L9, x1, x2, x3, x4⟩ := h.1
      exact rsignA_ s3 _ _ L9 (val xs) W x1 x2 x3 x4
    have hks : ∀ (W W' : World) (s5 : Bool) (p5 : Option Addr) (l5 c5 : Nat) (q5 : Option Addr) (k5 d5 : Nat), Kp W W' → (fun (W : World) (s5 : Bool) (p5 : Option Addr) (l5 c5 : Nat) (q5 : Option Addr) (k5 d5 : Nat) => rvI s5 (val xs) = ((val xs : Nat) : Int) ∧ LN9 W (.slice p5 l5 c5) (val xs) ∧ LN9 W (.slice q5 k5 d5) (val ys)) W s5 p5 l5 c5 q5 k5 d5 → (fun (W : World) (s5 : Bool) (p5 : Option Addr) (l5 c5 : Nat) (q5 : Option Addr) (k5 d5 : Nat) => rvI s5 (val xs) = ((val xs : Nat) : Int) ∧ LN9 W (.slice p5 l5 c5) (val xs) ∧ LN9 W (.slice q5 k5 d5) (val ys)) W' s5 p5 l5 c5 q5 k5 d5 := fun W W' s5 p5 l5 c5 q5 k5 d5 g h => ⟨h.1, h.2.1.kp g, h.2.2.kp g⟩
    have hc1 : ∀ (W : World) (s : Bool) (p : Option Addr) (l c : Nat) (q : Option Addr) (k d : Nat) (s5 : Bool) (p5 : Option Addr) (l5 c5 : Nat) (q5 : Option Addr) (k5 d5 : Nat), RP 0 W s p l c q k d false LO → (fun (W : World) (s5 : Bool) (p5 : Option Addr) (l5 c5 : Nat) (q5 : Option Addr) (k5 d5 : Nat) => rvI s5 (val xs) = ((val xs : Nat) : Int) ∧ LN9 W (.slice p5 l5 c5) (val xs) ∧ LN9 W (.slice q5 k5 d5) (val ys)) W s5 p5 l5 c5 q5 k5 d5 → Calls Try.prog 15 #[.agg #[.bool s, .slice p l c, .slice q k d], .agg #[.bool s5, .slice p5 l5 c5, .slice q5 k5 d5]] W fun e w' => e = .returned (.int .i64 (cmI (Iv false LO * (val ys : Nat)) (((val xs : Nat) : Int) * ((2 ^ K : Nat) : Int)))) ∧ Kp W w' := by
      intro W s p l c q k d s5 p5 l5 c5 q5 k5 d5 h g
      rw [← g.1]
      exact (cmpP_ K hK false LO s p l c q k d s5 p5 l5 c5 q5 k5 d5 (val xs) (val ys) W h ⟨g.2.1, g.2.2, zy⟩).1
    have hc2 : decide (HI ≠ 9218868437227405312) = true → ∀ (W : World) (s : Bool) (p : Option Addr) (l c : Nat) (q : Option Addr) (k d : Nat) (s5 : Bool) (p5 : Option Addr) (l5 c5 : Nat) (q5 : Option Addr) (k5 d5 : Nat), RP 0 W s p l c q k d false HI → (fun (W : World) (s5 : Bool) (p5 : Option Addr) (l5 c5 : Nat) (q5 : Option Addr) (k5 d5 : Nat) => rvI s5 (val xs) = ((val xs : Nat) : Int) ∧ LN9 W (.slice p5 l5 c5) (val xs) ∧ LN9 W (.slice q5 k5 d5) (val ys)) W s5 p5 l5 c5 q5 k5 d5 → Calls Try.prog 15 #[.agg #[.bool s5, .slice p5 l5 c5, .slice q5 k5 d5], .agg #[.bool s, .slice p l c, .slice q k d]] W fun e w' => e = .returned (.int .i64 (cmI (((val xs : Nat) : Int) * ((2 ^ K : Nat) : Int)) (Iv false HI * (val ys : Nat)))) ∧ Kp W w' := by
      intro _ W s p l c q k d s5 p5 l5 c5 q5 k5 d5 h g
      rw [← g.1]
      exact (cmpP_ K hK false HI s p l c q k d s5 p5 l5 c5 q5 k5 d5 (val xs) (val ys) W h ⟨g.2.1, g.2.2, zy⟩).2
    have u1 : cmI (Iv false LO * (val ys : Nat)) (((val xs : Nat) : Int) * ((2 ^ K : Nat) : Int)) ≤ 0 := by
      rw [cmI_le0]
      exact reach1 K s3 (val xs) (val ys) L H d v1.1 v1.2 LO (by omega)
    have u2 : decide (HI ≠ 9218868437227405312) = false ∨ (decide (HI ≠ 9218868437227405312) = true ∧ cmI (((val xs : Nat) : Int) * ((2 ^ K : Nat) : Int)) (Iv false HI * (val ys : Nat)) ≤ 0) := by
      by_cases e : HI = 9218868437227405312
      · left; exact decide_eq_false (fun h => h e)
      · right
        refine ⟨decide_eq_true e, ?_⟩
        rw [cmI_le0]
        exact reach2 K s3 (val xs) (val ys) L H v1.1 v1.2 HI (by omega) (by omega) (by omega) (by omega)
    by_cases sn : s3 = true ∧ val xs ≠ 0
    · obtain ⟨rfl, zx⟩ := sn
      rw [if_neg zx, if_pos rfl] at hsg
      have hrn : ∀ W : World, (fun W => LN9 W (.slice p3 xs.length c3) (val xs) ∧ LN9 W (.slice q3 ys.length d3) (val ys)) W → Calls Try.prog 14 #[.agg #[.bool true, .slice p3 xs.length c3, .slice q3 ys.length d3]] W fun e w' => ∃ (s5 : Bool) (p5 : Option Addr) (l5 c5 : Nat) (q5 : Option Addr) (k5 d5 : Nat), e = .returned (.agg #[.bool s5, .slice p5 l5 c5, .slice q5 k5 d5]) ∧ (∀ (b : Nat) (u0 u1 u2 : Value), b < W.heap.size → (fun (W : World) (s5 : Bool) (p5 : Option Addr) (l5 c5 : Nat) (q5 : Option Addr) (k5 d5 : Nat) => rvI s5 (val xs) = ((val xs : Nat) : Int) ∧ LN9 W (.slice p5 l5 c5) (val xs) ∧ LN9 W (.slice q5 k5 d5) (val ys)) (((w'.setCell ⟨b, 0, none⟩ u0).setCell ⟨b, 1, none⟩ u1).setCell ⟨b, 2, none⟩ u2) s5 p5 l5 c5 q5 k5 d5) ∧ Kp W w' := by
        intro W h
        have l1 := h.1.len
        have l2 := h.2.len
        refine (rnegW_ p3 xs.length c3 q3 ys.length d3 (val xs) (val ys) W h.1 h.2).mono ?_
        rintro e w' ⟨p5, l5, c5, q5, k5, d5, rfl, o1, o2, g⟩
        exact ⟨false, p5, l5, c5, q5, k5, d5, rfl, fun b u0 u1 u2 hb => ⟨rfl, LN9.ofOwn' (((o1.setOther (a := ⟨b, 0, none⟩) hb u0).setOther (a := ⟨b, 1, none⟩) hb u1).setOther (a := ⟨b, 2, none⟩) hb u2) l1, LN9.ofOwn' (((o2.setOther (a := ⟨b, 0, none⟩) hb u0).setOther (a := ⟨b, 1, none⟩) hb u1).setOther (a := ⟨b, 2, none⟩) hb u2) l2⟩, g⟩
      exact reachN_ _ _ (pI L) (pI H) a b LO HI true p3 xs.length c3 q3 ys.length d3 _ hkr _ _ _ _ _ _ _ (fun (W : World) (s : Bool) (p : Option Addr) (l c : Nat) (q : Option Addr) (k d : Nat) => RP 0 W s p l c q k d false LO) (fun (W : World) (s : Bool) (p : Option Addr) (l c : Nat) (q : Option Addr) (k d : Nat) => RP 0 W s p l c q k d true LO) (fun (W : World) (s : Bool) (p : Option Addr) (l c : Nat) (q : Option Addr) (k d : Nat) => RP 0 W s p l c q k d false HI) (fun (W : World) (s : Bool) (p : Option Addr) (l c : Nat) (q : Option Addr) (k d : Nat) => RP 0 W s p l c q k d true HI) hm3 hr (in8_ a b) hlo hhi hfl hfh tl th tw ng1 ng2 dd1 dd2 hn1 hh1 hn2 hh2 hn3 hh3 hn4 hh4 hB te _ hno n2 n3 n1 hv _ _ _ hsg (by decide) (fun (W : World) (s5 : Bool) (p5 : Option Addr) (l5 c5 : Nat) (q5 : Option Addr) (k5 d5 : Nat) => rvI s5 (val xs) = ((val xs : Nat) : Int) ∧ LN9 W (.slice p5 l5 c5) (val xs) ∧ LN9 W (.slice q5 k5 d5) (val ys)) hks hrn hc1 hc2 u1 u2 w hz0
    · have hps0 : ∀ W : World, (fun W => LN9 W (.slice p3 xs.length c3) (val xs) ∧ LN9 W (.slice q3 ys.length d3) (val ys)) W → (fun (W : World) (s5 : Bool) (p5 : Option Addr) (l5 c5 : Nat) (q5 : Option Addr) (k5 d5 : Nat) => rvI s5 (val xs) = ((val xs : Nat) : Int) ∧ LN9 W (.slice p5 l5 c5) (val xs) ∧ LN9 W (.slice q5 k5 d5) (val ys)) W s3 p3 xs.length c3 q3 ys.length d3 := fun W h => ⟨by
        unfold rvI
        cases s3
        · rfl
        · have : val xs = 0 := by
            by_cases z : val xs = 0
            · exact z
            · exact absurd ⟨rfl, z⟩ sn
          rw [this]; rfl, h.1, h.2⟩
      exact reachS_ _ _ (pI L) (pI H) a b LO HI s3 p3 xs.length c3 q3 ys.length d3 _ hkr _ _ _ _ _ _ _ (fun (W : World) (s : Bool) (p : Option Addr) (l c : Nat) (q : Option Addr) (k d : Nat) => RP 0 W s p l c q k d false LO) (fun (W : World) (s : Bool) (p : Option Addr) (l c : Nat) (q : Option Addr) (k d : Nat) => RP 0 W s p l c q k d true LO) (fun (W : World) (s : Bool) (p : Option Addr) (l c : Nat) (q : Option Addr) (k d : Nat) => RP 0 W s p l c q k d false HI) (fun (W : World) (s : Bool) (p : Option Addr) (l c : Nat) (q : Option Addr) (k d : Nat) => RP 0 W s p l c q k d true HI) hm3 hr (in8_ a b) hlo hhi hfl hfh tl th tw ng1 ng2 dd1 dd2 hn1 hh1 hn2 hh2 hn3 hh3 hn4 hh4 hB te _ hno n2 n3 n1 hv _ _ _ hsg (by
        by_cases z : val xs = 0
        · rw [if_pos z]; decide
        · rw [if_neg z]
          cases s3
          · decide
          · exact absurd ⟨rfl, z⟩ sn) (fun (W : World) (s5 : Bool) (p5 : Option Addr) (l5 c5 : Nat) (q5 : Option Addr) (k5 d5 : Nat) => rvI s5 (val xs) = ((val xs : Nat) : Int) ∧ LN9 W (.slice p5 l5 c5) (val xs) ∧ LN9 W (.slice q5 k5 d5) (val ys)) hks hps0 hc1 hc2 u1 u2 w hz0
  · rw [← Bool.decide_and, decide_eq_false v1] at hv
    exact reachV_ _ _ (pI L) (pI H) a b LO HI s3 p3 xs.length c3 q3 ys.length d3 _ hkr _ _ _ _ _ _ _ (fun (W : World) (s : Bool) (p : Option Addr) (l c : Nat) (q : Option Addr) (k d : Nat) => RP 0 W s p l c q k d false LO) (fun (W : World) (s : Bool) (p : Option Addr) (l c : Nat) (q : Option Addr) (k d : Nat) => RP 0 W s p l c q k d true LO) (fun (W : World) (s : Bool) (p : Option Addr) (l c : Nat) (q : Option Addr) (k d : Nat) => RP 0 W s p l c q k d false HI) (fun (W : World) (s : Bool) (p : Option Addr) (l c : Nat) (q : Option Addr) (k d : Nat) => RP 0 W s p l c q k d true HI) hm3 hr (in8_ a b) hlo hhi hfl hfh tl th tw ng1 ng2 dd1 dd2 hn1 hh1 hn2 hh2 hn3 hh3 hn4 hh4 hB te _ hno n2 n3 n1 hv w hz0
end Go.Proofs.Ytolghomhigemgaa
