import Derived.Test.YtoihnpfklbdppaaGreatDoorProg
import Derived.Test.YtoihnpfklbdppaaGreatDoorKXA0
import Derived.Test.YtoihnpfklbdppaaGreatDoorKXM
import Derived.Test.YtoihnpfklbdppaaGreatDoorKXY
import Derived.Test.YtoihnpfklbdppaaGreatDoorKXQF
import Derived.Test.YtoihnpfklbdppaaGreatDoorKQA
import Derived.Test.YtoihnpfklbdppaaGreatDoorKQP
import Derived.Test.YtoihnpfklbdppaaGreatDoorKXQU
import Derived.Test.YtoihnpfklbdppaaGreatDoorKQB
import Derived.Test.YtoihnpfklbdppaaGreatDoorKQBT
import Derived.Test.YtoihnpfklbdppaaGreatDoorKQJd
import Derived.Test.YtoihnpfklbdppaaGreatDoorKHB
import Derived.Test.YtoihnpfklbdppaaGreatDoorKLX
import Derived.Test.YtoihnpfklbdppaaGreatDoorKXMR
import Derived.Test.YtoihnpfklbdppaaGreatDoorKXG1
import Derived.Test.YtoihnpfklbdppaaGreatDoorKXH2Q
import Derived.Test.YtoihnpfklbdppaaGreatDoorKNSm
import Derived.Test.YtoihnpfklbdppaaGreatDoorKXT
import Derived.Test.YtoihnpfklbdppaaGreatDoorKXRT
import Derived.Test.YtoihnpfklbdppaaGreatDoorKXRL
import Derived.Test.YtoihnpfklbdppaaGreatDoorKXCO
import Derived.Test.YtoihnpfklbdppaaGreatDoorKLN
import Derived.Test.YtoihnpfklbdppaaGreatDoorKXRN
import Derived.Test.YtoihnpfklbdppaaGreatDoorKW4
import Derived.Test.YtoihnpfklbdppaaGreatDoorKBY
import Derived.Test.YtoihnpfklbdppaaGreatDoorKXBW
import Derived.Test.YtoihnpfklbdppaaGreatDoorKXTZ
import Derived.Test.YtoihnpfklbdppaaGreatDoorKXMQ
import Derived.Test.YtoihnpfklbdppaaGreatDoorKXMS
import Derived.Test.YtoihnpfklbdppaaGreatDoorKXO3
import Derived.Test.YtoihnpfklbdppaaGreatDoorKXO
import Derived.Test.YtoihnpfklbdppaaGreatDoorKXG4
import Derived.Test.YtoihnpfklbdppaaGreatDoorKXS2
import Derived.Test.YtoihnpfklbdppaaGreatDoorKVF
import Derived.Test.YtoihnpfklbdppaaGreatDoorKXU1
import Derived.Test.YtoihnpfklbdppaaGreatDoorKXVD
import Derived.Test.YtoihnpfklbdppaaGreatDoorKH3DQ
import Derived.WalkKit
import Derived.ProofKit
import Derived.RowKit3
import Derived.WalkSpells
import Derived.StillTactics
import Derived.Deep.QuietTactic
import Derived.BigQuiet
import Derived.Below
import Derived.Deep.OwnRows
import Derived.OwnWalk
import Derived.Laws.BitsAllLaws
import Derived.Laws.Slices
import Derived.Laws.Bits64b
import Derived.Laws.FloatArith
namespace Go.Proofs.YtoihnpfklbdppaaGreatDoor
open Go.RowKit
set_option maxRecDepth 20000 in
set_option maxHeartbeats 400000 in
theorem fromV_ (n : Bool) (m : Nat) (hm : m < 9218868437227405312) (K : Nat) (hK : K = 1074) (w : World) : Calls Tryz.prog 22 #[.int .u64 ((Fq.wD n m : Nat) : Int)] w fun e w' => ∃ (p q : Option Addr) (c d a b : Nat) (s : Bool), e = .returned (.agg #[.bool s, .slice p (dig a).length c, .slice q (dig b).length d]) ∧ Arr w' p (dig a) ∧ (dig a).length ≤ c ∧ Arr w' q (dig b) ∧ (dig b).length ≤ d ∧ (b ≠ 0 ∧ a * 2 ^ K = Fq.vV Ieee.double m * b ∧ Iv n m = (if s then -((Fq.vV Ieee.double m : Nat) : Int) else ((Fq.vV Ieee.double m : Nat) : Int)) ∧ blen a ≤ 1500 ∧ blen b ≤ 1500) ∧ Kp w w' := by
  have h := fromBits_ n m hm w
  refine Calls.mono (show Calls Tryz.prog 22 #[.int .u64 ((Fq.wD n m : Nat) : Int)] w _ from h) ?_
  rintro e w' ⟨vn, vd, a, b, s, rfl, o1, o2, ⟨hF, hs⟩, k⟩
  obtain ⟨p, c, rfl, a1, l1⟩ := o1.arr
  obtain ⟨q, d, rfl, a2, l2⟩ := o2.arr
  obtain ⟨v1, v2, v3, v4, v5⟩ := Fq.vlsgD m hm
  have hF' : FracOf (Fq.sgD m) 1 (Fq.epD m) a b := hF
  have hs' : Fq.sgD m ≠ 0 → s = n := hs
  have hval : Fq.vV Ieee.double m = Fq.sgD m * 2 ^ (Fq.epD m + 1074).toNat := v1.symm
  refine ⟨p, q, c, d, a, b, s, rfl, a1, l1, a2, l2, ⟨hF'.1, ?_, ?_, ?_, ?_⟩, k⟩
  · by_cases c0 : Fq.sgD m = 0
    · rw [hval, c0, hF'.2.1.2 c0]; simp
    · rw [hval]
      exact frac_exact (Fq.sgD m) (Fq.epD m) a b K (Fq.epD m + 1074).toNat hF' c0 (by omega)
  · unfold Iv
    by_cases c0 : Fq.sgD m = 0
    · have : Fq.vV Ieee.double m = 0 := by rw [hval, c0]; simp
      rw [this]; cases n <;> cases s <;> simp
    · rw [hs' c0]
  · have h1 := hF'.2.2.2.1
    have h2 : blen (Fq.sgD m) ≤ 53 := by rw [blen_le_iff, show (2 : Nat) ^ 53 = 9007199254740992 from by decide]; exact v2
    omega
  · have h1 := hF'.2.2.2.2
    have h2 : blen 1 = 1 := blen_uniq 1 0 (by decide) (by decide)
    omega
set_option maxRecDepth 20000 in
set_option maxHeartbeats 400000 in
theorem neg3b_ (n : Bool) (m : Nat) (hm : m < 9223372036854775808) (w : World) : Calls Tryz.prog 19 #[.int .u64 ((Fq.wD n m : Nat) : Int)] w fun e w' => e = .returned (.bool (n && decide (m ≠ 0))) ∧ w' = w := by
  obtain ⟨X, hX⟩ : ∃ X, X = Fq.wD n m := ⟨_, rfl⟩
  have t1 : (9223372036854775808 < (X : Int)) ↔ (n && decide (m ≠ 0)) = true := by
    rw [hX]; unfold Fq.wD
    cases n <;> simp <;> omega
  rw [← hX]
  obtain ⟨bb, hbb⟩ : ∃ bb, bb = (n && decide (m ≠ 0)) := ⟨_, rfl⟩
  rw [← hbb] at t1 ⊢
  clear hX hm hbb
  cases bb
  · have t2 : ¬ (9223372036854775808 < (X : Int)) := fun h => by simp at t1; omega
    clear t1
    go_enter Tryz.func19, Tryz.ntmps19
    go_wp2
    exact bodyPost_ret (v := .bool false) (by simp [results, Tryz.results19, go_sem] <;> omega) rfl ⟨rfl, rfl⟩
  · have t2 : 9223372036854775808 < (X : Int) := t1.2 rfl
    clear t1
    go_enter Tryz.func19, Tryz.ntmps19
    go_wp2
    exact bodyPost_ret (v := .bool true) (by simp [results, Tryz.results19, go_sem] <;> omega) rfl ⟨rfl, rfl⟩
set_option maxRecDepth 20000 in
set_option maxHeartbeats 1000000 in
theorem rroot0_ (d : Int) (sa : Bool) (P1 P2 : Option Addr) (C1 C2 E1 E2 : Nat) (w : World) (h1 : Ls w (.slice P1 E1 C1) (dig 0)) :
    Calls Tryz.prog 21 #[.int .i64 d, .agg #[.bool sa, .slice P1 E1 C1, .slice P2 E2 C2], .int .i64 2] w fun e w' => e = .returned (.int .u64 0) ∧ Kp w w' := by
  obtain ⟨w0, hw0⟩ : ∃ w0, w0 = w.alloc (.cells #[.bool sa, .slice P1 E1 C1, .slice P2 E2 C2] 42) := ⟨_, rfl⟩
  have kw : Kp w w0 := by rw [hw0]; exact (Kp.refl w).alloc _
  have s1 := rsign_ sa (.slice P1 E1 C1) (.slice P2 E2 C2) 0 w0 (h1.kp kw) (by rw [blen_zero]; omega)
  rw [if_pos rfl] at s1
  clear h1
  go_enter Tryz.func21, Tryz.ntmps21
  go_wp2_with fail
  rw [← hw0]
  refine s1.mono ?_; rintro e w1 ⟨rfl, kk1⟩
  have k1 := kw.trans kk1
  clear s1 hw0 kw kk1
  go_wp2
  exact bodyPost_ret (v := .int .u64 0) (by simp [results, Tryz.results21, go_sem]) rfl ⟨rfl, k1⟩
set_option maxRecDepth 20000 in
set_option maxHeartbeats 1000000 in
theorem rsqrtB_ (d : Int) (n : Bool) (m : Nat) (hm : m < 9223372036854775808) (hb : 9218868437227405312 < m ∨ (n = true ∧ m ≠ 0)) (w : World) :
    Calls Tryz.prog 7 #[.int .i64 d, .int .u64 ((Fq.wD n m : Nat) : Int)] w fun e w' => e = .returned (.int .u64 9221120237041090561) ∧ Kp w w' := by
  have i1 := fun w => isnan_ n m hm w
  have j1 := fun w => neg3b_ n m hm w
  obtain ⟨X, hX⟩ : ∃ X, X = Fq.wD n m := ⟨_, rfl⟩
  rw [← hX] at i1 j1 ⊢
  by_cases c : 9218868437227405312 < m
  · rw [decide_eq_true c] at i1
    clear hX hm hb j1 c
    go_enter Tryz.func7, Tryz.ntmps7
    go_wp2_with fail
    refine (i1 w).mono ?_; rintro e w' ⟨rfl, hw'⟩; obtain rfl := hw'.symm; clear hw'
    clear i1
    go_wp2
    exact bodyPost_ret (v := .int .u64 9221120237041090561) (by simp [results, Tryz.results7, go_sem]) rfl ⟨rfl, Kp.refl _⟩
  · rw [decide_eq_false c] at i1
    have h2 := hb.resolve_left c
    rw [h2.1, decide_eq_true h2.2] at j1
    clear hX hm hb c h2
    go_enter Tryz.func7, Tryz.ntmps7
    go_wp2_with fail
    refine (i1 w).mono ?_; rintro e w' ⟨rfl, hw'⟩; obtain rfl := hw'.symm; clear hw'
    go_wp2_with fail
    refine (j1 w).mono ?_; rintro e w' ⟨rfl, hw'⟩; obtain rfl := hw'.symm; clear hw'
    clear i1 j1
    go_wp2
    exact bodyPost_ret (v := .int .u64 9221120237041090561) (by simp [results, Tryz.results7, go_sem]) rfl ⟨rfl, Kp.refl _⟩
set_option maxRecDepth 20000 in
set_option maxHeartbeats 1000000 in
theorem rsqrtI_ (d : Int) (w : World) :
    Calls Tryz.prog 7 #[.int .i64 d, .int .u64 ((Fq.wD false 9218868437227405312 : Nat) : Int)] w fun e w' => e = .returned (.int .u64 ((Fq.wD false 9218868437227405312 : Nat) : Int)) ∧ Kp w w' := by
  have i1 := fun w => isnan_ false 9218868437227405312 (by decide) w
  have j1 := fun w => neg3b_ false 9218868437227405312 (by decide) w
  have k1 := fun w => isinf_ false 9218868437227405312 (by decide) w
  rw [decide_eq_false (by decide)] at i1
  rw [decide_eq_true rfl] at k1
  obtain ⟨X, hX⟩ : ∃ X, X = Fq.wD false 9218868437227405312 := ⟨_, rfl⟩
  rw [← hX] at i1 j1 k1 ⊢
  rw [Bool.false_and] at j1
  clear hX
  go_enter Tryz.func7, Tryz.ntmps7
  go_wp2_with fail
  refine (i1 w).mono ?_; rintro e w' ⟨rfl, hw'⟩; obtain rfl := hw'.symm; clear hw'
  go_wp2_with fail
  refine (j1 w).mono ?_; rintro e w' ⟨rfl, hw'⟩; obtain rfl := hw'.symm; clear hw'
  go_wp2_with fail
  refine (k1 w).mono ?_; rintro e w' ⟨rfl, hw'⟩; obtain rfl := hw'.symm; clear hw'
  clear i1 j1 k1
  go_wp2
  exact bodyPost_ret (v := .int .u64 (X : Int)) (by simp [results, Tryz.results7, go_sem]) rfl ⟨rfl, Kp.refl _⟩
set_option maxRecDepth 20000 in
set_option maxHeartbeats 1000000 in
theorem rsqrtF_ (d : Int) (n : Bool) (m : Nat) (hm : m < 9218868437227405312) (hn : n = false ∨ m = 0) (w : World) :
    Calls Tryz.prog 7 #[.int .i64 d, .int .u64 ((Fq.wD n m : Nat) : Int)] w fun e w' => e = .returned (.int .u64 ((if m = 0 then 0 else rootW d (Fq.vV Ieee.double m) : Nat) : Int)) ∧ Kp w w' := by
  have i1 := fun w => isnan_ n m (by omega) w
  have j1 := fun w => neg3b_ n m (by omega) w
  have k1 := fun w => isinf_ n m (by omega) w
  rw [decide_eq_false (by omega)] at i1 k1
  rw [show (n && decide (m ≠ 0)) = false from by rcases hn with h | h <;> simp [h]] at j1
  obtain ⟨K, hK⟩ : ∃ K : Nat, K = 1074 := ⟨_, rfl⟩
  have b1 := fromV_ n m hm K hK w
  obtain ⟨Z, hZ⟩ : ∃ Z, Z = (if m = 0 then 0 else rootW d (Fq.vV Ieee.double m)) := ⟨_, rfl⟩
  have HR : Hid (∀ (sa : Bool) (a1 a2 : Nat) (P1 P2 : Option Addr) (C1 C2 : Nat) (w : World), Arr w P1 (dig a1) → (dig a1).length ≤ C1 → Arr w P2 (dig a2) → (dig a2).length ≤ C2 → (a2 ≠ 0 ∧ a1 * 2 ^ K = Fq.vV Ieee.double m * a2 ∧ Iv n m = (if sa then -((Fq.vV Ieee.double m : Nat) : Int) else ((Fq.vV Ieee.double m : Nat) : Int)) ∧ blen a1 ≤ 1500 ∧ blen a2 ≤ 1500) → Calls Tryz.prog 21 #[.int .i64 d, .agg #[.bool sa, .slice P1 (dig a1).length C1, .slice P2 (dig a2).length C2], .int .i64 2] w fun e w' => e = .returned (.int .u64 (Z : Int)) ∧ Kp w w') := by
    show ∀ (sa : Bool) (a1 a2 : Nat) (P1 P2 : Option Addr) (C1 C2 : Nat) (w : World), Arr w P1 (dig a1) → (dig a1).length ≤ C1 → Arr w P2 (dig a2) → (dig a2).length ≤ C2 → _ → Calls Tryz.prog 21 #[.int .i64 d, .agg #[.bool sa, .slice P1 (dig a1).length C1, .slice P2 (dig a2).length C2], .int .i64 2] w fun e w' => e = .returned (.int .u64 (Z : Int)) ∧ Kp w w'
    intro sa a1 a2 P1 P2 C1 C2 w h1 l1 h2 l2 ⟨za, ea, ia, ba1, ba2⟩
    by_cases z : m = 0
    · have e0 : a1 = 0 := by
        rw [(vV_zero m).2 z, Nat.zero_mul] at ea
        rcases Nat.mul_eq_zero.1 ea with g | g
        · exact g
        · exact absurd g (Nat.ne_of_gt (Nat.two_pow_pos K))
      rw [hZ, if_pos z]
      subst e0
      exact rroot0_ d sa P1 P2 C1 C2 _ _ w ⟨P1, C1, rfl, h1, l1⟩
    · have hA : Fq.vV Ieee.double m ≠ 0 := fun h => z ((vV_zero m).1 h)
      have z1 : a1 ≠ 0 := fun h => by
        rw [h, Nat.zero_mul] at ea
        rcases Nat.mul_eq_zero.1 ea.symm with g | g
        · exact hA g
        · exact za g
      have hn0 : n = false := hn.resolve_right z
      have hs : sa = false := by
        rw [hn0] at ia
        unfold Iv at ia
        cases sa <;> simp at ia ⊢ <;> omega
      rw [hZ, if_neg z, hs]
      exact rroot_ d a1 a2 _ P1 P2 C1 C2 _ _ w ⟨P1, C1, rfl, h1, l1⟩ ⟨P2, C2, rfl, h2, l2⟩ ba1 ba2 z1 za K hK ea
  obtain ⟨X, hX⟩ : ∃ X, X = Fq.wD n m := ⟨_, rfl⟩
  rw [← hX] at i1 j1 k1 b1
  rw [← hX, ← hZ]
  clear hX hZ hK hm hn
  go_enter Tryz.func7, Tryz.ntmps7
  go_wp2_with fail
  refine (i1 w).mono ?_; rintro e w' ⟨rfl, hw'⟩; obtain rfl := hw'.symm; clear hw'
  go_wp2_with fail
  refine (j1 w).mono ?_; rintro e w' ⟨rfl, hw'⟩; obtain rfl := hw'.symm; clear hw'
  go_wp2_with fail
  refine (k1 w).mono ?_; rintro e w' ⟨rfl, hw'⟩; obtain rfl := hw'.symm; clear hw'
  clear i1 j1 k1
  go_wp2_with fail
  refine b1.mono ?_; rintro e w1 ⟨p1, p2, c1, c2, a1, a2, sa, rfl, u1, u2, u3, u4, fa, k1⟩
  have hr := HR.out sa a1 a2 p1 p2 c1 c2 w1 u1 u2 u3 u4 fa
  obtain ⟨E1, g1⟩ : ∃ E, E = (dig a1).length := ⟨_, rfl⟩
  obtain ⟨E2, g2⟩ : ∃ E, E = (dig a2).length := ⟨_, rfl⟩
  rw [← g1, ← g2] at hr ⊢
  clear b1 u1 u2 u3 u4 fa g1 g2 HR
  go_wp2_with fail
  refine hr.mono ?_; rintro e w3 ⟨rfl, k3⟩
  have k9 := k1.trans k3
  clear hr k1 k3
  go_wp2
  exact bodyPost_ret (v := .int .u64 (Z : Int)) (by simp [results, Tryz.results7, go_sem]) rfl ⟨rfl, k9⟩
theorem iv_zero9 (n : Bool) : Iv n 0 = 0 := by unfold Iv; cases n <;> rfl
theorem ordfin (n : Bool) (R : Nat) (h : R ≤ 9218868437227405312) : (FloatKind.f64.format.order (Fq.wD n R) (Fq.wD n R) != some .eq) = false := by
  rw [Fq.ordD n n R R h h, Fq.cmp_eq rfl]; rfl
theorem ordnn (r : Nat) (h1 : 9218868437227405312 < r % 9223372036854775808) (h2 : r < 18446744073709551616) : (FloatKind.f64.format.order r r != some .eq) = true := by
  have e : r = Fq.wD (decide (9223372036854775808 ≤ r)) (r % 9223372036854775808) := by
    unfold Fq.wD
    by_cases c : 9223372036854775808 ≤ r
    · rw [decide_eq_true c, if_pos rfl]; omega
    · rw [decide_eq_false c, if_neg (by simp)]; omega
  have h3 := Fq.ordD_nanl (decide (9223372036854775808 ≤ r)) (r % 9223372036854775808) r h1 (Nat.mod_lt _ (by decide))
  rw [← e] at h3
  rw [h3]; rfl
theorem ordsum (d V : Int) : (FloatKind.f64.format.order (sumW d V) (sumW d V) != some .eq) = false := by
  unfold sumW
  by_cases c : V = 0
  · rw [if_pos c]; exact ordfin false 0 (by decide)
  · rw [if_neg c]; exact ordselfD _ _ (fin_leD _ _)
theorem sqrt_both (d : Int) (n : Bool) (m : Nat) (hm : m < 9223372036854775808) (hd1 : -9223372036854775808 ≤ d) (hd2 : d < 9223372036854775808) :
    ∃ Z : Nat, (∀ w : World, Fq.Tab w → Calls Tryz.prog 5 #[.int .i64 d, .float .f64 (Fq.wD n m)] w fun e w' => ∃ R, e = .returned (.float .f64 R) ∧ (∀ w1 : World, Calls Tryz.prog 4 #[.float .f64 R] w1 fun e w' => e = .returned (.int .u64 (Z : Int)) ∧ w' = w1) ∧ Kp w w') ∧
      ∀ w : World, Calls Tryz.prog 7 #[.int .i64 d, .int .u64 ((Fq.wD n m : Nat) : Int)] w fun e w' => e = .returned (.int .u64 (Z : Int)) ∧ Kp w w' := by
  by_cases hb : badR n m
  · refine ⟨9221120237041090561, fun w hQ => ?_, fun w => rsqrtB_ d n m hm hb w⟩
    obtain ⟨R, p1, p2, hrun⟩ := sqrt_nan _ (sqrt_bad n m hm hb) w
    obtain ⟨a, b, hb9, hR⟩ := word_of R p2
    have hp := Fq.plain_d a b (by omega) w.drew
    have hbI : 9218868437227405312 < b := by
      have e : R % 9223372036854775808 = b := by
        rw [hR]; unfold Fq.wD
        cases a <;> simp <;> omega
      omega
    rw [show (a && !(b == 0)) = a from by simp; omega, ← hR] at hp
    refine (psqrtP_ d n m hm (fun h => by unfold badR at hb; rcases hb with g | g; exact absurd h.2.1 (by omega); exact absurd h.1 (by rw [g.1]; decide)) w w.drew R R (msqrtN_ _ R w hrun) (Kp.refl _).drew hp).mono fun e w' h => ?_
    exact ⟨R, h.1, fun w1 => bitsNaN_ _ (ordnn R p1 p2) w1, h.2⟩
  · unfold badR at hb
    have hm2 : m ≤ 9218868437227405312 := by omega
    by_cases c1 : m = 9218868437227405312
    · have hn : n = false := by
        cases n
        · rfl
        · exact absurd (Or.inr ⟨rfl, by omega⟩) hb
      subst hn
      subst c1
      refine ⟨Fq.wD false 9218868437227405312, fun w hQ => ?_, fun w => rsqrtI_ d w⟩
      have hp := Fq.plain_d false 9218868437227405312 (by decide) w
      rw [Bool.false_and] at hp
      refine (psqrtP_ d false 9218868437227405312 (by decide) (fun h => by omega) w w _ _ (msqrt_ _ _ sqrt_inf w) (Kp.refl _) hp).mono fun e w' h => ?_
      exact ⟨_, h.1, fun w1 => bitsN_ _ (ordfin _ _ (Nat.le_refl _)) w1, h.2⟩
    · have c2 : m < 9218868437227405312 := by omega
      by_cases z : m = 0
      · subst z
        refine ⟨0, fun w hQ => ?_, fun w => ?_⟩
        · have hp := Fq.plain_d n 0 (by decide) w
          rw [show Fq.wD (n && !((0 : Nat) == 0)) 0 = 0 from by simp; rfl] at hp
          refine (psqrtP_ d n 0 (by decide) (fun h => h.2.2 rfl) w w _ _ (msqrt_ _ _ (sqrt_zero n) w) (Kp.refl _) hp).mono fun e w' h => ?_
          exact ⟨_, h.1, fun w1 => bitsN_ _ (ordfin false 0 (by decide)) w1, h.2⟩
        · have h := rsqrtF_ d n 0 (by decide) (Or.inr rfl) w
          rw [if_pos rfl] at h
          exact h
      · have hn : n = false := by
          cases n
          · rfl
          · exact absurd (Or.inr ⟨rfl, z⟩) hb
        subst hn
        refine ⟨rootW d (Fq.vV Ieee.double m), fun w hQ => ?_, fun w => ?_⟩
        · suffices h : Calls Tryz.prog 5 #[.int .i64 d, .float .f64 (Fq.wD false m)] w fun e w' => e = .returned (.float .f64 (rootW d (Fq.vV Ieee.double m))) ∧ Kp w w' from
            h.mono fun e w' h => ⟨_, h.1, fun w1 => bitsN_ _ (ordsum _ _) w1, h.2⟩
          by_cases ct : 2580562586483294208 ≤ m ∧ m ≤ 6633802251116740608
          · exact psqrtQ_ d m ct w
          · exact psqrtE_ d m c2 z ct w hQ hd1 hd2
        · have h := rsqrtF_ d false m c2 (Or.inl rfl) w
          rw [if_neg z] at h
          exact h
set_option maxRecDepth 20000 in
set_option maxHeartbeats 1000000 in
theorem squares_ (d : Int) (X : Nat) (w : World) (hQ : Fq.Tab w) (hd1 : -9223372036854775808 ≤ d) (hd2 : d < 9223372036854775808) (hX : X < 18446744073709551616) :
    Calls Tryz.prog 3 #[.int .i64 d, .int .u64 (X : Int)] w fun e w' => e = .returned (.bool true) ∧ Kp w w' := by
  obtain ⟨n, m, hm, eX⟩ := word_of X hX
  obtain ⟨Z1, p1, q1⟩ := sqrt_both d n m (by omega) hd1 hd2
  rw [← eX] at p1 q1
  have f1 := fl_ X
  clear eX hm hX hd1 hd2
  go_enter Tryz.func3, Tryz.ntmps3
  go_wp2_with fail
  refine (f1 _).mono ?_; rintro e w' ⟨rfl, hw'⟩; obtain rfl := hw'.symm; clear hw'
  have hc := p1 _ hQ
  go_wp2_with fail
  refine hc.mono ?_; rintro e w1 ⟨R1, rfl, hb1, k1⟩; clear hc
  go_wp2_with fail
  refine (hb1 _).mono ?_; rintro e w' ⟨rfl, hw'⟩; obtain rfl := hw'.symm; clear hw' hb1
  have hc := q1 w1
  go_wp2_with fail
  refine hc.mono ?_; rintro e w2 ⟨rfl, k2⟩; clear hc
  have kk := k1.trans k2
  clear f1 p1 q1 k1 k2 hQ
  go_wp2
  exact bodyPost_ret (v := .bool true) (by simp [results, Tryz.results3, go_sem]) rfl ⟨rfl, kk⟩
end Go.Proofs.YtoihnpfklbdppaaGreatDoor
