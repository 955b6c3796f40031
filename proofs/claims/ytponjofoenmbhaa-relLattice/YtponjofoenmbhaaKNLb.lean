import Derived.Test.YtponjofoenmbhaaProg
import Derived.Test.YtponjofoenmbhaaKXA0
import Derived.Test.YtponjofoenmbhaaKQM
import Derived.Test.YtponjofoenmbhaaKQA
import Derived.Test.YtponjofoenmbhaaKXQU
import Derived.Test.YtponjofoenmbhaaKEM
import Derived.Test.YtponjofoenmbhaaKEN
import Derived.Test.YtponjofoenmbhaaKEA
import Derived.Test.YtponjofoenmbhaaKEB
import Derived.Test.YtponjofoenmbhaaKEH
import Derived.Test.YtponjofoenmbhaaKEK
import Derived.Test.YtponjofoenmbhaaKEO
import Derived.Test.YtponjofoenmbhaaKER
import Derived.Test.YtponjofoenmbhaaKES
import Derived.Test.YtponjofoenmbhaaKNRv
import Derived.Test.YtponjofoenmbhaaKNRm
import Derived.Test.YtponjofoenmbhaaKNRa
import Derived.Test.YtponjofoenmbhaaKNRb
import Derived.Test.YtponjofoenmbhaaKNRc
import Derived.Test.YtponjofoenmbhaaKNRd
import Derived.Test.YtponjofoenmbhaaKNRe
import Derived.Test.YtponjofoenmbhaaKNRf
import Derived.Test.YtponjofoenmbhaaKNRg
import Derived.Test.YtponjofoenmbhaaKNRh
import Derived.Test.YtponjofoenmbhaaKNRi
import Derived.Test.YtponjofoenmbhaaKNLa
import Derived.WalkKit
import Derived.ProofKit
import Derived.RowKit3
import Derived.WalkSpells
import Derived.StillTactics
import Derived.Deep.QuietTactic
import Derived.BigQuiet
import Derived.Below
import Derived.Deep.OwnRows
import Derived.OwnWalk
import Derived.Laws.BitsAllLaws
import Derived.Laws.Slices
import Derived.Laws.Bits64b
import Derived.Laws.FloatArith
import Derived.Deep.RegionHeld3
import Derived.Deep.CutRange
import Derived.Deep.DeepCutAuto
namespace Go.Proofs.Ytponjofoenmbhaa
open Go.RowKit

set_option maxHeartbeats 4000000 in
theorem lat_math (L1 H1 L2 H2 L3 H3 : Int) (d1 : VdZ L1 H1) (d2 : VdZ L2 H2) (d3 : VdZ L3 H3) : (iL L2 H2 L1 H1 = (iL L1 H1 L2 H2) ∧ iH L2 H2 L1 H1 = (iH L1 H1 L2 H2)) ∧ (iL L1 H1 (iL L2 H2 L3 H3) (iH L2 H2 L3 H3) = (iL (iL L1 H1 L2 H2) (iH L1 H1 L2 H2) L3 H3) ∧ iH L1 H1 (iL L2 H2 L3 H3) (iH L2 H2 L3 H3) = (iH (iL L1 H1 L2 H2) (iH L1 H1 L2 H2) L3 H3)) ∧ (iL L1 H1 L1 H1 = L1 ∧ iH L1 H1 L1 H1 = H1) ∧ (iL L1 H1 (min L1 L2) (max H1 H2) = L1 ∧ iH L1 H1 (min L1 L2) (max H1 H2) = H1) ∧ (min L1 (iL L1 H1 L2 H2) = L1 ∧ max H1 (iH L1 H1 L2 H2) = H1) := by
  unfold VdZ at d1 d2 d3
  refine ⟨⟨?_, ?_⟩, ⟨?_, ?_⟩, ⟨?_, ?_⟩, ⟨?_, ?_⟩, ⟨?_, ?_⟩⟩ <;> simp only [iL, iH] <;> repeat' split
  all_goals omega
theorem eqS9 (x y : Int) (hx : BdZ x) (hy : BdZ y) (w : World) : (Op.equalIn 9999 26 (.float .f64 (pw x)) (.float .f64 (pw y))).run Try.prog w = .ok (decide (x = y)) w := by
  have h := Fq.eqInR (pw x) (pw y) w
  rw [peq9 x y hx hy] at h
  exact h
theorem eqR9 (x : Int) (hx : BdZ x) (w : World) : (Op.equalIn 9999 26 (.float .f64 (pw x)) (.float .f64 (pw x))).run Try.prog w = .ok true w := by
  have h := eqS9 x x hx hx w
  rw [decide_eq_true rfl] at h
  exact h
set_option maxHeartbeats 4000000 in
theorem lattices_ (a b c d e9 f9 : Nat) (ha : a < 18446744073709551616) (hb : b < 18446744073709551616) (hc : c < 18446744073709551616) (hd : d < 18446744073709551616) (he : e9 < 18446744073709551616) (hf : f9 < 18446744073709551616) (w : World) : Calls Try.prog 4 #[.agg #[.int .u64 ((a : Nat) : Int), .int .u64 ((b : Nat) : Int)], .agg #[.int .u64 ((c : Nat) : Int), .int .u64 ((d : Nat) : Int)], .agg #[.int .u64 ((e9 : Nat) : Int), .int .u64 ((f9 : Nat) : Int)]] w fun e w' => e = .returned (.bool true) ∧ Kp w w' := by
  obtain ⟨L1, H1, r1⟩ := Rd.ex a b ha hb
  obtain ⟨L2, H2, r2⟩ := Rd.ex c d hc hd
  obtain ⟨L3, H3, r3⟩ := Rd.ex e9 f9 he hf
  have d1 := r1.vd
  have d2 := r2.vd
  have d3 := r3.vd
  obtain ⟨⟨mb1, mb2⟩, ⟨mj1, mj2⟩, ⟨ms1, ms2⟩, ⟨mh1, mh2⟩, ⟨mi1, mi2⟩⟩ := lat_math L1 H1 L2 H2 L3 H3 d1 d2 d3
  have vi := vd_meet L1 H1 L2 H2 d1 d2
  have vh := vd_hull L1 H1 L2 H2 d1 d2
  have vj := vd_meet L2 H2 L3 H3 d2 d3
  have vk := vd_hull L2 H2 L3 H3 d2 d3
  have vm := vd_meet _ _ _ _ vi d3
  have vg := vd_hull _ _ _ _ vh d3
  have f0 := meet9_ a b c d L1 H1 L2 H2 r1 r2
  have f1 := meet9_ c d a b L2 H2 L1 H1 r2 r1
  have f2 := hull9_ a b c d L1 H1 L2 H2 r1 r2
  have f3 := hull9_ c d a b L2 H2 L1 H1 r2 r1
  have f4 := meet9_ _ _ e9 f9 _ _ L3 H3 (Rd.of vi) r3
  have f5 := meet9_ c d e9 f9 L2 H2 L3 H3 r2 r3
  have f6 := meet9_ a b _ _ L1 H1 _ _ r1 (Rd.of vj)
  have f7 := hull9_ _ _ e9 f9 _ _ L3 H3 (Rd.of vh) r3
  have f8 := hull9_ c d e9 f9 L2 H2 L3 H3 r2 r3
  have f9' := hull9_ a b _ _ L1 H1 _ _ r1 (Rd.of vk)
  have f10 := meet9_ a b a b L1 H1 L1 H1 r1 r1
  have f11 := hull9_ c d c d L2 H2 L2 H2 r2 r2
  have f12 := hull9_ a b a b L1 H1 L1 H1 r1 r1
  have f13 := meet9_ a b _ _ L1 H1 _ _ r1 (Rd.of vh)
  have f14 := hull9_ a b _ _ L1 H1 _ _ r1 (Rd.of vi)
  rw [mb1, mb2] at f1
  rw [show min L2 L1 = min L1 L2 from by omega, show max H2 H1 = max H1 H2 from by omega] at f3
  rw [mj1, mj2] at f6
  rw [show min L1 (min L2 L3) = min (min L1 L2) L3 from by omega, show max H1 (max H2 H3) = max (max H1 H2) H3 from by omega] at f9'
  rw [ms1, ms2] at f10
  rw [show min L2 L2 = L2 from by omega, show max H2 H2 = H2 from by omega] at f11
  rw [show min L1 L1 = L1 from by omega, show max H1 H1 = H1 from by omega] at f12
  rw [mh1, mh2] at f13
  rw [mi1, mi2] at f14
  have g0 := subset9_ a b c d L1 H1 L2 H2 r1 r2
  have g1 := subset9_ c d e9 f9 L2 H2 L3 H3 r2 r3
  have g2 := subset9_ a b e9 f9 L1 H1 L3 H3 r1 r3
  have g3 := equal9_ a b c d L1 H1 L2 H2 r1 r2
  have g4 := disj9_ a b c d L1 H1 L2 H2 r1 r2
  have hE := isemp9_ _ _ _ _ (Rd.of vi)
  rw [show decide ((iL L1 H1 L2 H2) = 9218868437227405312) = decide (¬ max L1 L2 ≤ min H1 H2) from by
    congr 1; apply propext
    unfold VdZ at d1 d2
    unfold iL
    split <;> omega] at hE
  have q1 := eqS9 _ _ vi.lo d1.lo
  have q2 := eqS9 _ _ vi.hi d1.hi
  have q3 := eqS9 _ _ vh.lo d2.lo
  have q4 := eqS9 _ _ vh.hi d2.hi
  have q5 := eqS9 _ _ d1.lo d2.lo
  have q6 := eqS9 _ _ d1.hi d2.hi
  have hS : decide (L2 ≤ L1 ∧ H1 ≤ H2) = (decide ((iL L1 H1 L2 H2) = L1) && decide ((iH L1 H1 L2 H2) = H1)) := by
    rw [← Bool.decide_and]
    congr 1; apply propext
    unfold VdZ at d1 d2
    unfold iL iH
    split <;> omega
  have hS2 : decide (L2 ≤ L1 ∧ H1 ≤ H2) = (decide (min L1 L2 = L2) && decide (max H1 H2 = H2)) := by
    rw [← Bool.decide_and]
    congr 1; apply propext
    omega
  have hE2 : decide (L1 = L2 ∧ H1 = H2) = (decide (L1 = L2) && decide (H1 = H2)) := by rw [← Bool.decide_and]
  have hST : decide (L2 ≤ L1 ∧ H1 ≤ H2) = false ∨ (decide (L2 ≤ L1 ∧ H1 ≤ H2) = true ∧ decide (L3 ≤ L2 ∧ H2 ≤ H3) = false) ∨ (decide (L2 ≤ L1 ∧ H1 ≤ H2) = true ∧ decide (L3 ≤ L2 ∧ H2 ≤ H3) = true ∧ decide (L3 ≤ L1 ∧ H1 ≤ H3) = true) := by
    by_cases c1 : L2 ≤ L1 ∧ H1 ≤ H2
    · by_cases c2 : L3 ≤ L2 ∧ H2 ≤ H3
      · exact Or.inr (Or.inr ⟨decide_eq_true c1, decide_eq_true c2, decide_eq_true (by omega)⟩)
      · exact Or.inr (Or.inl ⟨decide_eq_true c1, decide_eq_false c2⟩)
    · exact Or.inl (decide_eq_false c1)
  exact latticeA_ _ _ _ _ _ _ a b c d e9 f9 _ _ _ _ _ _ _ _ _ _ _ _ _ _ _ _ (fun f x1 x2 y1 y2 V => ∀ w : World, Calls Try.prog f #[.agg #[.float .f64 x1, .float .f64 x2], .agg #[.float .f64 y1, .float .f64 y2]] w fun e w' => e = .returned (.bool V) ∧ Kp w w') (fun f x1 x2 y1 y2 z1 z2 => ∀ w : World, Calls Try.prog f #[.agg #[.float .f64 x1, .float .f64 x2], .agg #[.float .f64 y1, .float .f64 y2]] w fun e w' => e = .returned (.agg #[.float .f64 z1, .float .f64 z2]) ∧ Kp w w') (fun _ _ _ _ _ _ h => h) (fun _ _ _ _ _ _ _ h => h) _ _ _ _ _ _ _ _ _ _ _ hE f0 f1 f2 f3 f4 f5 f6 f7 f8 f9' f10 f11 f12 f13 f14 g0 g1 g2 g3 g4 (eqR9 _ vi.lo) (eqR9 _ vi.hi) (eqR9 _ vh.lo) (eqR9 _ vh.hi) (eqR9 _ vm.lo) (eqR9 _ vm.hi) (eqR9 _ vg.lo) (eqR9 _ vg.hi) (eqR9 _ d1.lo) (eqR9 _ d1.hi) q1 q2 q3 q4 q5 q6 hS hS2 hE2 hST (in9_ a b) (in9_ c d) (in9_ e9 f9) w
end Go.Proofs.Ytponjofoenmbhaa
