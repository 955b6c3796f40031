import Derived.Test.YtponjofoenmbhaaProg
import Derived.Test.YtponjofoenmbhaaKXA0
import Derived.Test.YtponjofoenmbhaaKQM
import Derived.Test.YtponjofoenmbhaaKQA
import Derived.Test.YtponjofoenmbhaaKXQU
import Derived.Test.YtponjofoenmbhaaKEM
import Derived.Test.YtponjofoenmbhaaKEN
import Derived.Test.YtponjofoenmbhaaKEA
import Derived.Test.YtponjofoenmbhaaKEB
import Derived.Test.YtponjofoenmbhaaKEH
import Derived.Test.YtponjofoenmbhaaKEK
import Derived.Test.YtponjofoenmbhaaKEO
import Derived.Test.YtponjofoenmbhaaKER
import Derived.Test.YtponjofoenmbhaaKES
import Derived.Test.YtponjofoenmbhaaKNRv
import Derived.Test.YtponjofoenmbhaaKNRm
import Derived.Test.YtponjofoenmbhaaKNRa
import Derived.Test.YtponjofoenmbhaaKNRb
import Derived.Test.YtponjofoenmbhaaKNRc
import Derived.Test.YtponjofoenmbhaaKNRd
import Derived.Test.YtponjofoenmbhaaKNRe
import Derived.Test.YtponjofoenmbhaaKNRf
import Derived.Test.YtponjofoenmbhaaKNRg
import Derived.Test.YtponjofoenmbhaaKNRh
import Derived.Test.YtponjofoenmbhaaKNRi
import Derived.Test.YtponjofoenmbhaaKNLc
import Derived.WalkKit
import Derived.ProofKit
import Derived.RowKit3
import Derived.WalkSpells
import Derived.StillTactics
import Derived.Deep.QuietTactic
import Derived.BigQuiet
import Derived.Below
import Derived.Deep.OwnRows
import Derived.OwnWalk
import Derived.Laws.BitsAllLaws
import Derived.Laws.Slices
import Derived.Laws.Bits64b
import Derived.Laws.FloatArith
import Derived.Deep.RegionHeld3
import Derived.Deep.CutRange
import Derived.Deep.DeepCutAuto
namespace Go.Proofs.Ytponjofoenmbhaa
open Go.RowKit

set_option maxHeartbeats 4000000 in
theorem chains_ (a b c d e9 f9 : Nat) (ha : a < 18446744073709551616) (hb : b < 18446744073709551616) (hc : c < 18446744073709551616) (hd : d < 18446744073709551616) (he : e9 < 18446744073709551616) (hf : f9 < 18446744073709551616) (w : World) : Calls Try.prog 5 #[.agg #[.int .u64 ((a : Nat) : Int), .int .u64 ((b : Nat) : Int)], .agg #[.int .u64 ((c : Nat) : Int), .int .u64 ((d : Nat) : Int)], .agg #[.int .u64 ((e9 : Nat) : Int), .int .u64 ((f9 : Nat) : Int)]] w fun e w' => e = .returned (.bool true) ∧ Kp w w' := by
  obtain ⟨L1, H1, r1⟩ := Rd.ex a b ha hb
  obtain ⟨L2, H2, r2⟩ := Rd.ex c d hc hd
  obtain ⟨L3, H3, r3⟩ := Rd.ex e9 f9 he hf
  have d1 := r1.vd
  have d2 := r2.vd
  have d3 := r3.vd
  unfold VdZ at d1 d2 d3
  have hL : decide (L1 ≤ L2 ∧ H1 ≤ H2) = false ∨ (decide (L1 ≤ L2 ∧ H1 ≤ H2) = true ∧ decide (L2 ≤ L3 ∧ H2 ≤ H3) = false) ∨ (decide (L1 ≤ L2 ∧ H1 ≤ H2) = true ∧ decide (L2 ≤ L3 ∧ H2 ≤ H3) = true ∧ decide (L1 ≤ L3 ∧ H1 ≤ H3) = true) := by
    by_cases c1 : L1 ≤ L2 ∧ H1 ≤ H2
    · by_cases c2 : L2 ≤ L3 ∧ H2 ≤ H3
      · exact Or.inr (Or.inr ⟨decide_eq_true c1, decide_eq_true c2, decide_eq_true (by omega)⟩)
      · exact Or.inr (Or.inl ⟨decide_eq_true c1, decide_eq_false c2⟩)
    · exact Or.inl (decide_eq_false c1)
  have hS : decide ((L1 = 9218868437227405312 ∨ H1 < H2 ∨ H2 = 9218868437227405312) ∧ (L2 = 9218868437227405312 ∨ L1 < L2 ∨ L1 = -9218868437227405312)) = false ∨ (decide ((L1 = 9218868437227405312 ∨ H1 < H2 ∨ H2 = 9218868437227405312) ∧ (L2 = 9218868437227405312 ∨ L1 < L2 ∨ L1 = -9218868437227405312)) = true ∧ decide ((L2 = 9218868437227405312 ∨ H2 < H3 ∨ H3 = 9218868437227405312) ∧ (L3 = 9218868437227405312 ∨ L2 < L3 ∨ L2 = -9218868437227405312)) = false) ∨ (decide ((L1 = 9218868437227405312 ∨ H1 < H2 ∨ H2 = 9218868437227405312) ∧ (L2 = 9218868437227405312 ∨ L1 < L2 ∨ L1 = -9218868437227405312)) = true ∧ decide ((L2 = 9218868437227405312 ∨ H2 < H3 ∨ H3 = 9218868437227405312) ∧ (L3 = 9218868437227405312 ∨ L2 < L3 ∨ L2 = -9218868437227405312)) = true ∧ decide ((L1 = 9218868437227405312 ∨ H1 < H3 ∨ H3 = 9218868437227405312) ∧ (L3 = 9218868437227405312 ∨ L1 < L3 ∨ L1 = -9218868437227405312)) = true) := by
    by_cases c1 : (L1 = 9218868437227405312 ∨ H1 < H2 ∨ H2 = 9218868437227405312) ∧ (L2 = 9218868437227405312 ∨ L1 < L2 ∨ L1 = -9218868437227405312)
    · by_cases c2 : (L2 = 9218868437227405312 ∨ H2 < H3 ∨ H3 = 9218868437227405312) ∧ (L3 = 9218868437227405312 ∨ L2 < L3 ∨ L2 = -9218868437227405312)
      · exact Or.inr (Or.inr ⟨decide_eq_true c1, decide_eq_true c2, decide_eq_true (by omega)⟩)
      · exact Or.inr (Or.inl ⟨decide_eq_true c1, decide_eq_false c2⟩)
    · exact Or.inl (decide_eq_false c1)
  have hP : ∀ vb, decide (L2 = 9218868437227405312) = vb → vb = true ∨ (decide (H1 ≤ L2) = false ∨ (decide (H1 ≤ L2) = true ∧ decide (H2 ≤ L3) = false) ∨ (decide (H1 ≤ L2) = true ∧ decide (H2 ≤ L3) = true ∧ decide (H1 ≤ L3) = true)) := by
    rintro _ rfl
    by_cases c0 : L2 = 9218868437227405312
    · exact Or.inl (decide_eq_true c0)
    · exact Or.inr (by
    by_cases c1 : H1 ≤ L2
    · by_cases c2 : H2 ≤ L3
      · exact Or.inr (Or.inr ⟨decide_eq_true c1, decide_eq_true c2, decide_eq_true (by omega)⟩)
      · exact Or.inr (Or.inl ⟨decide_eq_true c1, decide_eq_false c2⟩)
    · exact Or.inl (decide_eq_false c1))
  have hQ : decide (L1 = 9218868437227405312 ∨ L2 = 9218868437227405312 ∨ H1 < L2) = false ∨ (decide (L1 = 9218868437227405312 ∨ L2 = 9218868437227405312 ∨ H1 < L2) = true ∧ decide (H1 ≤ L2) = true ∧ decide (¬ max L1 L2 ≤ min H1 H2) = true) := by
    by_cases c1 : L1 = 9218868437227405312 ∨ L2 = 9218868437227405312 ∨ H1 < L2
    · exact Or.inr ⟨decide_eq_true c1, decide_eq_true (by omega), decide_eq_true (by omega)⟩
    · exact Or.inl (decide_eq_false c1)
  have hSL : decide ((L1 = 9218868437227405312 ∨ H1 < H2 ∨ H2 = 9218868437227405312) ∧ (L2 = 9218868437227405312 ∨ L1 < L2 ∨ L1 = -9218868437227405312)) = false ∨ (decide ((L1 = 9218868437227405312 ∨ H1 < H2 ∨ H2 = 9218868437227405312) ∧ (L2 = 9218868437227405312 ∨ L1 < L2 ∨ L1 = -9218868437227405312)) = true ∧ decide (L1 ≤ L2 ∧ H1 ≤ H2) = true) := by
    by_cases c1 : (L1 = 9218868437227405312 ∨ H1 < H2 ∨ H2 = 9218868437227405312) ∧ (L2 = 9218868437227405312 ∨ L1 < L2 ∨ L1 = -9218868437227405312)
    · exact Or.inr ⟨decide_eq_true c1, decide_eq_true (by omega)⟩
    · exact Or.inl (decide_eq_false c1)
  have hIU : decide ((L1 = 9218868437227405312 ∨ L2 < L1 ∨ L2 = -9218868437227405312) ∧ (L1 = 9218868437227405312 ∨ H1 < H2 ∨ H2 = 9218868437227405312)) = false ∨ (decide ((L1 = 9218868437227405312 ∨ L2 < L1 ∨ L2 = -9218868437227405312) ∧ (L1 = 9218868437227405312 ∨ H1 < H2 ∨ H2 = 9218868437227405312)) = true ∧ decide (L2 ≤ L1 ∧ H1 ≤ H2) = true) := by
    by_cases c1 : (L1 = 9218868437227405312 ∨ L2 < L1 ∨ L2 = -9218868437227405312) ∧ (L1 = 9218868437227405312 ∨ H1 < H2 ∨ H2 = 9218868437227405312)
    · exact Or.inr ⟨decide_eq_true c1, decide_eq_true (by omega)⟩
    · exact Or.inl (decide_eq_false c1)
  have hPL : decide (L1 = 9218868437227405312) = true ∨ (decide (L1 = 9218868437227405312) = false ∧ decide (L2 = 9218868437227405312) = true) ∨ (decide (L1 = 9218868437227405312) = false ∧ decide (L2 = 9218868437227405312) = false ∧ decide (H1 ≤ L2) = false) ∨ (decide (L1 = 9218868437227405312) = false ∧ decide (L2 = 9218868437227405312) = false ∧ decide (H1 ≤ L2) = true ∧ decide (L1 ≤ L2 ∧ H1 ≤ H2) = true) := by
    by_cases c1 : L1 = 9218868437227405312
    · exact Or.inl (decide_eq_true c1)
    by_cases c2 : L2 = 9218868437227405312
    · exact Or.inr (Or.inl ⟨decide_eq_false c1, decide_eq_true c2⟩)
    by_cases c3 : H1 ≤ L2
    · exact Or.inr (Or.inr (Or.inr ⟨decide_eq_false c1, decide_eq_false c2, decide_eq_true c3, decide_eq_true (by omega)⟩))
    · exact Or.inr (Or.inr (Or.inl ⟨decide_eq_false c1, decide_eq_false c2, decide_eq_false c3⟩))
  have hLL : (decide (L1 ≤ L2 ∧ H1 ≤ H2) && decide (L2 ≤ L1 ∧ H2 ≤ H1)) = decide (L1 = L2 ∧ H1 = H2) := by
    rw [← Bool.decide_and]
    congr 1; apply propext
    omega
  refine chainsA_ _ _ _ _ _ _ a b c d e9 f9 (fun f x1 x2 y1 y2 V => ∀ w : World, Calls Try.prog f #[.agg #[.float .f64 x1, .float .f64 x2], .agg #[.float .f64 y1, .float .f64 y2]] w fun e w' => e = .returned (.bool V) ∧ Kp w w') (fun x1 x2 V => ∀ w : World, Calls Try.prog 16 #[.agg #[.float .f64 x1, .float .f64 x2]] w fun e w' => e = .returned (.bool V) ∧ Kp w w') (fun _ _ _ _ _ _ h => h) (fun _ _ _ h => h) _ _ _ _ _ _ _ _ _ _ _ _ _ _ _ _ _ (less9_ _ _ _ _ _ _ _ _ r1 r2) (less9_ _ _ _ _ _ _ _ _ r2 r3) (less9_ _ _ _ _ _ _ _ _ r1 r3) (less9_ _ _ _ _ _ _ _ _ r2 r1) (strictless9_ _ _ _ _ _ _ _ _ r1 r2) (strictless9_ _ _ _ _ _ _ _ _ r2 r3) (strictless9_ _ _ _ _ _ _ _ _ r1 r3) (precedes9_ _ _ _ _ _ _ _ _ r1 r2) (precedes9_ _ _ _ _ _ _ _ _ r2 r3) (precedes9_ _ _ _ _ _ _ _ _ r1 r3) (sprec9_ _ _ _ _ _ _ _ _ r1 r2) (disj9_ _ _ _ _ _ _ _ _ r1 r2) (interior9_ _ _ _ _ _ _ _ _ r1 r2) (subset9_ _ _ _ _ _ _ _ _ r1 r2) (equal9_ _ _ _ _ _ _ _ _ r1 r2) (isemp9_ _ _ _ _ r1) (isemp9_ _ _ _ _ r2) hL hS (hP _ rfl) hQ hSL hIU hPL hLL (in9_ a b) (in9_ c d) (in9_ e9 f9) w
end Go.Proofs.Ytponjofoenmbhaa
