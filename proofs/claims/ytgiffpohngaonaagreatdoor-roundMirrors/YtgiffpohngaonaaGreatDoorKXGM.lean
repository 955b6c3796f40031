import Derived.Test.YtgiffpohngaonaaGreatDoorProg
import Derived.Test.YtgiffpohngaonaaGreatDoorKXA0
import Derived.Test.YtgiffpohngaonaaGreatDoorKXM
import Derived.Test.YtgiffpohngaonaaGreatDoorKXY
import Derived.Test.YtgiffpohngaonaaGreatDoorKXQF
import Derived.Test.YtgiffpohngaonaaGreatDoorKQA
import Derived.Test.YtgiffpohngaonaaGreatDoorKQP
import Derived.Test.YtgiffpohngaonaaGreatDoorKXQU
import Derived.Test.YtgiffpohngaonaaGreatDoorKQB
import Derived.Test.YtgiffpohngaonaaGreatDoorKQBT
import Derived.Test.YtgiffpohngaonaaGreatDoorKXQJ
import Derived.Test.YtgiffpohngaonaaGreatDoorKXLB
import Derived.Test.YtgiffpohngaonaaGreatDoorKXMR
import Derived.Test.YtgiffpohngaonaaGreatDoorKXG1
import Derived.Test.YtgiffpohngaonaaGreatDoorKXH2Q
import Derived.Test.YtgiffpohngaonaaGreatDoorKXNM
import Derived.Test.YtgiffpohngaonaaGreatDoorKXMQ
import Derived.Test.YtgiffpohngaonaaGreatDoorKXMS
import Derived.Test.YtgiffpohngaonaaGreatDoorKXO3
import Derived.Test.YtgiffpohngaonaaGreatDoorKXO
import Derived.Test.YtgiffpohngaonaaGreatDoorKXP
import Derived.Test.YtgiffpohngaonaaGreatDoorKXS2
import Derived.Test.YtgiffpohngaonaaGreatDoorKXS4
import Derived.Test.YtgiffpohngaonaaGreatDoorKXS8
import Derived.Test.YtgiffpohngaonaaGreatDoorKXU1
import Derived.Test.YtgiffpohngaonaaGreatDoorKXU3
import Derived.Test.YtgiffpohngaonaaGreatDoorKU5
import Derived.Test.YtgiffpohngaonaaGreatDoorKXYC
import Derived.Test.YtgiffpohngaonaaGreatDoorKXZA
import Derived.Test.YtgiffpohngaonaaGreatDoorKXZD
import Derived.Test.YtgiffpohngaonaaGreatDoorKXTZ
import Derived.Test.YtgiffpohngaonaaGreatDoorKXGR
import Derived.WalkKit
import Derived.ProofKit
import Derived.RowKit3
import Derived.WalkSpells
import Derived.StillTactics
import Derived.Deep.QuietTactic
import Derived.BigQuiet
import Derived.Below
import Derived.Deep.OwnRows
import Derived.OwnWalk
import Derived.Laws.BitsAllLaws
import Derived.Laws.Slices
import Derived.Laws.Bits64b
import Derived.Laws.FloatArith
namespace Go.Proofs.YtgiffpohngaonaaGreatDoor
open Go.RowKit

set_option linter.unusedVariables false
theorem gpl_neg (p T G I : Nat) (d : Int) (c1 c2 : Nat) (V : Int) : gpl p T G I (-d) c1 c2 (-V) = -(gpl p T G I d c1 c2 V) := by
  unfold gpl
  have e1 : dirN true (-d) = dirN false d := by unfold dirN; simp
  have e2 : dirN false (-d) = dirN true d := by unfold dirN; simp
  rw [e1, e2, Int.natAbs_neg]
  by_cases z : V = 0
  · rw [if_pos (show -V = 0 by omega), if_pos z]; rfl
  · rw [if_neg (show ¬ -V = 0 by omega), if_neg z]
    by_cases n : V < 0
    · rw [if_pos n, if_neg (show ¬ -V < 0 by omega)]; omega
    · rw [if_neg n, if_pos (show -V < 0 by omega)]
theorem g53_neg (d : Int) (c1 c2 : Nat) (V : Int) : g53 (-d) c1 c2 (-V) = -(g53 d c1 c2 V) := gpl_neg _ _ _ _ d c1 c2 V
theorem iv_nt (n : Bool) (m : Nat) : Iv (!n) m = -Iv n m := by rw [iv_not]
/-- what is answered: no number, or a place -/
def zc (o : Option Int) : Nat := match o with | none => 9221120237041090561 | some z => pz z
def sgI (n : Bool) : Int := if n then -9218868437227405312 else 9218868437227405312
theorem sgI_not (n : Bool) : sgI (!n) = -sgI n := by cases n <;> rfl
def oA (d : Int) (n : Bool) (m : Nat) (n' : Bool) (m' : Nat) : Option Int := if 9218868437227405312 < m ∨ 9218868437227405312 < m' ∨ (m = 9218868437227405312 ∧ m' = 9218868437227405312 ∧ n ≠ n') then none else if m = 9218868437227405312 then some (sgI n) else if m' = 9218868437227405312 then some (sgI n') else some (g53 d 1 1 (Iv n m + Iv n' m'))
def oM (K : Nat) (d : Int) (n : Bool) (m : Nat) (n' : Bool) (m' : Nat) : Option Int := if 9218868437227405312 < m ∨ 9218868437227405312 < m' ∨ (m = 9218868437227405312 ∧ m' = 0) ∨ (m = 0 ∧ m' = 9218868437227405312) then none else if m = 9218868437227405312 ∨ m' = 9218868437227405312 then some (sgI (n ^^ n')) else some (g53 d 1 (2 ^ K) (Iv n m * Iv n' m'))
def oD (K : Nat) (d : Int) (n : Bool) (m : Nat) (n' : Bool) (m' : Nat) : Option Int := if m' = 0 then (if m = 0 ∨ 9218868437227405312 < m then none else some (sgI n)) else if 9218868437227405312 < m ∨ 9218868437227405312 < m' ∨ (m = 9218868437227405312 ∧ m' = 9218868437227405312) then none else if m = 9218868437227405312 then some (sgI (n ^^ n')) else if m' = 9218868437227405312 then some 0 else some (g53 d (2 ^ K) (Fq.vV Ieee.double m') (Iv (n ^^ n') m))
def oF (K : Nat) (d : Int) (n : Bool) (m : Nat) (n' : Bool) (m' : Nat) (nz : Bool) (mz : Nat) : Option Int := if m < 9218868437227405312 ∧ m' < 9218868437227405312 then (if mz < 9218868437227405312 then some (g53 d 1 (2 ^ K) (Iv n m * Iv n' m' + Iv nz mz * ((2 ^ K : Nat) : Int))) else if 9218868437227405312 < mz then none else some (sgI nz)) else if 9218868437227405312 < m ∨ 9218868437227405312 < m' ∨ (m = 9218868437227405312 ∧ m' = 0) ∨ (m = 0 ∧ m' = 9218868437227405312) then none else if 9218868437227405312 < mz ∨ (mz = 9218868437227405312 ∧ (n ^^ n') ≠ nz) then none else some (sgI (n ^^ n'))
def ng (o : Option Int) : Option Int := o.map (fun z => -z)
theorem ng_ng (o : Option Int) : ng (ng o) = o := by cases o <;> simp [ng]
theorem oA_mir (d : Int) (n : Bool) (m : Nat) (n' : Bool) (m' : Nat) : oA (-d) (!n) m (!n') m' = ng (oA d n m n' m') := by
  unfold oA
  have e : ((!n) ≠ (!n')) ↔ n ≠ n' := by cases n <;> cases n' <;> decide
  simp only [e]
  rw [iv_nt, iv_nt, sgI_not, sgI_not, show -Iv n m + -Iv n' m' = -(Iv n m + Iv n' m') from by omega, g53_neg]
  by_cases c1 : 9218868437227405312 < m ∨ 9218868437227405312 < m' ∨ (m = 9218868437227405312 ∧ m' = 9218868437227405312 ∧ n ≠ n')
  · rw [if_pos c1, if_pos c1]; rfl
  rw [if_neg c1, if_neg c1]
  by_cases c2 : m = 9218868437227405312
  · rw [if_pos c2, if_pos c2]; rfl
  rw [if_neg c2, if_neg c2]
  by_cases c3 : m' = 9218868437227405312
  · rw [if_pos c3, if_pos c3]; rfl
  rw [if_neg c3, if_neg c3]; rfl
theorem xor_not9 (n n' : Bool) : ((!n) ^^ n') = !(n ^^ n') := by cases n <;> cases n' <;> rfl
theorem oM_mir (K : Nat) (d : Int) (n : Bool) (m : Nat) (n' : Bool) (m' : Nat) : oM K (-d) (!n) m n' m' = ng (oM K d n m n' m') := by
  unfold oM
  rw [xor_not9, sgI_not, iv_nt, Int.neg_mul, g53_neg]
  by_cases c1 : 9218868437227405312 < m ∨ 9218868437227405312 < m' ∨ (m = 9218868437227405312 ∧ m' = 0) ∨ (m = 0 ∧ m' = 9218868437227405312)
  · rw [if_pos c1, if_pos c1]; rfl
  rw [if_neg c1, if_neg c1]
  by_cases c2 : m = 9218868437227405312 ∨ m' = 9218868437227405312
  · rw [if_pos c2, if_pos c2]; rfl
  rw [if_neg c2, if_neg c2]; rfl
theorem oD_mir (K : Nat) (d : Int) (n : Bool) (m : Nat) (n' : Bool) (m' : Nat) : oD K (-d) (!n) m n' m' = ng (oD K d n m n' m') := by
  unfold oD
  rw [xor_not9, sgI_not, sgI_not, iv_nt, g53_neg]
  by_cases c0 : m' = 0
  · rw [if_pos c0, if_pos c0]
    by_cases c1 : m = 0 ∨ 9218868437227405312 < m
    · rw [if_pos c1, if_pos c1]; rfl
    rw [if_neg c1, if_neg c1]; rfl
  rw [if_neg c0, if_neg c0]
  by_cases c1 : 9218868437227405312 < m ∨ 9218868437227405312 < m' ∨ (m = 9218868437227405312 ∧ m' = 9218868437227405312)
  · rw [if_pos c1, if_pos c1]; rfl
  rw [if_neg c1, if_neg c1]
  by_cases c2 : m = 9218868437227405312
  · rw [if_pos c2, if_pos c2]; rfl
  rw [if_neg c2, if_neg c2]
  by_cases c3 : m' = 9218868437227405312
  · rw [if_pos c3, if_pos c3]; rfl
  rw [if_neg c3, if_neg c3]; rfl
theorem oF_mir (K : Nat) (d : Int) (n : Bool) (m : Nat) (n' : Bool) (m' : Nat) (nz : Bool) (mz : Nat) : oF K (-d) (!n) m n' m' (!nz) mz = ng (oF K d n m n' m' nz mz) := by
  unfold oF
  have e : ((!(n ^^ n')) ≠ (!nz)) ↔ (n ^^ n') ≠ nz := by cases n <;> cases n' <;> cases nz <;> decide
  rw [xor_not9, sgI_not, sgI_not, iv_nt, iv_nt, Int.neg_mul, Int.neg_mul, show -(Iv n m * Iv n' m') + -(Iv nz mz * ((2 ^ K : Nat) : Int)) = -(Iv n m * Iv n' m' + Iv nz mz * ((2 ^ K : Nat) : Int)) from by omega, g53_neg]
  simp only [e]
  by_cases c0 : m < 9218868437227405312 ∧ m' < 9218868437227405312
  · rw [if_pos c0, if_pos c0]
    by_cases c1 : mz < 9218868437227405312
    · rw [if_pos c1, if_pos c1]; rfl
    rw [if_neg c1, if_neg c1]
    by_cases c2 : 9218868437227405312 < mz
    · rw [if_pos c2, if_pos c2]; rfl
    rw [if_neg c2, if_neg c2]; rfl
  rw [if_neg c0, if_neg c0]
  by_cases c1 : 9218868437227405312 < m ∨ 9218868437227405312 < m' ∨ (m = 9218868437227405312 ∧ m' = 0) ∨ (m = 0 ∧ m' = 9218868437227405312)
  · rw [if_pos c1, if_pos c1]; rfl
  rw [if_neg c1, if_neg c1]
  by_cases c2 : 9218868437227405312 < mz ∨ (mz = 9218868437227405312 ∧ (n ^^ n') ≠ nz)
  · rw [if_pos c2, if_pos c2]; rfl
  rw [if_neg c2, if_neg c2]; rfl
theorem oA_sym (d : Int) (n : Bool) (m : Nat) (n' : Bool) (m' : Nat) : oA d n m n' m' = oA d n' m' n m := by
  unfold oA
  rw [Int.add_comm (Iv n' m') (Iv n m)]
  by_cases c1 : 9218868437227405312 < m ∨ 9218868437227405312 < m' ∨ (m = 9218868437227405312 ∧ m' = 9218868437227405312 ∧ n ≠ n')
  · rw [if_pos c1, if_pos (by rcases c1 with h | h | ⟨h1, h2, h3⟩; exact Or.inr (Or.inl h); exact Or.inl h; exact Or.inr (Or.inr ⟨h2, h1, fun e => h3 e.symm⟩))]
  · have c1' : ¬ (9218868437227405312 < m' ∨ 9218868437227405312 < m ∨ (m' = 9218868437227405312 ∧ m = 9218868437227405312 ∧ n' ≠ n)) := fun h => c1 (by rcases h with h | h | ⟨h1, h2, h3⟩; exact Or.inr (Or.inl h); exact Or.inl h; exact Or.inr (Or.inr ⟨h2, h1, fun e => h3 e.symm⟩))
    rw [if_neg c1, if_neg c1']
    by_cases c2 : m = 9218868437227405312
    · by_cases c3 : m' = 9218868437227405312
      · have : n = n' := by
          rcases Decidable.em (n = n') with e | e
          · exact e
          · exact absurd (Or.inr (Or.inr ⟨c2, c3, e⟩)) c1
        rw [if_pos c2, if_pos c3, this]
      · rw [if_pos c2, if_neg c3, if_pos c2]
    · by_cases c3 : m' = 9218868437227405312
      · rw [if_neg c2, if_pos c3, if_pos c3]
      · rw [if_neg c2, if_neg c3, if_neg c3, if_neg c2]
theorem bad_sym (m m' : Nat) : (9218868437227405312 < m ∨ 9218868437227405312 < m' ∨ (m = 9218868437227405312 ∧ m' = 0) ∨ (m = 0 ∧ m' = 9218868437227405312)) ↔ (9218868437227405312 < m' ∨ 9218868437227405312 < m ∨ (m' = 9218868437227405312 ∧ m = 0) ∨ (m' = 0 ∧ m = 9218868437227405312)) := by omega
theorem oM_sym (K : Nat) (d : Int) (n : Bool) (m : Nat) (n' : Bool) (m' : Nat) : oM K d n m n' m' = oM K d n' m' n m := by
  unfold oM
  rw [Int.mul_comm (Iv n' m') (Iv n m), show (n' ^^ n) = (n ^^ n') from by cases n <;> cases n' <;> rfl]
  simp only [bad_sym m m', Or.comm (a := m = 9218868437227405312) (b := m' = 9218868437227405312)]
theorem oF_sym (K : Nat) (d : Int) (n : Bool) (m : Nat) (n' : Bool) (m' : Nat) (nz : Bool) (mz : Nat) : oF K d n m n' m' nz mz = oF K d n' m' n m nz mz := by
  unfold oF
  rw [Int.mul_comm (Iv n' m') (Iv n m), show (n' ^^ n) = (n ^^ n') from by cases n <;> cases n' <;> rfl]
  simp only [bad_sym m m', And.comm (a := m < 9218868437227405312) (b := m' < 9218868437227405312)]
theorem sgI_le (n : Bool) : -9218868437227405312 ≤ sgI n ∧ sgI n ≤ 9218868437227405312 := by cases n <;> decide
def okO (o : Option Int) : Prop := ∀ z, o = some z → -9218868437227405312 ≤ z ∧ z ≤ 9218868437227405312
theorem ok_some (z : Int) (h : -9218868437227405312 ≤ z ∧ z ≤ 9218868437227405312) : okO (some z) := fun y e => by cases e; exact h
theorem ok_none : okO none := fun y e => by cases e
theorem okA (d : Int) (n : Bool) (m : Nat) (n' : Bool) (m' : Nat) : okO (oA d n m n' m') := by
  unfold oA
  split
  · exact ok_none
  · split
    · exact ok_some _ (sgI_le _)
    · split
      · exact ok_some _ (sgI_le _)
      · exact ok_some _ (g53_le _ _ _ _)
theorem okM (K : Nat) (d : Int) (n : Bool) (m : Nat) (n' : Bool) (m' : Nat) : okO (oM K d n m n' m') := by
  unfold oM
  split
  · exact ok_none
  · split
    · exact ok_some _ (sgI_le _)
    · exact ok_some _ (g53_le _ _ _ _)
theorem okD (K : Nat) (d : Int) (n : Bool) (m : Nat) (n' : Bool) (m' : Nat) : okO (oD K d n m n' m') := by
  unfold oD
  split
  · split
    · exact ok_none
    · exact ok_some _ (sgI_le _)
  · split
    · exact ok_none
    · split
      · exact ok_some _ (sgI_le _)
      · split
        · exact ok_some _ (by decide)
        · exact ok_some _ (g53_le _ _ _ _)
theorem okF (K : Nat) (d : Int) (n : Bool) (m : Nat) (n' : Bool) (m' : Nat) (nz : Bool) (mz : Nat) : okO (oF K d n m n' m' nz mz) := by
  unfold oF
  split
  · split
    · exact ok_some _ (g53_le _ _ _ _)
    · split
      · exact ok_none
      · exact ok_some _ (sgI_le _)
  · split
    · exact ok_none
    · split
      · exact ok_none
      · exact ok_some _ (sgI_le _)
theorem pz_neg (z : Int) (hz : z ≠ 0) (h : -9218868437227405312 ≤ z ∧ z ≤ 9218868437227405312) : pz z ^^^ 9223372036854775808 = pz (-z) := by
  unfold pz
  rw [flip8 _ _ (by omega), Int.natAbs_neg]
  congr 1
  by_cases c : z < 0
  · rw [decide_eq_true c, decide_eq_false (by omega)]; rfl
  · rw [decide_eq_false c, decide_eq_true (by omega)]; rfl
theorem pz_zero : pz 0 = 0 := rfl
theorem pz_ne (z : Int) (hz : z ≠ 0) (h : -9218868437227405312 ≤ z ∧ z ≤ 9218868437227405312) : pz z ≠ 0 ∧ pz z ≠ 9221120237041090561 := by
  unfold pz Fq.wD
  by_cases c : z < 0
  · rw [decide_eq_true c, if_pos rfl]; omega
  · rw [decide_eq_false c, if_neg (by decide)]; omega
theorem wD_sg (n : Bool) : Fq.wD n 9218868437227405312 = pz (sgI n) := by cases n <;> decide
set_option linter.unusedVariables false
theorem ordfin (n : Bool) (R : Nat) (h : R ≤ 9218868437227405312) : (FloatKind.f64.format.order (Fq.wD n R) (Fq.wD n R) != some .eq) = false := by
  rw [Fq.ordD n n R R h h, Fq.cmp_eq rfl]; rfl
theorem ordnn (r : Nat) (h1 : 9218868437227405312 < r % 9223372036854775808) (h2 : r < 18446744073709551616) : (FloatKind.f64.format.order r r != some .eq) = true := by
  have e : r = Fq.wD (decide (9223372036854775808 ≤ r)) (r % 9223372036854775808) := by
    unfold Fq.wD
    by_cases c : 9223372036854775808 ≤ r
    · rw [decide_eq_true c, if_pos rfl]; omega
    · rw [decide_eq_false c, if_neg (by simp)]; omega
  have h3 := Fq.ordD_nanl (decide (9223372036854775808 ≤ r)) (r % 9223372036854775808) r h1 (Nat.mod_lt _ (by decide))
  rw [← e] at h3
  rw [h3]; rfl
theorem bitsP_ (z : Int) (h : -9218868437227405312 ≤ z ∧ z ≤ 9218868437227405312) (w1 : World) : Calls Tryz.prog 9 #[.float .f64 (pz z)] w1 fun e w' => e = .returned (.int .u64 ((zc (some z) : Nat) : Int)) ∧ w' = w1 := bitsN_ _ (self_pz z h) w1
theorem bitsI_ (n : Bool) (w1 : World) : Calls Tryz.prog 9 #[.float .f64 (Fq.wD n 9218868437227405312)] w1 fun e w' => e = .returned (.int .u64 ((zc (some (sgI n)) : Nat) : Int)) ∧ w' = w1 := by
  rw [wD_sg]
  exact bitsP_ _ (sgI_le n) w1
theorem bitsQ_ (R : Nat) (h1 : 9218868437227405312 < R % 9223372036854775808) (h2 : R < 18446744073709551616) (w1 : World) : Calls Tryz.prog 9 #[.float .f64 R] w1 fun e w' => e = .returned (.int .u64 ((zc none : Nat) : Int)) ∧ w' = w1 := bitsNaN_ _ (ordnn R h1 h2) w1
theorem addO_ (d : Int) (n n' : Bool) (m m' : Nat) (hm : m < 9223372036854775808) (hm' : m' < 9223372036854775808) (hd1 : -9223372036854775808 ≤ d) (hd2 : d < 9223372036854775808) (w : World) (hT : Tab w) (hQ : Fq.Tab w) : Calls Tryz.prog 10 #[.int .i64 d, .float .f64 (Fq.wD n m), .float .f64 (Fq.wD n' m')] w fun e w' => ∃ R, e = .returned (.float .f64 R) ∧ (∀ w1 : World, Calls Tryz.prog 9 #[.float .f64 R] w1 fun e w' => e = .returned (.int .u64 ((zc (oA d n m n' m') : Nat) : Int)) ∧ w' = w1) ∧ Kp w w' := by
  by_cases hi : m < 9218868437227405312 ∧ m' < 9218868437227405312
  · have e : oA d n m n' m' = some (g53 d 1 1 (Iv n m + Iv n' m')) := by
      unfold oA
      rw [if_neg (by omega), if_neg (by omega), if_neg (by omega)]
    rw [e]
    exact (addG_ d n n' m m' hi.1 hi.2 hd1 hd2 w hT hQ).mono fun e w' h => ⟨_, h.1, bitsP_ _ (g53_le _ _ _ _), h.2⟩
  · by_cases hb : badS n m n' m'
    · have e : oA d n m n' m' = none := by
        have hb2 := hb
        unfold badS at hb2
        unfold oA
        rw [if_pos hb2]
      rw [e]
      exact (paddB_ d n n' m m' hm hm' hi hb w).mono fun e w' ⟨R, h1, h2, h3⟩ => ⟨R, h1, bitsQ_ R h2.1 h2.2, h3⟩
    · have e : oA d n m n' m' = some (sgI (if m = 9218868437227405312 then n else n')) := by
        unfold oA
        unfold badS at hb
        rw [if_neg hb]
        by_cases c : m = 9218868437227405312
        · rw [if_pos c, if_pos c]
        · rw [if_neg c, if_pos (by omega), if_neg c]
      rw [e]
      exact (paddI_ d n n' m m' hm hm' hi hb w).mono fun e w' h => ⟨_, h.1, bitsI_ _, h.2⟩
set_option maxRecDepth 20000 in
set_option maxHeartbeats 400000 in
theorem psubO_ (d : Int) (X Y Y' : Nat) (Q : Nat → Prop) (hn : ∀ w : World, (Op.unary .neg (.float .f64 Y)).run Tryz.prog w = .ok (.float .f64 Y') w) (w : World) (ha : Calls Tryz.prog 10 #[.int .i64 d, .float .f64 X, .float .f64 Y'] w fun e w' => ∃ R, e = .returned (.float .f64 R) ∧ Q R ∧ Kp w w') : Calls Tryz.prog 11 #[.int .i64 d, .float .f64 X, .float .f64 Y] w fun e w' => ∃ R, e = .returned (.float .f64 R) ∧ Q R ∧ Kp w w' := by
  go_enter Tryz.func11, Tryz.ntmps11
  go_wp2_with (first | (go_at_call 10; refine ha.mono ?_; rintro e w1 ⟨R, rfl, hq, g1⟩))
  exact bodyPost_ret (v := .float .f64 R) (by simp [results, Tryz.results11, go_sem]) rfl ⟨R, rfl, hq, g1⟩
theorem subO_ (d : Int) (n n' : Bool) (m m' : Nat) (hm : m < 9223372036854775808) (hm' : m' < 9223372036854775808) (hd1 : -9223372036854775808 ≤ d) (hd2 : d < 9223372036854775808) (w : World) (hT : Tab w) (hQ : Fq.Tab w) : Calls Tryz.prog 11 #[.int .i64 d, .float .f64 (Fq.wD n m), .float .f64 (Fq.wD n' m')] w fun e w' => ∃ R, e = .returned (.float .f64 R) ∧ (∀ w1 : World, Calls Tryz.prog 9 #[.float .f64 R] w1 fun e w' => e = .returned (.int .u64 ((zc (oA d n m (!n') m') : Nat) : Int)) ∧ w' = w1) ∧ Kp w w' :=
  psubO_ d _ _ _ _ (negW8 n' m' hm') w (addO_ d n (!n') m m' hm hm' hd1 hd2 w hT hQ)
theorem plain0 (s : Bool) (w : World) : Calls Tryz.prog 26 #[.float .f64 (Fq.wD s 0)] w fun e w' => e = .returned (.float .f64 0) ∧ w' = w := by
  have hp := Fq.plain_d s 0 (by decide) w
  rw [show Fq.wD (s && !((0 : Nat) == 0)) 0 = 0 from by simp; rfl] at hp
  exact hp
theorem plainI (s : Bool) (w : World) : Calls Tryz.prog 26 #[.float .f64 (Fq.wD s 9218868437227405312)] w fun e w' => e = .returned (.float .f64 (Fq.wD s 9218868437227405312)) ∧ w' = w := by
  have hp := Fq.plain_d s 9218868437227405312 (by decide) w
  rw [show (s && !((9218868437227405312 : Nat) == 0)) = s from by simp] at hp
  exact hp
theorem plainN (R : Nat) (p1 : 9218868437227405312 < R % 9223372036854775808) (p2 : R < 18446744073709551616) (w : World) : Calls Tryz.prog 26 #[.float .f64 R] w fun e w' => e = .returned (.float .f64 R) ∧ w' = w := by
  obtain ⟨a, b, hb9, hR⟩ := word_of R p2
  have hp := Fq.plain_d a b (by omega) w
  rw [show (a && !(b == 0)) = a from by simp; omega, ← hR] at hp
  exact hp
theorem mulO_ (K : Nat) (hK : K = 1074) (d : Int) (n n' : Bool) (m m' : Nat) (hm : m < 9223372036854775808) (hm' : m' < 9223372036854775808) (hd1 : -9223372036854775808 ≤ d) (hd2 : d < 9223372036854775808) (w : World) (hT : Tab w) (hQ : Fq.Tab w) : Calls Tryz.prog 12 #[.int .i64 d, .float .f64 (Fq.wD n m), .float .f64 (Fq.wD n' m')] w fun e w' => ∃ R, e = .returned (.float .f64 R) ∧ (∀ w1 : World, Calls Tryz.prog 9 #[.float .f64 R] w1 fun e w' => e = .returned (.int .u64 ((zc (oM K d n m n' m') : Nat) : Int)) ∧ w' = w1) ∧ Kp w w' := by
  by_cases hi : m < 9218868437227405312 ∧ m' < 9218868437227405312
  · have e : oM K d n m n' m' = some (g53 d 1 (2 ^ K) (Iv n m * Iv n' m')) := by
      unfold oM
      rw [if_neg (by omega), if_neg (by omega)]
    rw [e]
    exact (mulG_ K hK d n n' m m' hi.1 hi.2 hd1 hd2 w hT hQ).mono fun e w' h => ⟨_, h.1, bitsP_ _ (g53_le _ _ _ _), h.2⟩
  · by_cases hb : badP m m'
    · have e : oM K d n m n' m' = none := by
        have hb2 := hb
        unfold badP at hb2
        unfold oM
        rw [if_pos hb2]
      rw [e]
      obtain ⟨R, p1, p2, hrun⟩ := run_nan_mul _ _ (mul_bad n n' m m' hm hm' hb) w
      exact (pmulP_ d n n' m m' hm hm' (fun h => hi ⟨h.1, h.2.1⟩) w w.drew R R hrun (Kp.refl _).drew (plainN R p1 p2 w.drew)).mono fun e w' h => ⟨R, h.1, bitsQ_ R p1 p2, h.2⟩
    · have e : oM K d n m n' m' = some (sgI (n ^^ n')) := by
        unfold oM
        unfold badP at hb
        rw [if_neg hb, if_pos (by omega)]
      rw [e]
      exact (pmulP_ d n n' m m' hm hm' (fun h => hi ⟨h.1, h.2.1⟩) w w _ _ (run_float_arith w .mul 24 .f64 _ _ _ (mul_inf n n' m m' hb hi)) (Kp.refl _) (plainI _ w)).mono fun e w' h => ⟨_, h.1, bitsI_ _, h.2⟩
theorem divW_g2 (K : Nat) (hK : K = 1074) (d : Int) (s : Bool) (m B : Nat) : divW d s (Fq.vV Ieee.double m) B = pz (g53 d (2 ^ K) B (Iv s m)) := by
  have h := divW_g K hK d s m B
  rw [show (s ^^ false) = s from by cases s <;> rfl] at h
  exact h
theorem divO_ (K : Nat) (hK : K = 1074) (d : Int) (n n' : Bool) (m m' : Nat) (hm : m < 9223372036854775808) (hm' : m' < 9223372036854775808) (hd1 : -9223372036854775808 ≤ d) (hd2 : d < 9223372036854775808) (w : World) (hT : Tab w) (hQ : Fq.Tab w) : Calls Tryz.prog 13 #[.int .i64 d, .float .f64 (Fq.wD n m), .float .f64 (Fq.wD n' m')] w fun e w' => ∃ R, e = .returned (.float .f64 R) ∧ (∀ w1 : World, Calls Tryz.prog 9 #[.float .f64 R] w1 fun e w' => e = .returned (.int .u64 ((zc (oD K d n m n' m') : Nat) : Int)) ∧ w' = w1) ∧ Kp w w' := by
  by_cases z' : m' = 0
  · have h := pdivN_ d n n' m hm w
    rw [z']
    by_cases c : m = 0 ∨ 9218868437227405312 < m
    · have e : oD K d n m n' 0 = none := by unfold oD; rw [if_pos rfl, if_pos c]
      rw [e]
      rw [if_pos c] at h
      exact h.mono fun e w' h => ⟨_, h.1, bitsQ_ _ (by decide) (by decide), h.2⟩
    · have e : oD K d n m n' 0 = some (sgI n) := by unfold oD; rw [if_pos rfl, if_neg c]
      rw [e]
      rw [if_neg c] at h
      exact h.mono fun e w' h => ⟨_, h.1, bitsI_ _, h.2⟩
  · by_cases hb : badQ m m'
    · have e : oD K d n m n' m' = none := by have hb2 := hb; unfold badQ at hb2; unfold oD; rw [if_neg z', if_pos hb2]
      rw [e]
      obtain ⟨R, p1, p2, hrun⟩ := run_nan_quo _ _ (div_bad n n' m m' hm hm' hb) w
      exact (pdivP_ d n n' m m' hm hm' z' (fun h => by unfold badQ at hb; omega) w w.drew R R hrun (Kp.refl _).drew (plainN R p1 p2 w.drew)).mono fun e w' h => ⟨R, h.1, bitsQ_ R p1 p2, h.2⟩
    · unfold badQ at hb
      by_cases c1 : m = 9218868437227405312
      · have e : oD K d n m n' m' = some (sgI (n ^^ n')) := by unfold oD; rw [if_neg z', if_neg hb, if_pos c1]
        rw [e]
        exact (pdivP_ d n n' m m' hm hm' z' (fun h => by omega) w w _ _ (run_float_arith w .quo 24 .f64 _ _ _ (div_inf n n' m m' c1 (by omega))) (Kp.refl _) (plainI _ w)).mono fun e w' h => ⟨_, h.1, bitsI_ _, h.2⟩
      · by_cases c2 : m' = 9218868437227405312
        · have e : oD K d n m n' m' = some 0 := by unfold oD; rw [if_neg z', if_neg hb, if_neg c1, if_pos c2]
          rw [e]
          exact (pdivP_ d n n' m m' hm hm' z' (fun h => by omega) w w _ _ (run_float_arith w .quo 24 .f64 _ _ _ (div_zero n n' m m' (by omega) (Or.inl c2))) (Kp.refl _) (plain0 _ w)).mono fun e w' h => ⟨_, h.1, bitsP_ 0 (by decide), h.2⟩
        · have e : oD K d n m n' m' = some (g53 d (2 ^ K) (Fq.vV Ieee.double m') (Iv (n ^^ n') m)) := by unfold oD; rw [if_neg z', if_neg hb, if_neg c1, if_neg c2]
          rw [e]
          suffices h : Calls Tryz.prog 13 #[.int .i64 d, .float .f64 (Fq.wD n m), .float .f64 (Fq.wD n' m')] w fun e w' => e = .returned (.float .f64 (divW d (n ^^ n') (Fq.vV Ieee.double m) (Fq.vV Ieee.double m'))) ∧ Kp w w' by
            rw [divW_g2 K hK] at h
            exact h.mono fun e w' h => ⟨_, h.1, bitsP_ _ (g53_le _ _ _ _), h.2⟩
          by_cases z : m = 0
          · have h0 : divW d (n ^^ n') (Fq.vV Ieee.double m) (Fq.vV Ieee.double m') = 0 := by
              unfold divW
              exact if_pos ((vV_zero m).2 z)
            rw [h0]
            exact pdivP_ d n n' m m' hm hm' z' (fun h => by omega) w w _ _ (run_float_arith w .quo 24 .f64 _ _ _ (div_zero n n' m m' (by omega) (Or.inr ⟨z, by omega, z'⟩))) (Kp.refl _) (plain0 _ w)
          · by_cases ct : (2580562586483294208 ≤ m ∧ m ≤ 6633802251116740608) ∧ (2580562586483294208 ≤ m' ∧ m' ≤ 6633802251116740608)
            · exact pdivQ_ d n n' m m' ct.1 ct.2 w
            · exact pdivE_ d n n' m m' (by omega) (by omega) z z' ct w hQ hd1 hd2
theorem fmaO_ (K : Nat) (hK : K = 1074) (d : Int) (n n' nz : Bool) (m m' mz : Nat) (hm : m < 9223372036854775808) (hm' : m' < 9223372036854775808) (hmz : mz < 9223372036854775808) (hd1 : -9223372036854775808 ≤ d) (hd2 : d < 9223372036854775808) (w : World) (hT : Tab w) (hQ : Fq.Tab w) : Calls Tryz.prog 14 #[.int .i64 d, .float .f64 (Fq.wD n m), .float .f64 (Fq.wD n' m'), .float .f64 (Fq.wD nz mz)] w fun e w' => ∃ R, e = .returned (.float .f64 R) ∧ (∀ w1 : World, Calls Tryz.prog 9 #[.float .f64 R] w1 fun e w' => e = .returned (.int .u64 ((zc (oF K d n m n' m' nz mz) : Nat) : Int)) ∧ w' = w1) ∧ Kp w w' := by
  by_cases hi : m < 9218868437227405312 ∧ m' < 9218868437227405312
  · by_cases c3 : mz < 9218868437227405312
    · have e : oF K d n m n' m' nz mz = some (g53 d 1 (2 ^ K) (Iv n m * Iv n' m' + Iv nz mz * ((2 ^ K : Nat) : Int))) := by unfold oF; rw [if_pos hi, if_pos c3]
      rw [e]
      exact (fmaG_ K hK d n n' nz m m' mz hi.1 hi.2 c3 hd1 hd2 w hT hQ).mono fun e w' h => ⟨_, h.1, bitsP_ _ (g53_le _ _ _ _), h.2⟩
    · have hz := pfmaZ_ d n n' nz m m' mz hm hm' hmz hi.1 hi.2 c3 w
      by_cases c4 : 9218868437227405312 < mz
      · have e : oF K d n m n' m' nz mz = none := by unfold oF; rw [if_pos hi, if_neg c3, if_pos c4]
        rw [e]
        exact hz.mono fun e w' h => ⟨_, h.1, bitsQ_ _ (by unfold Fq.wD; cases nz <;> simp <;> omega) (by unfold Fq.wD; cases nz <;> simp <;> omega), h.2⟩
      · have e : oF K d n m n' m' nz mz = some (sgI nz) := by unfold oF; rw [if_pos hi, if_neg c3, if_neg c4]
        rw [e]
        rw [show mz = 9218868437227405312 from by omega] at hz ⊢
        exact hz.mono fun e w' h => ⟨_, h.1, bitsI_ _, h.2⟩
  · by_cases hb : badP m m'
    · have e : oF K d n m n' m' nz mz = none := by have hb2 := hb; unfold badP at hb2; unfold oF; rw [if_neg hi, if_pos hb2]
      rw [e]
      obtain ⟨RP, p1, p2, hrun⟩ := run_nan_mul _ _ (mul_bad n n' m m' hm hm' hb) w
      have hadd : FloatKind.f64.format.add RP (Fq.wD nz mz) = none := by
        obtain ⟨a, b, hb9, hR⟩ := word_of RP p2
        rw [hR]
        exact add_bad a nz b mz (by omega) hmz (Or.inl (by omega))
      obtain ⟨RR, p3, p4, hrun2⟩ := run_nan _ _ hadd w.drew
      exact (pfmaI_ d n n' nz m m' mz hm hm' hmz hi w w.drew w.drew.drew RP RR hrun hrun2 (Kp.refl _).drew.drew).mono fun e w' h => ⟨RR, h.1, bitsQ_ RR p3 p4, h.2⟩
    · have hmi := mul_inf n n' m m' hb hi
      by_cases hs : badS (n ^^ n') 9218868437227405312 nz mz
      · have e : oF K d n m n' m' nz mz = none := by
          unfold oF
          unfold badP at hb
          rw [if_neg hi, if_neg hb, if_pos (by unfold badS at hs; rcases hs with h | h | h; omega; exact Or.inl h; exact Or.inr ⟨h.2.1, h.2.2⟩)]
        rw [e]
        obtain ⟨RR, p3, p4, hrun2⟩ := run_nan _ _ (add_bad (n ^^ n') nz 9218868437227405312 mz (by decide) hmz hs) w
        exact (pfmaI_ d n n' nz m m' mz hm hm' hmz hi w w w.drew _ RR (run_float_arith w .mul 24 .f64 _ _ _ hmi) hrun2 (Kp.refl _).drew).mono fun e w' h => ⟨RR, h.1, bitsQ_ RR p3 p4, h.2⟩
      · have e : oF K d n m n' m' nz mz = some (sgI (n ^^ n')) := by
          unfold oF
          unfold badP at hb
          rw [if_neg hi, if_neg hb, if_neg (fun h => hs (by unfold badS; rcases h with h | h; exact Or.inr (Or.inl h); exact Or.inr (Or.inr ⟨rfl, h.1, h.2⟩)))]
        rw [e]
        have ha := add_inf (n ^^ n') nz 9218868437227405312 mz hs (by omega)
        rw [if_pos rfl] at ha
        exact (pfmaI_ d n n' nz m m' mz hm hm' hmz hi w w w _ _ (run_float_arith w .mul 24 .f64 _ _ _ hmi) (run_float_arith w .add 24 .f64 _ _ _ ha) (Kp.refl _)).mono fun e w' h => ⟨_, h.1, bitsI_ _, h.2⟩
set_option linter.unusedVariables false
set_option linter.unusedSimpArgs false
set_option maxRecDepth 20000 in
set_option maxHeartbeats 1000000 in
theorem asked0_ (d : Int) (x y z : Nat) (Z : Int) (w : World) (ho : Calls Tryz.prog 10 #[.int .i64 d, .float .f64 x, .float .f64 y] w fun e w' => ∃ R, e = .returned (.float .f64 R) ∧ (∀ w1 : World, Calls Tryz.prog 9 #[.float .f64 R] w1 fun e w' => e = .returned (.int .u64 Z) ∧ w' = w1) ∧ Kp w w') : Calls Tryz.prog 5 #[.int .i64 0, .int .i64 d, .float .f64 x, .float .f64 y, .float .f64 z] w fun e w' => e = .returned (.int .u64 Z) ∧ Kp w w' := by
  go_enter Tryz.func5, Tryz.ntmps5
  go_wp2_with (first | (go_at_call 10; refine ho.mono ?_; rintro e w1 ⟨R, rfl, hb, g1⟩) | (go_at_call 9; refine (hb _).mono ?_; rintro e w2 ⟨rfl, hw9⟩; obtain rfl := hw9.symm; clear hw9))
  exact bodyPost_ret (v := .int .u64 Z) (by simp [results, Tryz.results5, go_sem]) rfl ⟨rfl, g1⟩
set_option maxRecDepth 20000 in
set_option maxHeartbeats 1000000 in
theorem asked1_ (d : Int) (x y z : Nat) (Z : Int) (w : World) (ho : Calls Tryz.prog 11 #[.int .i64 d, .float .f64 x, .float .f64 y] w fun e w' => ∃ R, e = .returned (.float .f64 R) ∧ (∀ w1 : World, Calls Tryz.prog 9 #[.float .f64 R] w1 fun e w' => e = .returned (.int .u64 Z) ∧ w' = w1) ∧ Kp w w') : Calls Tryz.prog 5 #[.int .i64 1, .int .i64 d, .float .f64 x, .float .f64 y, .float .f64 z] w fun e w' => e = .returned (.int .u64 Z) ∧ Kp w w' := by
  go_enter Tryz.func5, Tryz.ntmps5
  go_wp2_with (first | (go_at_call 11; refine ho.mono ?_; rintro e w1 ⟨R, rfl, hb, g1⟩) | (go_at_call 9; refine (hb _).mono ?_; rintro e w2 ⟨rfl, hw9⟩; obtain rfl := hw9.symm; clear hw9))
  exact bodyPost_ret (v := .int .u64 Z) (by simp [results, Tryz.results5, go_sem]) rfl ⟨rfl, g1⟩
set_option maxRecDepth 20000 in
set_option maxHeartbeats 1000000 in
theorem asked2_ (d : Int) (x y z : Nat) (Z : Int) (w : World) (ho : Calls Tryz.prog 12 #[.int .i64 d, .float .f64 x, .float .f64 y] w fun e w' => ∃ R, e = .returned (.float .f64 R) ∧ (∀ w1 : World, Calls Tryz.prog 9 #[.float .f64 R] w1 fun e w' => e = .returned (.int .u64 Z) ∧ w' = w1) ∧ Kp w w') : Calls Tryz.prog 5 #[.int .i64 2, .int .i64 d, .float .f64 x, .float .f64 y, .float .f64 z] w fun e w' => e = .returned (.int .u64 Z) ∧ Kp w w' := by
  go_enter Tryz.func5, Tryz.ntmps5
  go_wp2_with (first | (go_at_call 12; refine ho.mono ?_; rintro e w1 ⟨R, rfl, hb, g1⟩) | (go_at_call 9; refine (hb _).mono ?_; rintro e w2 ⟨rfl, hw9⟩; obtain rfl := hw9.symm; clear hw9))
  exact bodyPost_ret (v := .int .u64 Z) (by simp [results, Tryz.results5, go_sem]) rfl ⟨rfl, g1⟩
set_option maxRecDepth 20000 in
set_option maxHeartbeats 1000000 in
theorem asked3_ (d : Int) (x y z : Nat) (Z : Int) (w : World) (ho : Calls Tryz.prog 13 #[.int .i64 d, .float .f64 x, .float .f64 y] w fun e w' => ∃ R, e = .returned (.float .f64 R) ∧ (∀ w1 : World, Calls Tryz.prog 9 #[.float .f64 R] w1 fun e w' => e = .returned (.int .u64 Z) ∧ w' = w1) ∧ Kp w w') : Calls Tryz.prog 5 #[.int .i64 3, .int .i64 d, .float .f64 x, .float .f64 y, .float .f64 z] w fun e w' => e = .returned (.int .u64 Z) ∧ Kp w w' := by
  go_enter Tryz.func5, Tryz.ntmps5
  go_wp2_with (first | (go_at_call 13; refine ho.mono ?_; rintro e w1 ⟨R, rfl, hb, g1⟩) | (go_at_call 9; refine (hb _).mono ?_; rintro e w2 ⟨rfl, hw9⟩; obtain rfl := hw9.symm; clear hw9))
  exact bodyPost_ret (v := .int .u64 Z) (by simp [results, Tryz.results5, go_sem]) rfl ⟨rfl, g1⟩
set_option maxRecDepth 20000 in
set_option maxHeartbeats 1000000 in
theorem asked4_ (d : Int) (x y z : Nat) (Z : Int) (w : World) (ho : Calls Tryz.prog 14 #[.int .i64 d, .float .f64 x, .float .f64 y, .float .f64 z] w fun e w' => ∃ R, e = .returned (.float .f64 R) ∧ (∀ w1 : World, Calls Tryz.prog 9 #[.float .f64 R] w1 fun e w' => e = .returned (.int .u64 Z) ∧ w' = w1) ∧ Kp w w') : Calls Tryz.prog 5 #[.int .i64 4, .int .i64 d, .float .f64 x, .float .f64 y, .float .f64 z] w fun e w' => e = .returned (.int .u64 Z) ∧ Kp w w' := by
  go_enter Tryz.func5, Tryz.ntmps5
  go_wp2_with (first | (go_at_call 14; refine ho.mono ?_; rintro e w1 ⟨R, rfl, hb, g1⟩) | (go_at_call 9; refine (hb _).mono ?_; rintro e w2 ⟨rfl, hw9⟩; obtain rfl := hw9.symm; clear hw9))
  exact bodyPost_ret (v := .int .u64 Z) (by simp [results, Tryz.results5, go_sem]) rfl ⟨rfl, g1⟩
set_option maxRecDepth 20000 in
set_option maxHeartbeats 400000 in
theorem mirA_ (X : Int) (t : (X == 0) = true ∨ ((X == 0) = false ∧ (X == 9221120237041090561) = true)) (w : World) : Calls Tryz.prog 6 #[.int .u64 X] w fun e w' => e = .returned (.int .u64 X) ∧ w' = w := by
  rcases t with t1 | ⟨t1, t2⟩
  all_goals (
    go_enter Tryz.func6, Tryz.ntmps6
    go_wp2
    exact bodyPost_ret (v := .int .u64 X) (by simp [results, Tryz.results6, go_sem]) rfl ⟨rfl, rfl⟩)
set_option maxRecDepth 20000 in
set_option maxHeartbeats 400000 in
theorem mirB_ (X Y : Int) (t1 : (X == 0) = false) (t2 : (X == 9221120237041090561) = false) (e : bits .xor .u64 X 9223372036854775808 = Y) (w : World) : Calls Tryz.prog 6 #[.int .u64 X] w fun e w' => e = .returned (.int .u64 Y) ∧ w' = w := by
  go_enter Tryz.func6, Tryz.ntmps6
  go_wp2
  exact bodyPost_ret (v := .int .u64 Y) (by simp [results, Tryz.results6, go_sem]) rfl ⟨rfl, rfl⟩
theorem mir_ (o : Option Int) (h : okO o) (w : World) : Calls Tryz.prog 6 #[.int .u64 ((zc o : Nat) : Int)] w fun e w' => e = .returned (.int .u64 ((zc (ng o) : Nat) : Int)) ∧ w' = w := by
  cases o with
  | none => exact mirA_ _ (Or.inr ⟨by decide, by decide⟩) w
  | some z =>
    have hz := h z rfl
    show Calls Tryz.prog 6 #[.int .u64 ((pz z : Nat) : Int)] w fun e w' => e = .returned (.int .u64 ((pz (-z) : Nat) : Int)) ∧ w' = w
    by_cases c : z = 0
    · rw [c]; exact mirA_ _ (Or.inl (by decide)) w
    · obtain ⟨n1, n2⟩ := pz_ne z c hz
      refine mirB_ _ _ (by simp; omega) (by simp; omega) ?_ w
      have h1 := u64_xor_nat (pz z) 9223372036854775808 (pz_lt z hz) (by decide)
      rw [pz_neg z c hz] at h1
      exact h1
set_option maxRecDepth 20000 in
set_option maxHeartbeats 4000000 in
theorem mirrorsA_ (X Y Z : Int) (f g h fn gn hn : Nat) (T S : Int → Int → Int) (U0 U1 U2 : Int → Int) (w : World) (PA : Int → Int → Nat → Nat → Nat → Int → Prop) (PF : Int → Nat → Prop) (PMi : Int → Int → Prop) (as9 : ∀ op d x y z Z, PA op d x y z Z → 0 ≤ op ∧ op < 5 → -1 ≤ d → d ≤ 1 → ∀ W : World, Kp w W → Calls Tryz.prog 5 #[.int .i64 op, .int .i64 d, .float .f64 x, .float .f64 y, .float .f64 z] W fun e w' => e = .returned (.int .u64 Z) ∧ Kp W w') (fl9 : ∀ X Y, PF X Y → ∀ W : World, Calls Tryz.prog 4 #[.int .u64 X] W fun e w' => e = .returned (.float .f64 Y) ∧ w' = W) (mi9 : ∀ X Y, PMi X Y → ∀ W : World, Calls Tryz.prog 6 #[.int .u64 X] W fun e w' => e = .returned (.int .u64 Y) ∧ w' = W) (li9 : ∀ W : World, Kp w W → Calls Tryz.prog 7 #[] W fun e w' => e = .returned (.bool true) ∧ Kp W w') (ng0 : ∀ w : World, (Op.unary .neg (.float .f64 f)).run Tryz.prog w = .ok (.float .f64 fn) w) (ng1 : ∀ w : World, (Op.unary .neg (.float .f64 g)).run Tryz.prog w = .ok (.float .f64 gn) w) (ng2 : ∀ w : World, (Op.unary .neg (.float .f64 h)).run Tryz.prog w = .ok (.float .f64 hn) w) (fT : ∀ op d, PA op d f g h (T op d)) (fS : ∀ op d, op < 2 → PA op d fn gn h (S op d)) (fR : ∀ op d, ¬ op < 2 → PA op d fn g hn (S op d)) (fM : ∀ op d d', 0 ≤ op ∧ op < 5 → d' = -d → PMi (S op d') (T op d)) (a1 : ∀ d, PA 0 d f g 0 (U0 d)) (a2 : ∀ d, PA 0 d g f 0 (U0 d)) (a3 : ∀ d, PA 2 d f g 0 (U2 d)) (a4 : ∀ d, PA 2 d g f 0 (U2 d)) (a5 : ∀ d, PA 4 d g f h (T 4 d)) (a6 : ∀ d, PA 1 d f g 0 (U1 d)) (a7 : ∀ d, PA 0 d f gn 0 (U1 d)) (p0 : PF X f) (p1 : PF Y g) (p2 : PF Z h) : Calls Tryz.prog 3 #[.agg #[.int .u64 X, .int .u64 Y, .int .u64 Z]] w fun e w' => e = .returned (.bool true) ∧ Kp w w' := by
  go_enter Tryz.func3, Tryz.ntmps3
  have kW : Kp w (w.alloc (.cells #[.int .u64 X, .int .u64 Y, .int .u64 Z] 23)) := (Kp.refl w).alloc _
  go_upto_region 5 with (first | (go_at_call 4; refine (fl9 _ _ (by with_reducible first | exact p0 | exact p1 | exact p2) _).mono ?_; rintro e wn ⟨rfl, hw9⟩; obtain rfl := hw9.symm; clear hw9))
  generalize w.alloc (.cells #[.int .u64 X, .int .u64 Y, .int .u64 Z] 23) = W0 at kW ⊢
  go_loopw [6] (fun s6 wr => (s6 = .int .i64 (-1) ∨ s6 = .int .i64 0 ∨ s6 = .int .i64 1 ∨ s6 = .int .i64 2) ∧ Kp w wr) (fun s6 _ => (2 - intOf s6).toNat)
  case atStart => exact ⟨Or.inl rfl, kW⟩
  case round =>
    obtain ⟨hk, kW⟩ := hrel
    rcases hk with hk | hk | hk | hk
    · subst hk
      go_upto_region 8 with fail
      go_loopw [7] (fun s7 wr => (s7 = .int .i64 0 ∨ s7 = .int .i64 1 ∨ s7 = .int .i64 2 ∨ s7 = .int .i64 3 ∨ s7 = .int .i64 4 ∨ s7 = .int .i64 5) ∧ Kp w wr) (fun s7 _ => (5 - intOf s7).toNat)
      case atStart => exact ⟨Or.inl rfl, kW⟩
      case round =>
        obtain ⟨hk2, kW⟩ := hrel
        rcases hk2 with hk2 | hk2 | hk2 | hk2 | hk2 | hk2
        · subst hk2
          have q1 := fT 0 (-1); have q2 := fS 0 1 (by decide); have q3 := fM 0 (-1) 1 (by decide) (by decide)
          go_wp2_with (first | (go_at_call 5; refine (as9 _ _ _ _ _ _ (by with_reducible first | exact q1 | exact q2) (by decide) (by decide) (by decide) _ kW).mono ?_; rintro e wn ⟨rfl, gn9⟩; replace kW := Kp.trans kW gn9; clear gn9) | (go_at_call 6; refine (mi9 _ _ (by with_reducible exact q3) _).mono ?_; rintro e wn ⟨rfl, hw9⟩; obtain rfl := hw9.symm; clear hw9))
          refine ⟨⟨Or.inr (Or.inl (by go_num)), kW⟩, by simp [intOf]⟩
        · subst hk2
          have q1 := fT 1 (-1); have q2 := fS 1 1 (by decide); have q3 := fM 1 (-1) 1 (by decide) (by decide)
          go_wp2_with (first | (go_at_call 5; refine (as9 _ _ _ _ _ _ (by with_reducible first | exact q1 | exact q2) (by decide) (by decide) (by decide) _ kW).mono ?_; rintro e wn ⟨rfl, gn9⟩; replace kW := Kp.trans kW gn9; clear gn9) | (go_at_call 6; refine (mi9 _ _ (by with_reducible exact q3) _).mono ?_; rintro e wn ⟨rfl, hw9⟩; obtain rfl := hw9.symm; clear hw9))
          refine ⟨⟨Or.inr (Or.inr (Or.inl (by go_num))), kW⟩, by simp [intOf]⟩
        · subst hk2
          have q1 := fT 2 (-1); have q2 := fR 2 1 (by decide); have q3 := fM 2 (-1) 1 (by decide) (by decide)
          go_wp2_with (first | (go_at_call 5; refine (as9 _ _ _ _ _ _ (by with_reducible first | exact q1 | exact q2) (by decide) (by decide) (by decide) _ kW).mono ?_; rintro e wn ⟨rfl, gn9⟩; replace kW := Kp.trans kW gn9; clear gn9) | (go_at_call 6; refine (mi9 _ _ (by with_reducible exact q3) _).mono ?_; rintro e wn ⟨rfl, hw9⟩; obtain rfl := hw9.symm; clear hw9))
          refine ⟨⟨Or.inr (Or.inr (Or.inr (Or.inl (by go_num)))), kW⟩, by simp [intOf]⟩
        · subst hk2
          have q1 := fT 3 (-1); have q2 := fR 3 1 (by decide); have q3 := fM 3 (-1) 1 (by decide) (by decide)
          go_wp2_with (first | (go_at_call 5; refine (as9 _ _ _ _ _ _ (by with_reducible first | exact q1 | exact q2) (by decide) (by decide) (by decide) _ kW).mono ?_; rintro e wn ⟨rfl, gn9⟩; replace kW := Kp.trans kW gn9; clear gn9) | (go_at_call 6; refine (mi9 _ _ (by with_reducible exact q3) _).mono ?_; rintro e wn ⟨rfl, hw9⟩; obtain rfl := hw9.symm; clear hw9))
          refine ⟨⟨Or.inr (Or.inr (Or.inr (Or.inr (Or.inl (by go_num))))), kW⟩, by simp [intOf]⟩
        · subst hk2
          have q1 := fT 4 (-1); have q2 := fR 4 1 (by decide); have q3 := fM 4 (-1) 1 (by decide) (by decide)
          go_wp2_with (first | (go_at_call 5; refine (as9 _ _ _ _ _ _ (by with_reducible first | exact q1 | exact q2) (by decide) (by decide) (by decide) _ kW).mono ?_; rintro e wn ⟨rfl, gn9⟩; replace kW := Kp.trans kW gn9; clear gn9) | (go_at_call 6; refine (mi9 _ _ (by with_reducible exact q3) _).mono ?_; rintro e wn ⟨rfl, hw9⟩; obtain rfl := hw9.symm; clear hw9))
          refine ⟨⟨Or.inr (Or.inr (Or.inr (Or.inr (Or.inr ((by go_num)))))), kW⟩, by simp [intOf]⟩
        · subst hk2
          have q1 := a1 (-1); have q2 := a2 (-1); have q3 := a3 (-1); have q4 := a4 (-1); have q5 := a5 (-1); have q6 := a6 (-1); have q7 := a7 (-1); have q8 := fT 4 (-1)
          go_wp2_with (first | (go_at_call 5; refine (as9 _ _ _ _ _ _ (by with_reducible first | exact q1 | exact q2 | exact q3 | exact q4 | exact q5 | exact q6 | exact q7 | exact q8) (by decide) (by decide) (by decide) _ kW).mono ?_; rintro e wn ⟨rfl, gn9⟩; replace kW := Kp.trans kW gn9; clear gn9))
          refine ⟨⟨Or.inr (Or.inl (by go_num)), kW⟩, by simp [intOf]⟩
    · subst hk
      go_upto_region 8 with fail
      go_loopw [7] (fun s7 wr => (s7 = .int .i64 0 ∨ s7 = .int .i64 1 ∨ s7 = .int .i64 2 ∨ s7 = .int .i64 3 ∨ s7 = .int .i64 4 ∨ s7 = .int .i64 5) ∧ Kp w wr) (fun s7 _ => (5 - intOf s7).toNat)
      case atStart => exact ⟨Or.inl rfl, kW⟩
      case round =>
        obtain ⟨hk2, kW⟩ := hrel
        rcases hk2 with hk2 | hk2 | hk2 | hk2 | hk2 | hk2
        · subst hk2
          have q1 := fT 0 0; have q2 := fS 0 0 (by decide); have q3 := fM 0 0 0 (by decide) (by decide)
          go_wp2_with (first | (go_at_call 5; refine (as9 _ _ _ _ _ _ (by with_reducible first | exact q1 | exact q2) (by decide) (by decide) (by decide) _ kW).mono ?_; rintro e wn ⟨rfl, gn9⟩; replace kW := Kp.trans kW gn9; clear gn9) | (go_at_call 6; refine (mi9 _ _ (by with_reducible exact q3) _).mono ?_; rintro e wn ⟨rfl, hw9⟩; obtain rfl := hw9.symm; clear hw9))
          refine ⟨⟨Or.inr (Or.inl (by go_num)), kW⟩, by simp [intOf]⟩
        · subst hk2
          have q1 := fT 1 0; have q2 := fS 1 0 (by decide); have q3 := fM 1 0 0 (by decide) (by decide)
          go_wp2_with (first | (go_at_call 5; refine (as9 _ _ _ _ _ _ (by with_reducible first | exact q1 | exact q2) (by decide) (by decide) (by decide) _ kW).mono ?_; rintro e wn ⟨rfl, gn9⟩; replace kW := Kp.trans kW gn9; clear gn9) | (go_at_call 6; refine (mi9 _ _ (by with_reducible exact q3) _).mono ?_; rintro e wn ⟨rfl, hw9⟩; obtain rfl := hw9.symm; clear hw9))
          refine ⟨⟨Or.inr (Or.inr (Or.inl (by go_num))), kW⟩, by simp [intOf]⟩
        · subst hk2
          have q1 := fT 2 0; have q2 := fR 2 0 (by decide); have q3 := fM 2 0 0 (by decide) (by decide)
          go_wp2_with (first | (go_at_call 5; refine (as9 _ _ _ _ _ _ (by with_reducible first | exact q1 | exact q2) (by decide) (by decide) (by decide) _ kW).mono ?_; rintro e wn ⟨rfl, gn9⟩; replace kW := Kp.trans kW gn9; clear gn9) | (go_at_call 6; refine (mi9 _ _ (by with_reducible exact q3) _).mono ?_; rintro e wn ⟨rfl, hw9⟩; obtain rfl := hw9.symm; clear hw9))
          refine ⟨⟨Or.inr (Or.inr (Or.inr (Or.inl (by go_num)))), kW⟩, by simp [intOf]⟩
        · subst hk2
          have q1 := fT 3 0; have q2 := fR 3 0 (by decide); have q3 := fM 3 0 0 (by decide) (by decide)
          go_wp2_with (first | (go_at_call 5; refine (as9 _ _ _ _ _ _ (by with_reducible first | exact q1 | exact q2) (by decide) (by decide) (by decide) _ kW).mono ?_; rintro e wn ⟨rfl, gn9⟩; replace kW := Kp.trans kW gn9; clear gn9) | (go_at_call 6; refine (mi9 _ _ (by with_reducible exact q3) _).mono ?_; rintro e wn ⟨rfl, hw9⟩; obtain rfl := hw9.symm; clear hw9))
          refine ⟨⟨Or.inr (Or.inr (Or.inr (Or.inr (Or.inl (by go_num))))), kW⟩, by simp [intOf]⟩
        · subst hk2
          have q1 := fT 4 0; have q2 := fR 4 0 (by decide); have q3 := fM 4 0 0 (by decide) (by decide)
          go_wp2_with (first | (go_at_call 5; refine (as9 _ _ _ _ _ _ (by with_reducible first | exact q1 | exact q2) (by decide) (by decide) (by decide) _ kW).mono ?_; rintro e wn ⟨rfl, gn9⟩; replace kW := Kp.trans kW gn9; clear gn9) | (go_at_call 6; refine (mi9 _ _ (by with_reducible exact q3) _).mono ?_; rintro e wn ⟨rfl, hw9⟩; obtain rfl := hw9.symm; clear hw9))
          refine ⟨⟨Or.inr (Or.inr (Or.inr (Or.inr (Or.inr ((by go_num)))))), kW⟩, by simp [intOf]⟩
        · subst hk2
          have q1 := a1 0; have q2 := a2 0; have q3 := a3 0; have q4 := a4 0; have q5 := a5 0; have q6 := a6 0; have q7 := a7 0; have q8 := fT 4 0
          go_wp2_with (first | (go_at_call 5; refine (as9 _ _ _ _ _ _ (by with_reducible first | exact q1 | exact q2 | exact q3 | exact q4 | exact q5 | exact q6 | exact q7 | exact q8) (by decide) (by decide) (by decide) _ kW).mono ?_; rintro e wn ⟨rfl, gn9⟩; replace kW := Kp.trans kW gn9; clear gn9))
          refine ⟨⟨Or.inr (Or.inr (Or.inl (by go_num))), kW⟩, by simp [intOf]⟩
    · subst hk
      go_upto_region 8 with fail
      go_loopw [7] (fun s7 wr => (s7 = .int .i64 0 ∨ s7 = .int .i64 1 ∨ s7 = .int .i64 2 ∨ s7 = .int .i64 3 ∨ s7 = .int .i64 4 ∨ s7 = .int .i64 5) ∧ Kp w wr) (fun s7 _ => (5 - intOf s7).toNat)
      case atStart => exact ⟨Or.inl rfl, kW⟩
      case round =>
        obtain ⟨hk2, kW⟩ := hrel
        rcases hk2 with hk2 | hk2 | hk2 | hk2 | hk2 | hk2
        · subst hk2
          have q1 := fT 0 1; have q2 := fS 0 (-1) (by decide); have q3 := fM 0 1 (-1) (by decide) (by decide)
          go_wp2_with (first | (go_at_call 5; refine (as9 _ _ _ _ _ _ (by with_reducible first | exact q1 | exact q2) (by decide) (by decide) (by decide) _ kW).mono ?_; rintro e wn ⟨rfl, gn9⟩; replace kW := Kp.trans kW gn9; clear gn9) | (go_at_call 6; refine (mi9 _ _ (by with_reducible exact q3) _).mono ?_; rintro e wn ⟨rfl, hw9⟩; obtain rfl := hw9.symm; clear hw9))
          refine ⟨⟨Or.inr (Or.inl (by go_num)), kW⟩, by simp [intOf]⟩
        · subst hk2
          have q1 := fT 1 1; have q2 := fS 1 (-1) (by decide); have q3 := fM 1 1 (-1) (by decide) (by decide)
          go_wp2_with (first | (go_at_call 5; refine (as9 _ _ _ _ _ _ (by with_reducible first | exact q1 | exact q2) (by decide) (by decide) (by decide) _ kW).mono ?_; rintro e wn ⟨rfl, gn9⟩; replace kW := Kp.trans kW gn9; clear gn9) | (go_at_call 6; refine (mi9 _ _ (by with_reducible exact q3) _).mono ?_; rintro e wn ⟨rfl, hw9⟩; obtain rfl := hw9.symm; clear hw9))
          refine ⟨⟨Or.inr (Or.inr (Or.inl (by go_num))), kW⟩, by simp [intOf]⟩
        · subst hk2
          have q1 := fT 2 1; have q2 := fR 2 (-1) (by decide); have q3 := fM 2 1 (-1) (by decide) (by decide)
          go_wp2_with (first | (go_at_call 5; refine (as9 _ _ _ _ _ _ (by with_reducible first | exact q1 | exact q2) (by decide) (by decide) (by decide) _ kW).mono ?_; rintro e wn ⟨rfl, gn9⟩; replace kW := Kp.trans kW gn9; clear gn9) | (go_at_call 6; refine (mi9 _ _ (by with_reducible exact q3) _).mono ?_; rintro e wn ⟨rfl, hw9⟩; obtain rfl := hw9.symm; clear hw9))
          refine ⟨⟨Or.inr (Or.inr (Or.inr (Or.inl (by go_num)))), kW⟩, by simp [intOf]⟩
        · subst hk2
          have q1 := fT 3 1; have q2 := fR 3 (-1) (by decide); have q3 := fM 3 1 (-1) (by decide) (by decide)
          go_wp2_with (first | (go_at_call 5; refine (as9 _ _ _ _ _ _ (by with_reducible first | exact q1 | exact q2) (by decide) (by decide) (by decide) _ kW).mono ?_; rintro e wn ⟨rfl, gn9⟩; replace kW := Kp.trans kW gn9; clear gn9) | (go_at_call 6; refine (mi9 _ _ (by with_reducible exact q3) _).mono ?_; rintro e wn ⟨rfl, hw9⟩; obtain rfl := hw9.symm; clear hw9))
          refine ⟨⟨Or.inr (Or.inr (Or.inr (Or.inr (Or.inl (by go_num))))), kW⟩, by simp [intOf]⟩
        · subst hk2
          have q1 := fT 4 1; have q2 := fR 4 (-1) (by decide); have q3 := fM 4 1 (-1) (by decide) (by decide)
          go_wp2_with (first | (go_at_call 5; refine (as9 _ _ _ _ _ _ (by with_reducible first | exact q1 | exact q2) (by decide) (by decide) (by decide) _ kW).mono ?_; rintro e wn ⟨rfl, gn9⟩; replace kW := Kp.trans kW gn9; clear gn9) | (go_at_call 6; refine (mi9 _ _ (by with_reducible exact q3) _).mono ?_; rintro e wn ⟨rfl, hw9⟩; obtain rfl := hw9.symm; clear hw9))
          refine ⟨⟨Or.inr (Or.inr (Or.inr (Or.inr (Or.inr ((by go_num)))))), kW⟩, by simp [intOf]⟩
        · subst hk2
          have q1 := a1 1; have q2 := a2 1; have q3 := a3 1; have q4 := a4 1; have q5 := a5 1; have q6 := a6 1; have q7 := a7 1; have q8 := fT 4 1
          go_wp2_with (first | (go_at_call 5; refine (as9 _ _ _ _ _ _ (by with_reducible first | exact q1 | exact q2 | exact q3 | exact q4 | exact q5 | exact q6 | exact q7 | exact q8) (by decide) (by decide) (by decide) _ kW).mono ?_; rintro e wn ⟨rfl, gn9⟩; replace kW := Kp.trans kW gn9; clear gn9))
          refine ⟨⟨Or.inr (Or.inr (Or.inr ((by go_num)))), kW⟩, by simp [intOf]⟩
    · subst hk
      go_wp2_with (first | (go_at_call 7; refine (li9 _ kW).mono ?_; rintro e wn ⟨rfl, gn9⟩; replace kW := Kp.trans kW gn9; clear gn9))
      exact bodyPost_ret (v := .bool true) (by simp [results, Tryz.results3, go_sem]) rfl ⟨rfl, kW⟩

set_option linter.unusedVariables false
/-- what is asked, answered -/
def oX (K : Nat) (op d : Int) (n : Bool) (m : Nat) (n' : Bool) (m' : Nat) (nz : Bool) (mz : Nat) : Option Int := if op = 0 then oA d n m n' m' else if op = 1 then oA d n m (!n') m' else if op = 2 then oM K d n m n' m' else if op = 3 then oD K d n m n' m' else oF K d n m n' m' nz mz
theorem okX (K : Nat) (op d : Int) (n : Bool) (m : Nat) (n' : Bool) (m' : Nat) (nz : Bool) (mz : Nat) : okO (oX K op d n m n' m' nz mz) := by
  unfold oX
  split
  · exact okA _ _ _ _ _
  · split
    · exact okA _ _ _ _ _
    · split
      · exact okM _ _ _ _ _ _
      · split
        · exact okD _ _ _ _ _ _
        · exact okF _ _ _ _ _ _ _ _
theorem askX_ (K : Nat) (hK : K = 1074) (op d : Int) (h5 : 0 ≤ op ∧ op < 5) (n n' nz : Bool) (m m' mz : Nat) (hm : m < 9223372036854775808) (hm' : m' < 9223372036854775808) (hmz : mz < 9223372036854775808) (hd1 : -9223372036854775808 ≤ d) (hd2 : d < 9223372036854775808) (w : World) (hT : Tab w) (hQ : Fq.Tab w) : Calls Tryz.prog 5 #[.int .i64 op, .int .i64 d, .float .f64 (Fq.wD n m), .float .f64 (Fq.wD n' m'), .float .f64 (Fq.wD nz mz)] w fun e w' => e = .returned (.int .u64 ((zc (oX K op d n m n' m' nz mz) : Nat) : Int)) ∧ Kp w w' := by
  unfold oX
  by_cases c0 : op = 0
  · rw [if_pos c0, c0]; exact asked0_ d _ _ _ _ w (addO_ d n n' m m' hm hm' hd1 hd2 w hT hQ)
  rw [if_neg c0]
  by_cases c1 : op = 1
  · rw [if_pos c1, c1]; exact asked1_ d _ _ _ _ w (subO_ d n n' m m' hm hm' hd1 hd2 w hT hQ)
  rw [if_neg c1]
  by_cases c2 : op = 2
  · rw [if_pos c2, c2]; exact asked2_ d _ _ _ _ w (mulO_ K hK d n n' m m' hm hm' hd1 hd2 w hT hQ)
  rw [if_neg c2]
  by_cases c3 : op = 3
  · rw [if_pos c3, c3]; exact asked3_ d _ _ _ _ w (divO_ K hK d n n' m m' hm hm' hd1 hd2 w hT hQ)
  rw [if_neg c3, show op = 4 from by omega]
  exact asked4_ d _ _ _ _ w (fmaO_ K hK d n n' nz m m' mz hm hm' hmz hd1 hd2 w hT hQ)
theorem nn9 (b : Bool) : (!(!b)) = b := by cases b <;> rfl
set_option maxHeartbeats 1000000 in
theorem mirrors_ (X Y Z : Nat) (w : World) (hT : Tab w) (hQ : Fq.Tab w) (hX : X < 18446744073709551616) (hY : Y < 18446744073709551616) (hZ : Z < 18446744073709551616) : Calls Tryz.prog 3 #[.agg #[.int .u64 (X : Int), .int .u64 (Y : Int), .int .u64 (Z : Int)]] w fun e w' => e = .returned (.bool true) ∧ Kp w w' := by
  obtain ⟨n0, m0, h0, e0⟩ := Fq.exD X hX
  obtain ⟨n1, m1, h1, e1⟩ := Fq.exD Y hY
  obtain ⟨n2, m2, h2, e2⟩ := Fq.exD Z hZ
  obtain ⟨K, hK⟩ : ∃ K : Nat, K = 1074 := ⟨_, rfl⟩
  have ask : ∀ (op d : Int) (n n' nz : Bool) (m m' mz : Nat), m < 9223372036854775808 → m' < 9223372036854775808 → mz < 9223372036854775808 → 0 ≤ op ∧ op < 5 → -1 ≤ d → d ≤ 1 → ∀ W : World, Kp w W → Calls Tryz.prog 5 #[.int .i64 op, .int .i64 d, .float .f64 (Fq.wD n m), .float .f64 (Fq.wD n' m'), .float .f64 (Fq.wD nz mz)] W fun e w' => e = .returned (.int .u64 ((zc (oX K op d n m n' m' nz mz) : Nat) : Int)) ∧ Kp W w' := fun op d n n' nz m m' mz hm hm' hmz h5 d1 d2 W g => askX_ K hK op d h5 n n' nz m m' mz hm hm' hmz (by omega) (by omega) W (Tab.grown hT g) (Fq.Tab.grown hQ g)
  exact mirrorsA_ (X : Int) (Y : Int) (Z : Int) (Fq.wD n0 m0) (Fq.wD n1 m1) (Fq.wD n2 m2) (Fq.wD (!n0) m0) (Fq.wD (!n1) m1) (Fq.wD (!n2) m2) (fun op d => ((zc (oX K op d n0 m0 n1 m1 n2 m2) : Nat) : Int)) (fun op d => if op < 2 then ((zc (oX K op d (!n0) m0 (!n1) m1 n2 m2) : Nat) : Int) else ((zc (oX K op d (!n0) m0 n1 m1 (!n2) m2) : Nat) : Int)) (fun d => ((zc (oA d n0 m0 n1 m1) : Nat) : Int)) (fun d => ((zc (oA d n0 m0 (!n1) m1) : Nat) : Int)) (fun d => ((zc (oM K d n0 m0 n1 m1) : Nat) : Int)) w
    (fun op d x y z Z => 0 ≤ op ∧ op < 5 → -1 ≤ d → d ≤ 1 → ∀ W : World, Kp w W → Calls Tryz.prog 5 #[.int .i64 op, .int .i64 d, .float .f64 x, .float .f64 y, .float .f64 z] W fun e w' => e = .returned (.int .u64 Z) ∧ Kp W w')
    (fun X Y => X = ((Y : Nat) : Int)) (fun X Y => ∀ W : World, Calls Tryz.prog 6 #[.int .u64 X] W fun e w' => e = .returned (.int .u64 Y) ∧ w' = W)
    (fun op d x y z Z h => h) (fun X Y h W => by rw [h]; exact fl_ Y W) (fun X Y h => h) (fun W g => lives_ W (Tab.grown hT g) (Fq.Tab.grown hQ g)) (negW8 n0 m0 h0) (negW8 n1 m1 h1) (negW8 n2 m2 h2)
    (fun op d => ask op d n0 n1 n2 m0 m1 m2 h0 h1 h2)
    (fun op d ho => by rw [if_pos ho]; exact ask op d (!n0) (!n1) n2 m0 m1 m2 h0 h1 h2)
    (fun op d ho => by rw [if_neg ho]; exact ask op d (!n0) n1 (!n2) m0 m1 m2 h0 h1 h2)
    (fun op d d' h5 hd W => by
      rw [hd]
      by_cases ho : op < 2
      · rw [if_pos ho]
        have g := mir_ (oX K op (-d) (!n0) m0 (!n1) m1 n2 m2) (okX _ _ _ _ _ _ _ _ _) W
        rw [show ng (oX K op (-d) (!n0) m0 (!n1) m1 n2 m2) = oX K op d n0 m0 n1 m1 n2 m2 from by
          unfold oX
          by_cases c0 : op = 0
          · rw [if_pos c0, if_pos c0, oA_mir, ng_ng]
          · rw [if_neg c0, if_neg c0, if_pos (show op = 1 by omega), if_pos (show op = 1 by omega), oA_mir, ng_ng]] at g
        exact g
      · rw [if_neg ho]
        have g := mir_ (oX K op (-d) (!n0) m0 n1 m1 (!n2) m2) (okX _ _ _ _ _ _ _ _ _) W
        rw [show ng (oX K op (-d) (!n0) m0 n1 m1 (!n2) m2) = oX K op d n0 m0 n1 m1 n2 m2 from by
          unfold oX
          rw [if_neg (show ¬ op = 0 by omega), if_neg (show ¬ op = 0 by omega), if_neg (show ¬ op = 1 by omega), if_neg (show ¬ op = 1 by omega)]
          by_cases c2 : op = 2
          · rw [if_pos c2, if_pos c2, oM_mir, ng_ng]
          · rw [if_neg c2, if_neg c2]
            by_cases c3 : op = 3
            · rw [if_pos c3, if_pos c3, oD_mir, ng_ng]
            · rw [if_neg c3, if_neg c3, oF_mir, ng_ng]] at g
        exact g)
    (fun d => ask 0 d n0 n1 false m0 m1 0 h0 h1 (by decide))
    (fun d => by rw [oA_sym]; exact ask 0 d n1 n0 false m1 m0 0 h1 h0 (by decide))
    (fun d => ask 2 d n0 n1 false m0 m1 0 h0 h1 (by decide))
    (fun d => by rw [oM_sym]; exact ask 2 d n1 n0 false m1 m0 0 h1 h0 (by decide))
    (fun d => by
      have h := ask 4 d n1 n0 n2 m1 m0 m2 h1 h0 h2
      rw [show oX K 4 d n1 m1 n0 m0 n2 m2 = oX K 4 d n0 m0 n1 m1 n2 m2 from oF_sym K d n1 m1 n0 m0 n2 m2] at h
      exact h)
    (fun d => ask 1 d n0 n1 false m0 m1 0 h0 h1 (by decide))
    (fun d => ask 0 d n0 (!n1) false m0 m1 0 h0 h1 (by decide))
    (by rw [e0]) (by rw [e1]) (by rw [e2])
end Go.Proofs.YtgiffpohngaonaaGreatDoor
