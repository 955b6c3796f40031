import Derived.Test.YtkheefoabcibkaaGreatDoorKXS8
import Derived.Test.YtkheefoabcibkaaGreatDoorKXYC
import Derived.Test.YtkheefoabcibkaaGreatDoorKXZD
namespace Go.Proofs.YtkheefoabcibkaaGreatDoor
open Go.RowKit

set_option linter.unusedVariables false
def pz (z : Int) : Nat := Fq.wD (decide (z < 0)) z.natAbs
def g53 (d : Int) (c1 c2 : Nat) (V : Int) : Int := gpl 53 2098 9218868437227405311 9218868437227405312 d c1 c2 V
theorem g53_mono (d : Int) (c1 c2 : Nat) (hc : 0 < c2) (V V' : Int) (h : V ≤ V') : g53 d c1 c2 V ≤ g53 d c1 c2 V' := gpl_mono 53 2098 9218868437227405311 9218868437227405312 d c1 c2 hc (by decide) (by decide) (by decide) (by decide) V V' h
theorem g53_le (d : Int) (c1 c2 : Nat) (V : Int) : -9218868437227405312 ≤ g53 d c1 c2 V ∧ g53 d c1 c2 V ≤ 9218868437227405312 := gpl_le 53 2098 9218868437227405311 9218868437227405312 d c1 c2 (by decide) (by decide) (by decide) (by decide) V
theorem mdW_pz (s : Bool) (M : Nat) : mdW s M = pz (if s then -(M : Int) else M) := by
  unfold mdW pz Fq.wD
  by_cases z : M = 0
  · rw [if_pos z, z]; cases s <;> simp
  · rw [if_neg z]
    cases s
    · simp <;> omega
    · simp <;> omega
theorem sumW_g (d V : Int) : sumW d V = pz (g53 d 1 1 V) := by
  unfold sumW g53 gpl
  by_cases z : V = 0
  · rw [if_pos z, if_pos z]; rfl
  · rw [if_neg z, if_neg z, mdW_pz, Nat.mul_one]
    by_cases n : V < 0
    · rw [if_pos n, decide_eq_true n]; rfl
    · rw [if_neg n, decide_eq_false n]; rfl
theorem rV_neg (d : Int) (A K : Nat) : rV d 53 A 1 (-(K : Int)) = rU d 53 (A * 1) (2 ^ K) := by
  unfold rV
  rw [show (-(K : Int)).toNat = 0 from by omega, show (- -(K : Int)).toNat = K from by omega, Nat.pow_zero, Nat.one_mul]
theorem rV_pos (d : Int) (A B K : Nat) : rV d 53 A B (K : Int) = rU d 53 (A * 2 ^ K) B := by
  unfold rV
  rw [show ((K : Int)).toNat = K from by omega, show (-(K : Int)).toNat = 0 from by omega, Nat.pow_zero, Nat.mul_one]
theorem fmaW_g (K : Nat) (hK : K = 1074) (d V : Int) : fmaW d V = pz (g53 d 1 (2 ^ K) V) := by
  unfold fmaW g53 gpl
  rw [show (-1074 : Int) = -(K : Int) from by omega]
  by_cases z : V = 0
  · rw [if_pos z, if_pos z]; rfl
  · rw [if_neg z, if_neg z, mdW_pz, rV_neg]
    by_cases n : V < 0
    · rw [if_pos n, decide_eq_true n]; rfl
    · rw [if_neg n, decide_eq_false n]; rfl
theorem mulW_g (K : Nat) (hK : K = 1074) (d : Int) (n n' : Bool) (m m' : Nat) : mulW d (n ^^ n') (Fq.vV Ieee.double m * Fq.vV Ieee.double m') = pz (g53 d 1 (2 ^ K) (Iv n m * Iv n' m')) := by
  rw [← fmaW_g K hK]
  have e : Iv n m * Iv n' m' = if (n ^^ n') then -((Fq.vV Ieee.double m * Fq.vV Ieee.double m' : Nat) : Int) else ((Fq.vV Ieee.double m * Fq.vV Ieee.double m' : Nat) : Int) := by
    unfold Iv
    rw [Int.natCast_mul]
    cases n <;> cases n' <;> simp [Int.neg_mul, Int.mul_neg]
  rw [e]
  generalize Fq.vV Ieee.double m * Fq.vV Ieee.double m' = P
  generalize (n ^^ n') = s
  unfold mulW fmaW
  by_cases z : P = 0
  · rw [if_pos z, z, if_pos (by cases s <;> rfl)]
  · rw [if_neg z, if_neg (by cases s <;> simp <;> omega)]
    cases s
    · rw [if_neg (by decide), show decide (((P : Nat) : Int) < 0) = false from decide_eq_false (by omega), show ((P : Nat) : Int).natAbs = P from by omega]
    · rw [if_pos rfl, show decide (-((P : Nat) : Int) < 0) = true from decide_eq_true (by omega), show (-((P : Nat) : Int)).natAbs = P from by omega]
theorem divW_g (K : Nat) (hK : K = 1074) (d : Int) (n : Bool) (m B : Nat) : divW d (n ^^ false) (Fq.vV Ieee.double m) B = pz (g53 d (2 ^ K) B (Iv n m)) := by
  rw [show (n ^^ false) = n from by cases n <;> rfl]
  unfold divW g53 gpl
  rw [show (1074 : Int) = (K : Int) from by omega]
  have e : Iv n m = if n then -((Fq.vV Ieee.double m : Nat) : Int) else ((Fq.vV Ieee.double m : Nat) : Int) := by unfold Iv; cases n <;> rfl
  rw [e]
  generalize Fq.vV Ieee.double m = P
  by_cases z : P = 0
  · rw [if_pos z, z, if_pos (by cases n <;> rfl)]; rfl
  · rw [if_neg z, if_neg (by cases n <;> simp <;> omega), mdW_pz, rV_pos]
    cases n
    · simp only [Bool.false_eq_true, if_false]
      rw [if_neg (show ¬ ((P : Nat) : Int) < 0 by omega), show ((P : Nat) : Int).natAbs = P from by omega]
    · simp only [if_true]
      rw [if_pos (show -((P : Nat) : Int) < 0 by omega), show (-((P : Nat) : Int)).natAbs = P from by omega]
set_option linter.unusedVariables false
theorem addG_ (d : Int) (n n' : Bool) (m m' : Nat) (hm : m < 9218868437227405312) (hm' : m' < 9218868437227405312) (hd1 : -9223372036854775808 ≤ d) (hd2 : d < 9223372036854775808) (w : World) (hT : Tab w) (hQ : Fq.Tab w) : Calls Tryz.prog 30 #[.int .i64 d, .float .f64 (Fq.wD n m), .float .f64 (Fq.wD n' m')] w fun e w' => e = .returned (.float .f64 (pz (g53 d 1 1 (Iv n m + Iv n' m')))) ∧ Kp w w' := by
  rw [← sumW_g]
  exact paddF_ d n n' m m' hm hm' w hT hQ hd1 hd2
theorem mulG_ (K : Nat) (hK : K = 1074) (d : Int) (n n' : Bool) (m m' : Nat) (hm : m < 9218868437227405312) (hm' : m' < 9218868437227405312) (hd1 : -9223372036854775808 ≤ d) (hd2 : d < 9223372036854775808) (w : World) (hT : Tab w) (hQ : Fq.Tab w) : Calls Tryz.prog 37 #[.int .i64 d, .float .f64 (Fq.wD n m), .float .f64 (Fq.wD n' m')] w fun e w' => e = .returned (.float .f64 (pz (g53 d 1 (2 ^ K) (Iv n m * Iv n' m')))) ∧ Kp w w' := by
  rw [← mulW_g K hK]
  by_cases z : m = 0 ∨ m' = 0
  · have h0 : mulW d (n ^^ n') (Fq.vV Ieee.double m * Fq.vV Ieee.double m') = 0 := by
      unfold mulW
      refine if_pos (Nat.mul_eq_zero.2 ?_)
      rcases z with z | z
      · exact Or.inl ((vV_zero m).2 z)
      · exact Or.inr ((vV_zero m').2 z)
    rw [h0]
    have hp := Fq.plain_d (n ^^ n') 0 (by decide) w
    rw [show Fq.wD ((n ^^ n') && !((0 : Nat) == 0)) 0 = 0 from by simp; rfl] at hp
    exact pmulP_ d n n' m m' (by omega) (by omega) (fun h => by omega) w w (Fq.wD (n ^^ n') 0) 0 (run_float_arith w .mul 22 .f64 _ _ _ (mul_zero n n' m m' hm hm' z)) (Kp.refl _) hp
  · by_cases ct : (2580562586483294208 ≤ m ∧ m ≤ 6633802251116740608) ∧ (2580562586483294208 ≤ m' ∧ m' ≤ 6633802251116740608)
    · exact pmulQ_ d n n' m m' ct.1 ct.2 w
    · exact pmulE_ d n n' m m' hm hm' (fun h => z (Or.inl h)) (fun h => z (Or.inr h)) ct w hT hQ hd1 hd2
theorem fmaG_ (K : Nat) (hK : K = 1074) (d : Int) (n n' nz : Bool) (m m' mz : Nat) (hm : m < 9218868437227405312) (hm' : m' < 9218868437227405312) (hmz : mz < 9218868437227405312) (hd1 : -9223372036854775808 ≤ d) (hd2 : d < 9223372036854775808) (w : World) (hT : Tab w) (hQ : Fq.Tab w) : Calls Tryz.prog 67 #[.int .i64 d, .float .f64 (Fq.wD n m), .float .f64 (Fq.wD n' m'), .float .f64 (Fq.wD nz mz)] w fun e w' => e = .returned (.float .f64 (pz (g53 d 1 (2 ^ K) (Iv n m * Iv n' m' + Iv nz mz * ((2 ^ K : Nat) : Int))))) ∧ Kp w w' := by
  rw [← fmaW_g K hK]
  by_cases ct : (2580562586483294208 ≤ m ∧ m ≤ 6633802251116740608) ∧ (2580562586483294208 ≤ m' ∧ m' ≤ 6633802251116740608) ∧ mz ≤ 9110782046170513408
  · exact pfmaQ_ d n n' nz m m' mz ct.1 ct.2.1 ct.2.2 K hK w hT hQ hd1 hd2
  · exact pfmaE_ d n n' nz m m' mz hm hm' hmz ct K hK w hT hQ hd1 hd2

set_option linter.unusedVariables false
theorem gpl_neg (p T G I : Nat) (d : Int) (c1 c2 : Nat) (V : Int) : gpl p T G I (-d) c1 c2 (-V) = -(gpl p T G I d c1 c2 V) := by
  unfold gpl
  have e1 : dirN true (-d) = dirN false d := by unfold dirN; simp
  have e2 : dirN false (-d) = dirN true d := by unfold dirN; simp
  rw [e1, e2, Int.natAbs_neg]
  by_cases z : V = 0
  · rw [if_pos (show -V = 0 by omega), if_pos z]; rfl
  · rw [if_neg (show ¬ -V = 0 by omega), if_neg z]
    by_cases n : V < 0
    · rw [if_pos n, if_neg (show ¬ -V < 0 by omega)]; omega
    · rw [if_neg n, if_pos (show -V < 0 by omega)]
theorem g53_neg (d : Int) (c1 c2 : Nat) (V : Int) : g53 (-d) c1 c2 (-V) = -(g53 d c1 c2 V) := gpl_neg _ _ _ _ d c1 c2 V
theorem iv_nt (n : Bool) (m : Nat) : Iv (!n) m = -Iv n m := by rw [iv_not]
def sgI (n : Bool) : Int := if n then -9218868437227405312 else 9218868437227405312
theorem sgI_not (n : Bool) : sgI (!n) = -sgI n := by cases n <;> rfl
def oA (d : Int) (n : Bool) (m : Nat) (n' : Bool) (m' : Nat) : Option Int := if 9218868437227405312 < m ∨ 9218868437227405312 < m' ∨ (m = 9218868437227405312 ∧ m' = 9218868437227405312 ∧ n ≠ n') then none else if m = 9218868437227405312 then some (sgI n) else if m' = 9218868437227405312 then some (sgI n') else some (g53 d 1 1 (Iv n m + Iv n' m'))
def oM (K : Nat) (d : Int) (n : Bool) (m : Nat) (n' : Bool) (m' : Nat) : Option Int := if 9218868437227405312 < m ∨ 9218868437227405312 < m' ∨ (m = 9218868437227405312 ∧ m' = 0) ∨ (m = 0 ∧ m' = 9218868437227405312) then none else if m = 9218868437227405312 ∨ m' = 9218868437227405312 then some (sgI (n ^^ n')) else some (g53 d 1 (2 ^ K) (Iv n m * Iv n' m'))
def oD (K : Nat) (d : Int) (n : Bool) (m : Nat) (n' : Bool) (m' : Nat) : Option Int := if m' = 0 then (if m = 0 ∨ 9218868437227405312 < m then none else some (sgI n)) else if 9218868437227405312 < m ∨ 9218868437227405312 < m' ∨ (m = 9218868437227405312 ∧ m' = 9218868437227405312) then none else if m = 9218868437227405312 then some (sgI (n ^^ n')) else if m' = 9218868437227405312 then some 0 else some (g53 d (2 ^ K) (Fq.vV Ieee.double m') (Iv (n ^^ n') m))
def oF (K : Nat) (d : Int) (n : Bool) (m : Nat) (n' : Bool) (m' : Nat) (nz : Bool) (mz : Nat) : Option Int := if m < 9218868437227405312 ∧ m' < 9218868437227405312 then (if mz < 9218868437227405312 then some (g53 d 1 (2 ^ K) (Iv n m * Iv n' m' + Iv nz mz * ((2 ^ K : Nat) : Int))) else if 9218868437227405312 < mz then none else some (sgI nz)) else if 9218868437227405312 < m ∨ 9218868437227405312 < m' ∨ (m = 9218868437227405312 ∧ m' = 0) ∨ (m = 0 ∧ m' = 9218868437227405312) then none else if 9218868437227405312 < mz ∨ (mz = 9218868437227405312 ∧ (n ^^ n') ≠ nz) then none else some (sgI (n ^^ n'))
def ng (o : Option Int) : Option Int := o.map (fun z => -z)
theorem xor_not9 (n n' : Bool) : ((!n) ^^ n') = !(n ^^ n') := by cases n <;> cases n' <;> rfl
theorem oM_mir (K : Nat) (d : Int) (n : Bool) (m : Nat) (n' : Bool) (m' : Nat) : oM K (-d) (!n) m n' m' = ng (oM K d n m n' m') := by
  unfold oM
  rw [xor_not9, sgI_not, iv_nt, Int.neg_mul, g53_neg]
  by_cases c1 : 9218868437227405312 < m ∨ 9218868437227405312 < m' ∨ (m = 9218868437227405312 ∧ m' = 0) ∨ (m = 0 ∧ m' = 9218868437227405312)
  · rw [if_pos c1, if_pos c1]; rfl
  rw [if_neg c1, if_neg c1]
  by_cases c2 : m = 9218868437227405312 ∨ m' = 9218868437227405312
  · rw [if_pos c2, if_pos c2]; rfl
  rw [if_neg c2, if_neg c2]; rfl
theorem oD_mir (K : Nat) (d : Int) (n : Bool) (m : Nat) (n' : Bool) (m' : Nat) : oD K (-d) (!n) m n' m' = ng (oD K d n m n' m') := by
  unfold oD
  rw [xor_not9, sgI_not, sgI_not, iv_nt, g53_neg]
  by_cases c0 : m' = 0
  · rw [if_pos c0, if_pos c0]
    by_cases c1 : m = 0 ∨ 9218868437227405312 < m
    · rw [if_pos c1, if_pos c1]; rfl
    rw [if_neg c1, if_neg c1]; rfl
  rw [if_neg c0, if_neg c0]
  by_cases c1 : 9218868437227405312 < m ∨ 9218868437227405312 < m' ∨ (m = 9218868437227405312 ∧ m' = 9218868437227405312)
  · rw [if_pos c1, if_pos c1]; rfl
  rw [if_neg c1, if_neg c1]
  by_cases c2 : m = 9218868437227405312
  · rw [if_pos c2, if_pos c2]; rfl
  rw [if_neg c2, if_neg c2]
  by_cases c3 : m' = 9218868437227405312
  · rw [if_pos c3, if_pos c3]; rfl
  rw [if_neg c3, if_neg c3]; rfl
theorem oA_sym (d : Int) (n : Bool) (m : Nat) (n' : Bool) (m' : Nat) : oA d n m n' m' = oA d n' m' n m := by
  unfold oA
  rw [Int.add_comm (Iv n' m') (Iv n m)]
  by_cases c1 : 9218868437227405312 < m ∨ 9218868437227405312 < m' ∨ (m = 9218868437227405312 ∧ m' = 9218868437227405312 ∧ n ≠ n')
  · rw [if_pos c1, if_pos (by rcases c1 with h | h | ⟨h1, h2, h3⟩; exact Or.inr (Or.inl h); exact Or.inl h; exact Or.inr (Or.inr ⟨h2, h1, fun e => h3 e.symm⟩))]
  · have c1' : ¬ (9218868437227405312 < m' ∨ 9218868437227405312 < m ∨ (m' = 9218868437227405312 ∧ m = 9218868437227405312 ∧ n' ≠ n)) := fun h => c1 (by rcases h with h | h | ⟨h1, h2, h3⟩; exact Or.inr (Or.inl h); exact Or.inl h; exact Or.inr (Or.inr ⟨h2, h1, fun e => h3 e.symm⟩))
    rw [if_neg c1, if_neg c1']
    by_cases c2 : m = 9218868437227405312
    · by_cases c3 : m' = 9218868437227405312
      · have : n = n' := by
          rcases Decidable.em (n = n') with e | e
          · exact e
          · exact absurd (Or.inr (Or.inr ⟨c2, c3, e⟩)) c1
        rw [if_pos c2, if_pos c3, this]
      · rw [if_pos c2, if_neg c3, if_pos c2]
    · by_cases c3 : m' = 9218868437227405312
      · rw [if_neg c2, if_pos c3, if_pos c3]
      · rw [if_neg c2, if_neg c3, if_neg c3, if_neg c2]
theorem bad_sym (m m' : Nat) : (9218868437227405312 < m ∨ 9218868437227405312 < m' ∨ (m = 9218868437227405312 ∧ m' = 0) ∨ (m = 0 ∧ m' = 9218868437227405312)) ↔ (9218868437227405312 < m' ∨ 9218868437227405312 < m ∨ (m' = 9218868437227405312 ∧ m = 0) ∨ (m' = 0 ∧ m = 9218868437227405312)) := by omega
theorem oM_sym (K : Nat) (d : Int) (n : Bool) (m : Nat) (n' : Bool) (m' : Nat) : oM K d n m n' m' = oM K d n' m' n m := by
  unfold oM
  rw [Int.mul_comm (Iv n' m') (Iv n m), show (n' ^^ n) = (n ^^ n') from by cases n <;> cases n' <;> rfl]
  simp only [bad_sym m m', Or.comm (a := m = 9218868437227405312) (b := m' = 9218868437227405312)]
theorem oF_sym (K : Nat) (d : Int) (n : Bool) (m : Nat) (n' : Bool) (m' : Nat) (nz : Bool) (mz : Nat) : oF K d n m n' m' nz mz = oF K d n' m' n m nz mz := by
  unfold oF
  rw [Int.mul_comm (Iv n' m') (Iv n m), show (n' ^^ n) = (n ^^ n') from by cases n <;> cases n' <;> rfl]
  simp only [bad_sym m m', And.comm (a := m < 9218868437227405312) (b := m' < 9218868437227405312)]
theorem sgI_le (n : Bool) : -9218868437227405312 ≤ sgI n ∧ sgI n ≤ 9218868437227405312 := by cases n <;> decide
def okO (o : Option Int) : Prop := ∀ z, o = some z → -9218868437227405312 ≤ z ∧ z ≤ 9218868437227405312
theorem ok_some (z : Int) (h : -9218868437227405312 ≤ z ∧ z ≤ 9218868437227405312) : okO (some z) := fun y e => by cases e; exact h
theorem ok_none : okO none := fun y e => by cases e
theorem okM (K : Nat) (d : Int) (n : Bool) (m : Nat) (n' : Bool) (m' : Nat) : okO (oM K d n m n' m') := by
  unfold oM
  split
  · exact ok_none
  · split
    · exact ok_some _ (sgI_le _)
    · exact ok_some _ (g53_le _ _ _ _)
theorem okD (K : Nat) (d : Int) (n : Bool) (m : Nat) (n' : Bool) (m' : Nat) : okO (oD K d n m n' m') := by
  unfold oD
  split
  · split
    · exact ok_none
    · exact ok_some _ (sgI_le _)
  · split
    · exact ok_none
    · split
      · exact ok_some _ (sgI_le _)
      · split
        · exact ok_some _ (by decide)
        · exact ok_some _ (g53_le _ _ _ _)
theorem okF (K : Nat) (d : Int) (n : Bool) (m : Nat) (n' : Bool) (m' : Nat) (nz : Bool) (mz : Nat) : okO (oF K d n m n' m' nz mz) := by
  unfold oF
  split
  · split
    · exact ok_some _ (g53_le _ _ _ _)
    · split
      · exact ok_none
      · exact ok_some _ (sgI_le _)
  · split
    · exact ok_none
    · split
      · exact ok_none
      · exact ok_some _ (sgI_le _)
theorem wD_sg (n : Bool) : Fq.wD n 9218868437227405312 = pz (sgI n) := by cases n <;> decide

set_option linter.unusedVariables false
def sN (z : Int) : Bool := decide (z < 0)
theorem sN_neg (z : Int) (h : z ≠ 0) : sN (-z) = !(sN z) := by
  unfold sN
  by_cases c : z < 0
  · rw [decide_eq_true c, decide_eq_false (by omega)]; rfl
  · rw [decide_eq_false c, decide_eq_true (by omega)]; rfl
def adZ (d x y : Int) : Int := (oA d (sN x) x.natAbs (sN y) y.natAbs).getD 0
def muZ (K : Nat) (d x y : Int) : Int := (oM K d (sN x) x.natAbs (sN y) y.natAbs).getD 0
def diZ (K : Nat) (d x y : Int) : Int := (oD K d (sN x) x.natAbs (sN y) y.natAbs).getD 0
def fuZ (K : Nat) (d x y e : Int) : Int := (oF K d (sN x) x.natAbs (sN y) y.natAbs (sN e) e.natAbs).getD 0
theorem okD0 {o : Option Int} (h : okO o) : BdZ (o.getD 0) := by
  unfold BdZ
  cases o with
  | none => simp
  | some z => exact h z rfl
theorem muZ_bd (K : Nat) (d x y : Int) : BdZ (muZ K d x y) := okD0 (okM _ _ _ _ _ _)
theorem diZ_bd (K : Nat) (d x y : Int) : BdZ (diZ K d x y) := okD0 (okD _ _ _ _ _ _)
theorem fuZ_bd (K : Nat) (d x y e : Int) : BdZ (fuZ K d x y e) := okD0 (okF _ _ _ _ _ _ _ _)
theorem getD_ng (o : Option Int) : (ng o).getD 0 = -(o.getD 0) := by cases o <;> simp [ng]
theorem muZ_sym (K : Nat) (d x y : Int) : muZ K d x y = muZ K d y x := by unfold muZ; rw [oM_sym]
theorem fuZ_sym (K : Nat) (d x y e : Int) : fuZ K d x y e = fuZ K d y x e := by unfold fuZ; rw [oF_sym]
theorem muZ_neg (K : Nat) (d x y : Int) (hx : x ≠ 0) (hy : y ≠ 0) : muZ K d (-x) y = muZ K d x (-y) := by
  unfold muZ
  rw [sN_neg x hx, sN_neg y hy, Int.natAbs_neg, Int.natAbs_neg]
  have h1 := oM_mir K (-d) (sN x) x.natAbs (sN y) y.natAbs
  have h2 := oM_mir K (-d) (sN y) y.natAbs (sN x) x.natAbs
  rw [Int.neg_neg] at h1 h2
  rw [h1, oM_sym K d (sN x) x.natAbs (!(sN y)), h2, oM_sym K (-d) (sN y) y.natAbs]
theorem oF_neg (K : Nat) (d : Int) (n : Bool) (m : Nat) (n' : Bool) (m' : Nat) (nz : Bool) (mz : Nat) : oF K d (!n) m n' m' nz mz = oF K d n m (!n') m' nz mz := by
  unfold oF
  rw [iv_nt, iv_nt, Int.neg_mul, Int.mul_neg, show ((!n) ^^ n') = (n ^^ (!n')) from by cases n <;> cases n' <;> rfl]
theorem fuZ_neg (K : Nat) (d x y e : Int) (hx : x ≠ 0) (hy : y ≠ 0) : fuZ K d (-x) y e = fuZ K d x (-y) e := by
  unfold fuZ
  rw [sN_neg x hx, sN_neg y hy, Int.natAbs_neg, Int.natAbs_neg, oF_neg]
theorem diZ_mir (K : Nat) (d x y : Int) (hx : x ≠ 0) : diZ K (-d) (-x) y = -(diZ K d x y) := by
  unfold diZ
  rw [sN_neg x hx, Int.natAbs_neg, oD_mir, getD_ng]
def prZ (K : Nat) (x y : Int) : Int := if x = 0 ∨ y = 0 then 0 else muZ K (-1) x y
def fmZ (K : Nat) (e x y : Int) : Int := if x = 0 ∨ y = 0 then e else fuZ K (-1) x y e
theorem prZ_sym (K : Nat) (x y : Int) : prZ K x y = prZ K y x := by
  unfold prZ
  rw [muZ_sym]
  by_cases c : x = 0 ∨ y = 0
  · rw [if_pos c, if_pos (by omega)]
  · rw [if_neg c, if_neg (by omega)]
theorem prZ_neg (K : Nat) (x y : Int) : prZ K (-x) y = prZ K x (-y) := by
  unfold prZ
  by_cases c : x = 0 ∨ y = 0
  · rw [if_pos (by omega), if_pos (by omega)]
  · rw [if_neg (by omega), if_neg (by omega), muZ_neg K _ _ _ (by omega) (by omega)]
theorem fmZ_sym (K : Nat) (e x y : Int) : fmZ K e x y = fmZ K e y x := by
  unfold fmZ
  rw [fuZ_sym]
  by_cases c : x = 0 ∨ y = 0
  · rw [if_pos c, if_pos (by omega)]
  · rw [if_neg c, if_neg (by omega)]
theorem fmZ_neg (K : Nat) (e x y : Int) : fmZ K e (-x) y = fmZ K e x (-y) := by
  unfold fmZ
  by_cases c : x = 0 ∨ y = 0
  · rw [if_pos (by omega), if_pos (by omega)]
  · rw [if_neg (by omega), if_neg (by omega), fuZ_neg K _ _ _ _ (by omega) (by omega)]
theorem prZ_bd (K : Nat) (x y : Int) : BdZ (prZ K x y) := by
  unfold prZ
  split
  · unfold BdZ; omega
  · exact muZ_bd _ _ _ _
theorem fmZ_bd (K : Nat) (e x y : Int) (he : BdZ e) : BdZ (fmZ K e x y) := by
  unfold fmZ
  split
  · exact he
  · exact fuZ_bd _ _ _ _ _
def lst (f : Int → Int → Int) (L1 H1 L2 H2 : Int) : Int := if L1 < 0 ∧ 0 < H1 ∧ L2 < 0 ∧ 0 < H2 then min (f H1 L2) (f L1 H2) else if L1 < 0 ∧ 0 < H2 then f L1 H2 else if 0 < H1 ∧ L2 < 0 then f H1 L2 else if H1 ≤ 0 ∧ H2 ≤ 0 then f H1 H2 else f L1 L2
theorem lst_bd (f : Int → Int → Int) (hf : ∀ x y, BdZ (f x y)) (L1 H1 L2 H2 : Int) : BdZ (lst f L1 H1 L2 H2) := by
  unfold lst
  repeat' split
  · exact bd_min _ _ (hf _ _) (hf _ _)
  all_goals exact hf _ _
theorem lst_sym (f : Int → Int → Int) (hs : ∀ x y, f x y = f y x) (L1 H1 L2 H2 : Int) (h1 : L1 ≤ H1) (h2 : L2 ≤ H2) : lst f L1 H1 L2 H2 = lst f L2 H2 L1 H1 := by
  unfold lst
  rw [hs H2 L1, hs L2 H1, hs H2 H1, hs L2 L1]
  repeat' split
  all_goals first | rfl | (exfalso; omega) | omega
theorem lst_turn (f : Int → Int → Int) (hs : ∀ x y, f x y = f y x) (hn : ∀ x y, f (-x) y = f x (-y)) (hz : ∀ x y, x = 0 ∨ y = 0 → f x y = f 0 0) (L1 H1 L2 H2 : Int) (h1 : L1 ≤ H1) (h2 : L2 ≤ H2) : lst f (-H1) (-L1) L2 H2 = lst f (-H2) (-L2) L1 H1 := by
  have e : ∀ x y, f (-x) y = f (-y) x := fun x y => by rw [hn x y, hs x (-y)]
  unfold lst
  rw [e H2 H1, e L2 L1, e L2 H1, e H2 L1]
  repeat' split
  all_goals first | rfl | (exfalso; omega) | omega | (rw [hz (-H1) L2 (by omega), hz (-L1) H2 (by omega)]) | (rw [hz (-L1) H2 (by omega), hz (-H1) L2 (by omega)])
theorem prZ_z (K : Nat) (x y : Int) (h : x = 0 ∨ y = 0) : prZ K x y = prZ K 0 0 := by
  unfold prZ
  rw [if_pos h, if_pos (Or.inl rfl)]
theorem fmZ_z (K : Nat) (e x y : Int) (h : x = 0 ∨ y = 0) : fmZ K e x y = fmZ K e 0 0 := by
  unfold fmZ
  rw [if_pos h, if_pos (Or.inl rfl)]
end Go.Proofs.YtkheefoabcibkaaGreatDoor
