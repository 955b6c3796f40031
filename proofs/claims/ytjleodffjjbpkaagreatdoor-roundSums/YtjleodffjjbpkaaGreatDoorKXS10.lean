import Derived.Test.YtjleodffjjbpkaaGreatDoorProg
import Derived.Test.YtjleodffjjbpkaaGreatDoorKXA0
import Derived.Test.YtjleodffjjbpkaaGreatDoorKXM
import Derived.Test.YtjleodffjjbpkaaGreatDoorKXY
import Derived.Test.YtjleodffjjbpkaaGreatDoorKXQF
import Derived.Test.YtjleodffjjbpkaaGreatDoorKQA
import Derived.Test.YtjleodffjjbpkaaGreatDoorKQP
import Derived.Test.YtjleodffjjbpkaaGreatDoorKXQU
import Derived.Test.YtjleodffjjbpkaaGreatDoorKQB
import Derived.Test.YtjleodffjjbpkaaGreatDoorKQBT
import Derived.Test.YtjleodffjjbpkaaGreatDoorKQJd
import Derived.Test.YtjleodffjjbpkaaGreatDoorKHB
import Derived.Test.YtjleodffjjbpkaaGreatDoorKLX
import Derived.Test.YtjleodffjjbpkaaGreatDoorKMR7Q
import Derived.Test.YtjleodffjjbpkaaGreatDoorKXG1
import Derived.Test.YtjleodffjjbpkaaGreatDoorKXH2Q
import Derived.Test.YtjleodffjjbpkaaGreatDoorKXMR
import Derived.Test.YtjleodffjjbpkaaGreatDoorKNSm
import Derived.Test.YtjleodffjjbpkaaGreatDoorKXT
import Derived.Test.YtjleodffjjbpkaaGreatDoorKRX
import Derived.Test.YtjleodffjjbpkaaGreatDoorKXRL
import Derived.Test.YtjleodffjjbpkaaGreatDoorKXCO
import Derived.Test.YtjleodffjjbpkaaGreatDoorKLN
import Derived.Test.YtjleodffjjbpkaaGreatDoorKXRN
import Derived.Test.YtjleodffjjbpkaaGreatDoorKW4
import Derived.Test.YtjleodffjjbpkaaGreatDoorKBY
import Derived.Test.YtjleodffjjbpkaaGreatDoorKBW
import Derived.Test.YtjleodffjjbpkaaGreatDoorKXTZ
import Derived.Test.YtjleodffjjbpkaaGreatDoorKXG4
import Derived.Test.YtjleodffjjbpkaaGreatDoorKXO3
import Derived.Test.YtjleodffjjbpkaaGreatDoorKS6
import Derived.Test.YtjleodffjjbpkaaGreatDoorKMR18
import Derived.Test.YtjleodffjjbpkaaGreatDoorKS3
import Derived.Test.YtjleodffjjbpkaaGreatDoorKS5
import Derived.Test.YtjleodffjjbpkaaGreatDoorKS7
import Derived.Test.YtjleodffjjbpkaaGreatDoorKXS8
import Derived.Test.YtjleodffjjbpkaaGreatDoorKXO
import Derived.WalkKit
import Derived.ProofKit
import Derived.RowKit3
import Derived.WalkSpells
import Derived.StillTactics
import Derived.Deep.QuietTactic
import Derived.BigQuiet
import Derived.Below
import Derived.Deep.OwnRows
import Derived.OwnWalk
import Derived.Laws.BitsAllLaws
import Derived.Laws.Slices
import Derived.Laws.Bits64b
import Derived.Laws.FloatArith
namespace Go.Proofs.YtjleodffjjbpkaaGreatDoor
open Go.RowKit
theorem iv_zero (n : Bool) : Iv n 0 = 0 := by unfold Iv; cases n <;> rfl
theorem ordfin (n : Bool) (R : Nat) (h : R ≤ 9218868437227405312) : (FloatKind.f64.format.order (Fq.wD n R) (Fq.wD n R) != some .eq) = false := by
  rw [Fq.ordD n n R R h h, Fq.cmp_eq rfl]; rfl
theorem ordnn (r : Nat) (h1 : 9218868437227405312 < r % 9223372036854775808) (h2 : r < 18446744073709551616) : (FloatKind.f64.format.order r r != some .eq) = true := by
  have e : r = Fq.wD (decide (9223372036854775808 ≤ r)) (r % 9223372036854775808) := by
    unfold Fq.wD
    by_cases c : 9223372036854775808 ≤ r
    · rw [decide_eq_true c, if_pos rfl]; omega
    · rw [decide_eq_false c, if_neg (by simp)]; omega
  have h3 := Fq.ordD_nanl (decide (9223372036854775808 ≤ r)) (r % 9223372036854775808) r h1 (Nat.mod_lt _ (by decide))
  rw [← e] at h3
  rw [h3]; rfl
theorem ordsum (d V : Int) : (FloatKind.f64.format.order (sumW d V) (sumW d V) != some .eq) = false := by
  unfold sumW
  by_cases c : V = 0
  · rw [if_pos c]; exact ordfin false 0 (by decide)
  · rw [if_neg c]; exact ordselfD _ _ (fin_leD _ _)
theorem badS_iff (n n' n2 : Bool) (m m' m2 : Nat) (hr : (m' = m2 ∧ (n' = n2 ∨ m' = 0)) ∨ (9218868437227405312 < m' ∧ 9218868437227405312 < m2)) : badS n m n' m' ↔ badS n m n2 m2 := by
  unfold badS
  rcases hr with ⟨rfl, rfl | h⟩ | ⟨h1, h2⟩
  · rfl
  · subst h
    constructor
    · rintro (h | h | h)
      · exact Or.inl h
      · exact Or.inr (Or.inl h)
      · exact absurd h.2.1 (by decide)
    · rintro (h | h | h)
      · exact Or.inl h
      · exact Or.inr (Or.inl h)
      · exact absurd h.2.1 (by decide)
  · exact ⟨fun _ => Or.inr (Or.inl h2), fun _ => Or.inr (Or.inl h1)⟩
theorem sum_both (d : Int) (n n' n2 : Bool) (m m' m2 : Nat) (hm : m < 9223372036854775808) (hm' : m' < 9223372036854775808) (hm2 : m2 < 9223372036854775808) (hd1 : -9223372036854775808 ≤ d) (hd2 : d < 9223372036854775808) (hr : (m' = m2 ∧ (n' = n2 ∨ m' = 0)) ∨ (9218868437227405312 < m' ∧ 9218868437227405312 < m2)) :
    ∃ Z : Nat, (∀ w : World, Tab w → Fq.Tab w → Calls Tryz.prog 5 #[.int .i64 d, .float .f64 (Fq.wD n m), .float .f64 (Fq.wD n' m')] w fun e w' => ∃ R, e = .returned (.float .f64 R) ∧ (∀ w1 : World, Calls Tryz.prog 4 #[.float .f64 R] w1 fun e w' => e = .returned (.int .u64 (Z : Int)) ∧ w' = w1) ∧ Kp w w') ∧ (∀ w : World, Calls Tryz.prog 7 #[.int .i64 d, .int .u64 ((Fq.wD n m : Nat) : Int), .int .u64 ((Fq.wD n2 m2 : Nat) : Int)] w fun e w' => e = .returned (.int .u64 (Z : Int)) ∧ Kp w w') := by
  by_cases hi : m < 9218868437227405312 ∧ m' < 9218868437227405312
  · obtain ⟨c1, c2⟩ := hi
    have hr' := hr.resolve_right (fun h => by omega)
    have ev : Iv n' m' = Iv n2 m2 := by
      rcases hr'.2 with h | h
      · rw [h, hr'.1]
      · rw [← hr'.1, h, iv_zero, iv_zero]
    refine ⟨sumW d (Iv n m + Iv n' m'), fun w hT hQ => ?_, fun w => ?_⟩
    · refine (paddF_ d n n' m m' c1 c2 w hT hQ hd1 hd2).mono fun e w' h => ?_
      exact ⟨_, h.1, fun w1 => bitsN_ _ (ordsum _ _) w1, h.2⟩
    · rw [ev]; exact rsumF_ d n n2 m m2 c1 (by omega) w
  · have hi2 : ¬ (m < 9218868437227405312 ∧ m2 < 9218868437227405312) := by
      rcases hr with h | h
      · rw [← h.1]; exact hi
      · omega
    by_cases hb : badS n m n' m'
    · have hb2 := (badS_iff n n' n2 m m' m2 hr).1 hb
      refine ⟨9221120237041090561, fun w hT hQ => ?_, fun w => (raddX_ d n n2 m m2 hm hm2 hi2 w).1 hb2⟩
      refine (paddB_ d n n' m m' hm hm' hi hb w).mono fun e w' h => ?_
      obtain ⟨R, h1, h2, h3⟩ := h
      exact ⟨R, h1, fun w1 => bitsNaN_ _ (ordnn R h2.1 h2.2) w1, h3⟩
    · have hb2 : ¬ badS n m n2 m2 := fun h => hb ((badS_iff n n' n2 m m' m2 hr).2 h)
      have es : (if m = 9218868437227405312 then n else n') = (if m = 9218868437227405312 then n else n2) := by
        by_cases c : m = 9218868437227405312
        · rw [if_pos c, if_pos c]
        · rw [if_neg c, if_neg c]
          have hn : ¬ 9218868437227405312 < m := fun h => hb (Or.inl h)
          have hn' : ¬ 9218868437227405312 < m' := fun h => hb (Or.inr (Or.inl h))
          have hr' := hr.resolve_right (fun h => by omega)
          exact hr'.2.resolve_right (fun h => by omega)
      refine ⟨Fq.wD (if m = 9218868437227405312 then n else n') 9218868437227405312, fun w hT hQ => ?_, fun w => ?_⟩
      · refine (paddI_ d n n' m m' hm hm' hi hb w).mono fun e w' h => ?_
        exact ⟨_, h.1, fun w1 => bitsN_ _ (ordfin _ _ (Nat.le_refl _)) w1, h.2⟩
      · rw [es]; exact (raddX_ d n n2 m m2 hm hm2 hi2 w).2 hb2
theorem flipN (n : Bool) (m : Nat) (hm : m < 9223372036854775808) : Fq.wD n m ^^^ 9223372036854775808 = Fq.wD (!n) m := by
  obtain ⟨x, hx⟩ : ∃ x, x = Fq.wD n m := ⟨_, rfl⟩
  have h1 : (x ^^^ 9223372036854775808) % 2 ^ 63 = x % 2 ^ 63 := by
    rw [Nat.xor_mod_two_pow, show (9223372036854775808 : Nat) % 2 ^ 63 = 0 from by decide, Nat.xor_zero]
  have h2 : (x ^^^ 9223372036854775808) / 2 ^ 63 = x / 2 ^ 63 ^^^ 1 := by
    rw [← Nat.shiftRight_eq_div_pow, ← Nat.shiftRight_eq_div_pow, Nat.shiftRight_xor_distrib, show (9223372036854775808 : Nat) >>> 63 = 1 from by decide]
  rw [show (2 : Nat) ^ 63 = 9223372036854775808 from by decide] at h1 h2
  rw [← hx]
  generalize hz : x ^^^ 9223372036854775808 = z at h1 h2 ⊢
  clear hz
  cases n
  · have e : x = m := by rw [hx]; unfold Fq.wD; simp
    rw [e, Nat.div_eq_of_lt hm, show (0 : Nat) ^^^ 1 = 1 from by decide] at h2
    rw [e, Nat.mod_eq_of_lt hm] at h1
    unfold Fq.wD
    simp
    omega
  · have e : x = 9223372036854775808 + m := by rw [hx]; unfold Fq.wD; simp
    have e2 : x / 9223372036854775808 = 1 := by omega
    have e3 : x % 9223372036854775808 = m := by omega
    rw [e2, show (1 : Nat) ^^^ 1 = 0 from by decide] at h2
    rw [e3] at h1
    unfold Fq.wD
    simp
    omega
theorem wD_lt (n : Bool) (m : Nat) (hm : m < 9223372036854775808) : Fq.wD n m < 18446744073709551616 := by
  unfold Fq.wD; split <;> omega
theorem flipI (n : Bool) (m : Nat) (hm : m < 9223372036854775808) : bits BinOp.xor IntKind.u64 ((Fq.wD n m : Nat) : Int) 9223372036854775808 = ((Fq.wD (!n) m : Nat) : Int) := by
  have h := u64_xor_nat (Fq.wD n m) 9223372036854775808 (wD_lt n m hm) (by decide)
  rw [flipN n m hm] at h
  exact h
/-- what Plain answers of a sign and a rung -/
def plN (n : Bool) (m : Nat) : Bool := if m = 0 then false else if 9218868437227405312 < m then false else n
def plM (m : Nat) : Nat := if 9218868437227405312 < m then 9221120237041090561 else m
theorem plain3_ (n : Bool) (m : Nat) (hm : m < 9223372036854775808) (w : World) : Calls Tryz.prog 44 #[.int .u64 ((Fq.wD n m : Nat) : Int)] w fun e w' => e = .returned (.int .u64 ((Fq.wD (plN n m) (plM m) : Nat) : Int)) ∧ w' = w := by
  have i1 := isnan_ n m hm w
  by_cases c0 : n = true ∧ m = 0
  · obtain ⟨rfl, rfl⟩ := c0
    have e : ((Fq.wD true 0 : Nat) : Int) = 9223372036854775808 := by unfold Fq.wD; rfl
    have e2 : ((Fq.wD (plN true 0) (plM 0) : Nat) : Int) = 0 := by unfold Fq.wD plN plM; rfl
    rw [e, e2]
    clear i1 e e2
    go_enter Tryz.func44, Tryz.ntmps44
    go_wp2
    exact bodyPost_ret (v := .int .u64 0) (by simp [results, Tryz.results44, go_sem]) rfl ⟨rfl, rfl⟩
  · have hne : (((Fq.wD n m : Nat) : Int) == 9223372036854775808) = false := by
      have : Fq.wD n m ≠ 9223372036854775808 := by
        unfold Fq.wD
        cases n
        · simp; omega
        · simp at c0 ⊢; omega
      simp; omega
    obtain ⟨X, hX⟩ : ∃ X, X = Fq.wD n m := ⟨_, rfl⟩
    rw [← hX] at i1 hne ⊢
    by_cases c : 9218868437227405312 < m
    · rw [decide_eq_true c] at i1
      have e2 : ((Fq.wD (plN n m) (plM m) : Nat) : Int) = 9221120237041090561 := by
        unfold plN plM; rw [if_pos c, if_neg (by omega), if_pos c]; unfold Fq.wD; rfl
      rw [e2]
      clear e2 c hX c0 hm
      go_enter Tryz.func44, Tryz.ntmps44
      go_wp2_with fail
      refine i1.mono ?_; rintro e w' ⟨rfl, hw'⟩; obtain rfl := hw'.symm; clear hw' i1
      go_wp2
      exact bodyPost_ret (v := .int .u64 9221120237041090561) (by simp [results, Tryz.results44, go_sem]) rfl ⟨rfl, rfl⟩
    · rw [decide_eq_false c] at i1
      have e2 : Fq.wD (plN n m) (plM m) = X := by
        rw [hX]
        unfold plN plM; rw [if_neg c, if_neg c]
        by_cases z : m = 0
        · have hn : n = false := by cases n <;> simp_all
          rw [if_pos z, hn]
        · rw [if_neg z]
      rw [e2]
      clear e2 c hX c0 hm
      go_enter Tryz.func44, Tryz.ntmps44
      go_wp2_with fail
      refine i1.mono ?_; rintro e w' ⟨rfl, hw'⟩; obtain rfl := hw'.symm; clear hw' i1
      go_wp2
      exact bodyPost_ret (v := .int .u64 (X : Int)) (by simp [results, Tryz.results44, go_sem]) rfl ⟨rfl, rfl⟩
theorem turn_ (n : Bool) (m : Nat) (hm : m < 9223372036854775808) (w : World) : Calls Tryz.prog 24 #[.int .u64 ((Fq.wD n m : Nat) : Int)] w fun e w' => e = .returned (.int .u64 ((Fq.wD (plN (!n) m) (plM m) : Nat) : Int)) ∧ w' = w := by
  have hf := flipI n m hm
  have hp := plain3_ (!n) m hm w
  obtain ⟨X, hX⟩ : ∃ X, X = Fq.wD n m := ⟨_, rfl⟩
  obtain ⟨Y, hY⟩ : ∃ Y, Y = Fq.wD (!n) m := ⟨_, rfl⟩
  obtain ⟨Z, hZ⟩ : ∃ Z, Z = Fq.wD (plN (!n) m) (plM m) := ⟨_, rfl⟩
  rw [← hX, ← hY] at hf
  rw [← hY, ← hZ] at hp
  rw [← hX, ← hZ]
  clear hX hY hZ hm
  go_enter Tryz.func24, Tryz.ntmps24
  go_wp2_with fail
  refine hp.mono ?_; rintro e w' ⟨rfl, hw'⟩; obtain rfl := hw'.symm; clear hw' hp
  go_wp2
  exact bodyPost_ret (v := .int .u64 (Z : Int)) (by simp [results, Tryz.results24, go_sem]) rfl ⟨rfl, rfl⟩
theorem pl_rel (n : Bool) (m : Nat) : (m = plM m ∧ (n = plN n m ∨ m = 0)) ∨ (9218868437227405312 < m ∧ 9218868437227405312 < plM m) := by
  unfold plN plM
  by_cases c : 9218868437227405312 < m
  · right; rw [if_pos c]; exact ⟨c, by decide⟩
  · left
    rw [if_neg c, if_neg c]
    refine ⟨rfl, ?_⟩
    by_cases z : m = 0
    · exact Or.inr z
    · left; rw [if_neg z]
theorem plM_lt (m : Nat) (h : m < 9223372036854775808) : plM m < 9223372036854775808 := by
  unfold plM; split <;> omega
theorem negW (n : Bool) (m : Nat) (hm : m < 9223372036854775808) (w : World) : (Op.unary .neg (.float .f64 (Fq.wD n m))).run Tryz.prog w = .ok (.float .f64 (Fq.wD (!n) m)) w := by
  have h : Op.negFloat .f64 (Fq.wD n m) = Fq.wD (!n) m := by
    unfold Op.negFloat
    exact flipN n m hm
  rw [← h]; rfl
theorem sub_both (d : Int) (n n' : Bool) (m m' : Nat) (hm : m < 9223372036854775808) (hm' : m' < 9223372036854775808) (hd1 : -9223372036854775808 ≤ d) (hd2 : d < 9223372036854775808) :
    ∃ Z : Nat, (∀ w : World, Tab w → Fq.Tab w → Calls Tryz.prog 8 #[.int .i64 d, .float .f64 (Fq.wD n m), .float .f64 (Fq.wD n' m')] w fun e w' => ∃ R, e = .returned (.float .f64 R) ∧ (∀ w1 : World, Calls Tryz.prog 4 #[.float .f64 R] w1 fun e w' => e = .returned (.int .u64 (Z : Int)) ∧ w' = w1) ∧ Kp w w') ∧ (∀ w : World, Calls Tryz.prog 9 #[.int .i64 d, .int .u64 ((Fq.wD n m : Nat) : Int), .int .u64 ((Fq.wD n' m' : Nat) : Int)] w fun e w' => e = .returned (.int .u64 (Z : Int)) ∧ Kp w w') := by
  obtain ⟨Z, hp, hq⟩ := sum_both d n (!n') (plN (!n') m') m m' (plM m') hm hm' (plM_lt m' hm') hd1 hd2 (pl_rel (!n') m')
  refine ⟨Z, fun w hT hQ => ?_, fun w => ?_⟩
  · have h1 := hp w hT hQ
    have h2 := negW n' m' hm' w
    obtain ⟨X, hX⟩ : ∃ X, X = Fq.wD n m := ⟨_, rfl⟩
    obtain ⟨Y, hY⟩ : ∃ Y, Y = Fq.wD n' m' := ⟨_, rfl⟩
    obtain ⟨V, hV⟩ : ∃ V, V = Fq.wD (!n') m' := ⟨_, rfl⟩
    rw [← hX, ← hV] at h1
    rw [← hV, ← hY] at h2
    rw [← hX, ← hY]
    clear hX hY hV hp hq hm hm' hd1 hd2 hT hQ
    go_enter Tryz.func8, Tryz.ntmps8
    go_wp2_with fail
    refine h1.mono ?_; rintro e w' ⟨R, rfl, hb, hk⟩; clear h1
    have HB : Hid (∀ w1 : World, Calls Tryz.prog 4 #[.float .f64 R] w1 fun e w' => e = .returned (.int .u64 (Z : Int)) ∧ w' = w1) := hb
    clear hb
    go_wp2
    exact bodyPost_ret (v := .float .f64 R) (by simp [results, Tryz.results8, go_sem]) rfl ⟨R, rfl, HB.out, hk⟩
  · have h1 := hq w
    have h2 := turn_ n' m' hm' w
    obtain ⟨X, hX⟩ : ∃ X, X = Fq.wD n m := ⟨_, rfl⟩
    obtain ⟨Y, hY⟩ : ∃ Y, Y = Fq.wD n' m' := ⟨_, rfl⟩
    obtain ⟨V, hV⟩ : ∃ V, V = Fq.wD (plN (!n') m') (plM m') := ⟨_, rfl⟩
    rw [← hX, ← hV] at h1
    rw [← hV, ← hY] at h2
    rw [← hX, ← hY]
    clear hX hY hV hp hq hm hm' hd1 hd2
    go_enter Tryz.func9, Tryz.ntmps9
    go_wp2_with fail
    refine h2.mono ?_; rintro e w' ⟨rfl, hw'⟩; obtain rfl := hw'.symm; clear hw' h2
    go_wp2_with fail
    refine h1.mono ?_; rintro e w' ⟨rfl, hk⟩; clear h1
    go_wp2
    exact bodyPost_ret (v := .int .u64 (Z : Int)) (by simp [results, Tryz.results9, go_sem]) rfl ⟨rfl, hk⟩
set_option maxRecDepth 20000 in
set_option maxHeartbeats 1000000 in
theorem sums_ (d : Int) (X Y : Nat) (w : World) (hT : Tab w) (hQ : Fq.Tab w) (hd1 : -9223372036854775808 ≤ d) (hd2 : d < 9223372036854775808) (hX : X < 18446744073709551616) (hY : Y < 18446744073709551616) :
    Calls Tryz.prog 3 #[.int .i64 d, .int .u64 (X : Int), .int .u64 (Y : Int)] w fun e w' => e = .returned (.bool true) ∧ Kp w w' := by
  have hs : ∀ X : Nat, X < 18446744073709551616 → ∃ n m, m < 9223372036854775808 ∧ X = Fq.wD n m := fun X hX => by
    by_cases c : 9223372036854775808 ≤ X
    · exact ⟨true, X - 9223372036854775808, by omega, by unfold Fq.wD; rw [if_pos rfl]; omega⟩
    · exact ⟨false, X, by omega, by unfold Fq.wD; rfl⟩
  obtain ⟨n, m, hm, eX⟩ := hs X hX
  obtain ⟨n', m', hm', eY⟩ := hs Y hY
  obtain ⟨Z1, p1, q1⟩ := sum_both d n n' n' m m' m' hm hm' hm' hd1 hd2 (Or.inl ⟨rfl, Or.inl rfl⟩)
  obtain ⟨Z2, p2, q2⟩ := sub_both d n n' m m' hm hm' hd1 hd2
  rw [← eX, ← eY] at p1 q1 p2 q2
  have f1 := fl_ X
  have f2 := fl_ Y
  have kk := Kp.refl w
  clear hs eX eY hm hm' hX hY hd1 hd2
  go_enter Tryz.func3, Tryz.ntmps3
  go_wp2_with fail
  refine (f1 _).mono ?_; rintro e w' ⟨rfl, hw'⟩; obtain rfl := hw'.symm; clear hw'
  go_wp2_with fail
  refine (f2 _).mono ?_; rintro e w' ⟨rfl, hw'⟩; obtain rfl := hw'.symm; clear hw'
  have hc := p1 _ hT hQ
  go_wp2_with fail
  refine hc.mono ?_; rintro e w1 ⟨R1, rfl, hb1, k1⟩; clear hc
  replace hT := hT.grown k1
  replace hQ := hQ.grown k1
  replace kk := kk.trans k1
  clear k1
  go_wp2_with fail
  refine (hb1 _).mono ?_; rintro e w' ⟨rfl, hw'⟩; obtain rfl := hw'.symm; clear hw' hb1
  have hc := q1 w1
  go_wp2_with fail
  refine hc.mono ?_; rintro e w2 ⟨rfl, k2⟩; clear hc
  replace hT := hT.grown k2
  replace hQ := hQ.grown k2
  replace kk := kk.trans k2
  clear k2
  go_wp2_with fail
  refine (f1 _).mono ?_; rintro e w' ⟨rfl, hw'⟩; obtain rfl := hw'.symm; clear hw'
  go_wp2_with fail
  refine (f2 _).mono ?_; rintro e w' ⟨rfl, hw'⟩; obtain rfl := hw'.symm; clear hw'
  have hc := p2 _ hT hQ
  go_wp2_with fail
  refine hc.mono ?_; rintro e w3 ⟨R3, rfl, hb3, k3⟩; clear hc
  replace hT := hT.grown k3
  replace hQ := hQ.grown k3
  replace kk := kk.trans k3
  clear k3
  go_wp2_with fail
  refine (hb3 _).mono ?_; rintro e w' ⟨rfl, hw'⟩; obtain rfl := hw'.symm; clear hw' hb3
  have hc := q2 w3
  go_wp2_with fail
  refine hc.mono ?_; rintro e w4 ⟨rfl, k4⟩; clear hc
  replace hT := hT.grown k4
  replace hQ := hQ.grown k4
  replace kk := kk.trans k4
  clear k4
  clear f1 f2 p1 q1 p2 q2
  go_wp2
  exact bodyPost_ret (v := .bool true) (by simp [results, Tryz.results3, go_sem]) rfl ⟨rfl, kk⟩
end Go.Proofs.YtjleodffjjbpkaaGreatDoor
