import Derived.Test.YtjkbapnndoldgaaKEB
import Derived.Test.YtjkbapnndoldgaaKEH
import Derived.Test.YtjkbapnndoldgaaKES
import Derived.Test.YtjkbapnndoldgaaKXA0
namespace Go.Proofs.Ytjkbapnndoldgaa
open Go.RowKit
theorem min7_ (n n' : Bool) (m m' : Nat) (hm : m ≤ 9218868437227405312) (hm' : m' ≤ 9218868437227405312) (h1 : Fq.wD n m ≠ 9223372036854775808) (h2 : Fq.wD n' m' ≠ 9223372036854775808) (ts : Array TypeId) (t : TypeId) (w : World) : (Builtin.min_ ts t #[.float .f64 (Fq.wD n m), .float .f64 (Fq.wD n' m')]).run Try.prog w = .ok (.float .f64 (if Fq.plz n' m' < Fq.plz n m then Fq.wD n' m' else Fq.wD n m)) w := by
  have ho := Fq.ordD n n' m m' hm hm'
  rcases Int.lt_trichotomy (Fq.plz n m) (Fq.plz n' m') with g | g | g
  · rw [Fq.cmp_lt g] at ho
    rw [if_neg (by omega)]
    generalize Fq.wD n m = X at ho ⊢
    generalize Fq.wD n' m' = Y at ho ⊢
    simp [Builtin.min_, Builtin.min2, ho]
  · rw [Fq.cmp_eq g] at ho
    have e : Fq.wD n m = Fq.wD n' m' := by
      have z1 : n = true → m ≠ 0 := fun h z => h1 (by rw [h, z]; rfl)
      have z2 : n' = true → m' ≠ 0 := fun h z => h2 (by rw [h, z]; rfl)
      unfold Fq.wD
      unfold Fq.plz at g
      cases n <;> cases n' <;> simp at z1 z2 g ⊢ <;> omega
    rw [if_neg (by omega)]
    rw [← e] at ho ⊢
    generalize Fq.wD n m = X at ho ⊢
    simp [Builtin.min_, Builtin.min2, ho]
  · rw [Fq.cmp_gt g] at ho
    rw [if_pos (by omega)]
    generalize Fq.wD n m = X at ho ⊢
    generalize Fq.wD n' m' = Y at ho ⊢
    simp [Builtin.min_, Builtin.min2, ho]
theorem max7_ (n n' : Bool) (m m' : Nat) (hm : m ≤ 9218868437227405312) (hm' : m' ≤ 9218868437227405312) (h1 : Fq.wD n m ≠ 9223372036854775808) (h2 : Fq.wD n' m' ≠ 9223372036854775808) (ts : Array TypeId) (t : TypeId) (w : World) : (Builtin.max_ ts t #[.float .f64 (Fq.wD n m), .float .f64 (Fq.wD n' m')]).run Try.prog w = .ok (.float .f64 (if Fq.plz n' m' > Fq.plz n m then Fq.wD n' m' else Fq.wD n m)) w := by
  have ho := Fq.ordD n n' m m' hm hm'
  rcases Int.lt_trichotomy (Fq.plz n m) (Fq.plz n' m') with g | g | g
  · rw [Fq.cmp_lt g] at ho
    rw [if_pos (by omega)]
    generalize Fq.wD n m = X at ho ⊢
    generalize Fq.wD n' m' = Y at ho ⊢
    simp [Builtin.max_, Builtin.max2, ho]
  · rw [Fq.cmp_eq g] at ho
    have e : Fq.wD n m = Fq.wD n' m' := by
      have z1 : n = true → m ≠ 0 := fun h z => h1 (by rw [h, z]; rfl)
      have z2 : n' = true → m' ≠ 0 := fun h z => h2 (by rw [h, z]; rfl)
      unfold Fq.wD
      unfold Fq.plz at g
      cases n <;> cases n' <;> simp at z1 z2 g ⊢ <;> omega
    rw [if_neg (by omega)]
    rw [← e] at ho ⊢
    generalize Fq.wD n m = X at ho ⊢
    simp [Builtin.max_, Builtin.max2, ho]
  · rw [Fq.cmp_gt g] at ho
    rw [if_neg (by omega)]
    generalize Fq.wD n m = X at ho ⊢
    generalize Fq.wD n' m' = Y at ho ⊢
    simp [Builtin.max_, Builtin.max2, ho]
end Go.Proofs.Ytjkbapnndoldgaa
