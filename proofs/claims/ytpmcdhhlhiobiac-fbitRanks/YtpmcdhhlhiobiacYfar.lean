import Derived.Test.YtpmcdhhlhiobiacProg
import Derived.Test.YtpmcdhhlhiobiacM
import Derived.Test.YtpmcdhhlhiobiacM2
import Derived.Test.YtpmcdhhlhiobiacM4
import Derived.Test.YtpmcdhhlhiobiacA
import Derived.Test.YtpmcdhhlhiobiacP
import Derived.WalkKit
import Derived.ProofKit
import Derived.RowKit3
import Derived.Deep.RegionHeld3
import Derived.WalkSpells
import Derived.StillTactics
import Derived.Laws.FloatArith
import Derived.Deep.QuietTactic
import Derived.BigQuiet
namespace Go.Proofs.Ytpmcdhhlhiobiac
open Go.RowKit
set_option maxRecDepth 20000 in
set_option maxHeartbeats 8000000 in
theorem ranked_far (n n' n2 : Bool) (m m' m2 : Nat) (h1 : m < 9223372036854775808) (h2 : m' < 9223372036854775808) (h3 : m2 < 9223372036854775808) (w : World) : Calls Try.prog 31 #[.float .f64 (wD n m), .float .f64 (wD n' m'), .float .f64 (wD n2 m2)] w fun e w' => e = .returned (.bool true) ∧ Grown w w' := by
  have o1 := order_far n n' m m' h1 h2
  have o2 := order_far n' n2 m' m2 h2 h3
  have o3 := order_far n n2 m m2 h1 h3
  have o4 := order_far n' n m' m h2 h1
  have o5 := order_far n n m m h1 h1
  rw [cmpz_self] at o5
  have k1 := rkfD n n' m m' h1 h2
  have k2 := rkfD n' n m' m h2 h1
  have hXX : (9218868437227405312 < m → FloatKind.f64.format.order (wD n m) (wD n m) = none) ∧ (m ≤ 9218868437227405312 → FloatKind.f64.format.order (wD n m) (wD n m) = some .eq) :=
    ⟨fun c => ordD_nanl n m _ c h1, fun c => by rw [ordD n n m m c c, cmp_eq rfl]⟩
  have hYY : (9218868437227405312 < m' → FloatKind.f64.format.order (wD n' m') (wD n' m') = none) ∧ (m' ≤ 9218868437227405312 → FloatKind.f64.format.order (wD n' m') (wD n' m') = some .eq) :=
    ⟨fun c => ordD_nanl n' m' _ c h2, fun c => by rw [ordD n' n' m' m' c c, cmp_eq rfl]⟩
  have hXY1 : 9218868437227405312 < m → FloatKind.f64.format.order (wD n m) (wD n' m') = none := fun c => ordD_nanl n m _ c h1
  have hXY2 : 9218868437227405312 < m' → FloatKind.f64.format.order (wD n m) (wD n' m') = none := fun c => ordD_nanr n' m' _ c h2
  have hXY : m ≤ 9218868437227405312 → m' ≤ 9218868437227405312 → FloatKind.f64.format.order (wD n m) (wD n' m') = some (compare (plz n m) (plz n' m')) := ordD n n' m m'
  have hz := eqzD n m h1
  obtain ⟨P, hP⟩ : ∃ P : Int, P = plz n m := ⟨_, rfl⟩
  obtain ⟨Q, hQ⟩ : ∃ Q : Int, Q = plz n' m' := ⟨_, rfl⟩
  have mz : P = Q → m = 0 → (m' = 0 ∨ 9218868437227405312 < m') := by
    intro d1 d2; rw [hP, hQ] at d1; unfold plz at d1; subst d2; cases n <;> cases n' <;> simp at d1 <;> omega
  rw [← hP, ← hQ] at k1 k2 hXY
  obtain ⟨RX, hRX⟩ : ∃ r : Int, r = rkD n m := ⟨_, rfl⟩
  obtain ⟨RY, hRY⟩ : ∃ r : Int, r = rkD n' m' := ⟨_, rfl⟩
  obtain ⟨RZ, hRZ⟩ : ∃ r : Int, r = rkD n2 m2 := ⟨_, rfl⟩
  rw [← hRX, ← hRY] at o1 o4 k1 k2
  rw [← hRY, ← hRZ] at o2
  rw [← hRX, ← hRZ] at o3
  obtain ⟨X, hX⟩ : ∃ x : Nat, x = wD n m := ⟨_, rfl⟩
  obtain ⟨Y, hY⟩ : ∃ x : Nat, x = wD n' m' := ⟨_, rfl⟩
  obtain ⟨Z, hZ⟩ : ∃ x : Nat, x = wD n2 m2 := ⟨_, rfl⟩
  rw [← hX] at o1 o3 o4 o5 hXX hXY1 hXY2 hXY hz ⊢
  rw [← hY] at o1 o2 o4 hYY hXY1 hXY2 hXY ⊢
  rw [← hZ] at o2 o3 ⊢
  -- what the floats say
  have fl : (RX < RY ∧ ((FloatKind.f64.format.order X X = some .eq ∧ FloatKind.f64.format.order Y Y = none ∧ FloatKind.f64.format.order X Y = none) ∨ (FloatKind.f64.format.order X X = some .eq ∧ FloatKind.f64.format.order Y Y = some .eq ∧ FloatKind.f64.format.order X Y = some .lt) ∨ (FloatKind.f64.format.order X X = some .eq ∧ FloatKind.f64.format.order Y Y = some .eq ∧ FloatKind.f64.format.order X Y = some .eq ∧ (FloatKind.f64.format.order X 0 == some .eq) = true))) ∨
      (RX = RY ∧ ((FloatKind.f64.format.order X X = none ∧ FloatKind.f64.format.order Y Y = none ∧ FloatKind.f64.format.order X Y = none) ∨ (FloatKind.f64.format.order X X = some .eq ∧ FloatKind.f64.format.order Y Y = some .eq ∧ FloatKind.f64.format.order X Y = some .eq))) ∨
      (RY < RX ∧ ((FloatKind.f64.format.order X X = none ∧ FloatKind.f64.format.order Y Y = some .eq ∧ FloatKind.f64.format.order X Y = none) ∨ (FloatKind.f64.format.order X X = some .eq ∧ FloatKind.f64.format.order Y Y = some .eq ∧ FloatKind.f64.format.order X Y = some .gt) ∨ (FloatKind.f64.format.order X X = some .eq ∧ FloatKind.f64.format.order Y Y = some .eq ∧ FloatKind.f64.format.order X Y = some .eq ∧ (FloatKind.f64.format.order X 0 == some .eq) = true))) := by
    rcases (by omega : RX < RY ∨ RX = RY ∨ RY < RX) with c | c | c
    · left; refine ⟨c, ?_⟩
      obtain ⟨a1, a2⟩ := k1.1 c
      rcases a2 with a2 | ⟨a2, a3⟩ | ⟨a2, a3, a4⟩
      · left; exact ⟨hXX.2 a1, hYY.1 a2, hXY2 a2⟩
      · right; left; exact ⟨hXX.2 a1, hYY.2 a2, by rw [hXY a1 a2, cmp_lt a3]⟩
      · right; right; exact ⟨hXX.2 a1, hYY.2 a2, by rw [hXY a1 a2, cmp_eq a3], by rw [hz, a4]; rfl⟩
    · right; left; refine ⟨c, ?_⟩
      rcases k1.2 c with ⟨a1, a2⟩ | ⟨a1, a2, a3⟩
      · left; exact ⟨hXX.1 a1, hYY.1 a2, hXY2 a2⟩
      · right; exact ⟨hXX.2 a1, hYY.2 a2, by rw [hXY a1 a2, cmp_eq a3]⟩
    · right; right; refine ⟨c, ?_⟩
      obtain ⟨a1, a2⟩ := k2.1 c
      rcases a2 with a2 | ⟨a2, a3⟩ | ⟨a2, a3, a4⟩
      · left; exact ⟨hXX.1 a2, hYY.2 a1, hXY1 a2⟩
      · right; left; exact ⟨hXX.2 a2, hYY.2 a1, by rw [hXY a2 a1, cmp_gt a3]⟩
      · right; right
        have m0 : m = 0 := by rw [hP, hQ] at a3; unfold plz at a3; subst a4; cases n <;> cases n' <;> simp at a3 <;> omega
        exact ⟨hXX.2 a2, hYY.2 a1, by rw [hXY a2 a1, cmp_eq a3.symm], by rw [hz, m0]; rfl⟩
  obtain ⟨b, hb⟩ : ∃ b : Bool, (FloatKind.f64.format.order X 0 == some .eq) = b := ⟨_, rfl⟩
  clear k1 k2 hXX hYY hXY1 hXY2 hXY hz mz hP hQ hRX hRY hRZ hX hY hZ h1 h2 h3
  -- what the ranks say
  have rk : (RX < RY → (cmpz RX RY = -1 ∧ cmpz RY RX = 1) ∧ ((cmpz RY RZ = -1 ∧ cmpz RX RZ = -1) ∨ (cmpz RY RZ = 0 ∧ cmpz RX RZ = -1) ∨ (cmpz RY RZ = 1 ∧ cmpz RX RZ = -1) ∨ (cmpz RY RZ = 1 ∧ cmpz RX RZ = 0) ∨ (cmpz RY RZ = 1 ∧ cmpz RX RZ = 1))) ∧
      (RX = RY → (cmpz RX RY = 0 ∧ cmpz RY RX = 0) ∧ ((cmpz RY RZ = -1 ∧ cmpz RX RZ = -1) ∨ (cmpz RY RZ = 0 ∧ cmpz RX RZ = 0) ∨ (cmpz RY RZ = 1 ∧ cmpz RX RZ = 1))) ∧
      (RY < RX → (cmpz RX RY = 1 ∧ cmpz RY RX = -1) ∧ ((cmpz RY RZ = 1 ∧ cmpz RX RZ = 1) ∨ (cmpz RY RZ = 0 ∧ cmpz RX RZ = 1) ∨ (cmpz RY RZ = -1 ∧ cmpz RX RZ = -1) ∨ (cmpz RY RZ = -1 ∧ cmpz RX RZ = 0) ∨ (cmpz RY RZ = -1 ∧ cmpz RX RZ = 1))) := by
    refine ⟨fun c => ⟨⟨cmpz_lt c, cmpz_gt c⟩, ?_⟩, fun c => ?_, fun c => ⟨⟨cmpz_gt c, cmpz_lt c⟩, ?_⟩⟩
    · unfold cmpz; (repeat' split) <;> omega
    · subst c; exact ⟨⟨cmpz_self _, cmpz_self _⟩, by unfold cmpz; (repeat' split) <;> omega⟩
    · unfold cmpz; (repeat' split) <;> omega
  obtain ⟨rm, r0, rp⟩ := rk
  obtain ⟨r1, hr1⟩ : ∃ r : Int, r = cmpz RX RY := ⟨_, rfl⟩
  obtain ⟨r2, hr2⟩ : ∃ r : Int, r = cmpz RY RZ := ⟨_, rfl⟩
  obtain ⟨r3, hr3⟩ : ∃ r : Int, r = cmpz RX RZ := ⟨_, rfl⟩
  obtain ⟨r4, hr4⟩ : ∃ r : Int, r = cmpz RY RX := ⟨_, rfl⟩
  rw [← hr1] at o1
  rw [← hr2] at o2
  rw [← hr3] at o3
  rw [← hr4] at o4
  rw [← hr1, ← hr2, ← hr3, ← hr4] at rm r0 rp
  clear hr1 hr2 hr3 hr4
  rcases fl with ⟨c, fl⟩ | ⟨c, fl⟩ | ⟨c, fl⟩
  · obtain ⟨⟨rfl, rfl⟩, rr⟩ := rm c
    clear rm r0 rp c
    rcases rr with ⟨rfl, rfl⟩ | ⟨rfl, rfl⟩ | ⟨rfl, rfl⟩ | ⟨rfl, rfl⟩ | ⟨rfl, rfl⟩
    all_goals
      rcases fl with ⟨f1, f2, f3⟩ | ⟨f1, f2, f3⟩ | ⟨f1, f2, f3, f4⟩
    all_goals
      first | (rw [f4] at hb; subst hb) | skip
      go_enter Try.func31, Try.ntmps31
      go_wp2_with fail
      refine (o1 _).mono ?_; rintro e w1 ⟨rfl, g1⟩
      go_wp2_with fail
      refine (o2 _).mono ?_; rintro e w2 ⟨rfl, g2⟩
      go_wp2_with fail
      refine (o3 _).mono ?_; rintro e w3 ⟨rfl, g3⟩
      go_wp2_with fail
      refine (o4 _).mono ?_; rintro e w4 ⟨rfl, g4⟩
      go_wp2_with fail
      refine (o5 _).mono ?_; rintro e w5 ⟨rfl, g5⟩
      go_wp2
      exact bodyPost_ret (v := .bool true) (by simp [results, Try.results31, go_sem] <;> simp only [*]) rfl ⟨rfl, (by repeat (with_reducible (first | assumption | exact Grown.refl _ | apply Grown.drew | apply Grown.alloc | apply gdrewN | (refine gtrans ?_ (by assumption)))))⟩
  · obtain ⟨⟨rfl, rfl⟩, rr⟩ := r0 c
    clear rm r0 rp c
    cases b
    all_goals
      rcases rr with ⟨rfl, rfl⟩ | ⟨rfl, rfl⟩ | ⟨rfl, rfl⟩
    all_goals
      rcases fl with ⟨f1, f2, f3⟩ | ⟨f1, f2, f3⟩
    all_goals
      go_enter Try.func31, Try.ntmps31
      go_wp2_with fail
      refine (o1 _).mono ?_; rintro e w1 ⟨rfl, g1⟩
      go_wp2_with fail
      refine (o2 _).mono ?_; rintro e w2 ⟨rfl, g2⟩
      go_wp2_with fail
      refine (o3 _).mono ?_; rintro e w3 ⟨rfl, g3⟩
      go_wp2_with fail
      refine (o4 _).mono ?_; rintro e w4 ⟨rfl, g4⟩
      go_wp2_with fail
      refine (o5 _).mono ?_; rintro e w5 ⟨rfl, g5⟩
      go_wp2
      exact bodyPost_ret (v := .bool true) (by simp [results, Try.results31, go_sem] <;> simp only [*]) rfl ⟨rfl, (by repeat (with_reducible (first | assumption | exact Grown.refl _ | apply Grown.drew | apply Grown.alloc | apply gdrewN | (refine gtrans ?_ (by assumption)))))⟩
  · obtain ⟨⟨rfl, rfl⟩, rr⟩ := rp c
    clear rm r0 rp c
    rcases rr with ⟨rfl, rfl⟩ | ⟨rfl, rfl⟩ | ⟨rfl, rfl⟩ | ⟨rfl, rfl⟩ | ⟨rfl, rfl⟩
    all_goals
      rcases fl with ⟨f1, f2, f3⟩ | ⟨f1, f2, f3⟩ | ⟨f1, f2, f3, f4⟩
    all_goals
      first | (rw [f4] at hb; subst hb) | skip
      go_enter Try.func31, Try.ntmps31
      go_wp2_with fail
      refine (o1 _).mono ?_; rintro e w1 ⟨rfl, g1⟩
      go_wp2_with fail
      refine (o2 _).mono ?_; rintro e w2 ⟨rfl, g2⟩
      go_wp2_with fail
      refine (o3 _).mono ?_; rintro e w3 ⟨rfl, g3⟩
      go_wp2_with fail
      refine (o4 _).mono ?_; rintro e w4 ⟨rfl, g4⟩
      go_wp2_with fail
      refine (o5 _).mono ?_; rintro e w5 ⟨rfl, g5⟩
      go_wp2
      exact bodyPost_ret (v := .bool true) (by simp [results, Try.results31, go_sem] <;> simp only [*]) rfl ⟨rfl, (by repeat (with_reducible (first | assumption | exact Grown.refl _ | apply Grown.drew | apply Grown.alloc | apply gdrewN | (refine gtrans ?_ (by assumption)))))⟩

end Go.Proofs.Ytpmcdhhlhiobiac
