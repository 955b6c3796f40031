import Derived.Test.YtpmcdhhlhiobiacProg
import Derived.Test.YtpmcdhhlhiobiacM
import Derived.Test.YtpmcdhhlhiobiacM2
import Derived.Test.YtpmcdhhlhiobiacA
import Derived.Test.YtpmcdhhlhiobiacP
import Derived.WalkKit
import Derived.ProofKit
import Derived.RowKit3
import Derived.Deep.RegionHeld3
import Derived.WalkSpells
import Derived.StillTactics
import Derived.Laws.FloatArith
import Derived.Deep.QuietTactic
import Derived.BigQuiet
namespace Go.Proofs.Ytpmcdhhlhiobiac
open Go.RowKit
set_option maxRecDepth 20000 in
set_option maxHeartbeats 4000000 in
theorem counted_near (n n' : Bool) (m m' : Nat) (h1 : m < 2147483648) (h2 : m' < 2147483648) (w : World) : Calls Try.prog 26 #[.float .f32 (wS n m), .float .f32 (wS n' m')] w fun e w' => e = .returned (.bool true) ∧ Grown w w' := by
  have hq : ∃ (Q : Int) (o : Bool), (∀ w : World, Calls Try.prog 62 #[.float .f32 (wS n' m')] w fun e w' => e = .returned (.tuple #[.int .i64 Q, .bool o]) ∧ Grown w w') ∧ ((o = true ∧ Q = plz n' m' ∧ m' ≤ 2139095040) ∨ (o = false ∧ 2139095040 < m')) := by
    by_cases c : 2139095040 < m'
    · exact ⟨_, _, placen_near n' m' c h2, Or.inr ⟨rfl, c⟩⟩
    · exact ⟨_, _, place_near n' m' (by omega), Or.inl ⟨rfl, rfl, by omega⟩⟩
  obtain ⟨Q, o, hq, hQ⟩ := hq
  have oYY : FloatKind.f32.format.order (wS n' m') (wS n' m') = if o then some .eq else none := by
    rcases hQ with ⟨rfl, _, c⟩ | ⟨rfl, c⟩
    · rw [ordS n' n' m' m' c c, cmp_eq rfl]; rfl
    · rw [ordS_nanl n' m' _ c h2]; rfl
  by_cases c1 : 2139095040 < m
  · have hp := placen_near n m c1 h1
    have oXX := ordS_nanl n m (wS n m) c1 h1
    obtain ⟨X, hX⟩ : ∃ x : Nat, x = wS n m := ⟨_, rfl⟩
    obtain ⟨Y, hY⟩ : ∃ x : Nat, x = wS n' m' := ⟨_, rfl⟩
    rw [← hX] at hp oXX ⊢
    rw [← hY] at hq oYY ⊢
    clear hX hY c1 h1 h2 hQ
    cases o
    · have oY : FloatKind.f32.format.order Y Y = none := oYY
      clear oYY
      go_enter Try.func26, Try.ntmps26
      go_wp2_with (first | (go_at_call_of 62 (Value.float FloatKind.f32 X); refine (hp _).mono ?_; rintro e w' ⟨rfl, g1⟩) | (go_at_call_of 62 (Value.float FloatKind.f32 Y); refine (hq _).mono ?_; rintro e w' ⟨rfl, g1⟩))
      exact bodyPost_ret (v := .bool true) (by simp [results, Try.results26, go_sem] <;> simp only [*]) rfl ⟨rfl, (by repeat (with_reducible (first | assumption | exact Grown.refl _ | apply Grown.drew | apply Grown.alloc | apply gdrewN | (refine gtrans ?_ (by assumption)))))⟩
    · have oY : FloatKind.f32.format.order Y Y = some .eq := oYY
      clear oYY
      go_enter Try.func26, Try.ntmps26
      go_wp2_with (first | (go_at_call_of 62 (Value.float FloatKind.f32 X); refine (hp _).mono ?_; rintro e w' ⟨rfl, g1⟩) | (go_at_call_of 62 (Value.float FloatKind.f32 Y); refine (hq _).mono ?_; rintro e w' ⟨rfl, g1⟩))
      exact bodyPost_ret (v := .bool true) (by simp [results, Try.results26, go_sem] <;> simp only [*]) rfl ⟨rfl, (by repeat (with_reducible (first | assumption | exact Grown.refl _ | apply Grown.drew | apply Grown.alloc | apply gdrewN | (refine gtrans ?_ (by assumption)))))⟩
  have hm : m ≤ 2139095040 := by omega
  have hb := exfS n m hm
  have hp := place_near n m hm
  have oXX : FloatKind.f32.format.order (wS n m) (wS n m) = some .eq := by rw [ordS n n m m hm hm, cmp_eq rfl]
  have hat := at_near (plz n m) hb.1 hb.2
  have oZX : FloatKind.f32.format.order (fS (plz n m)) (wS n m) = some .eq := by rw [ordfwS _ n m hb.1 hb.2 hm, cmp_eq rfl]
  have hpn := plain_near n m h1
  rw [← fS_plz n m] at hpn
  have hod := order_near (n && !(m == 0)) (n && !(m == 0)) m m h1 h1
  rw [← fS_plz n m, show cmpz (rkS (n && !(m == 0)) m) (rkS (n && !(m == 0)) m) = 0 from by unfold cmpz; simp] at hod
  have oXY : o = true → FloatKind.f32.format.order (wS n m) (wS n' m') = some (compare (plz n m) Q) := by
    intro ho
    rcases hQ with ⟨_, rfl, c⟩ | ⟨c, _⟩
    · exact ordS n n' m m' hm c
    · rw [ho] at c; cases c
  obtain ⟨U, R, hup, hr, hU⟩ : ∃ (U : Nat) (R : Int), (∀ w : World, Calls Try.prog 52 #[.float .f32 (wS n m)] w fun e w' => e = .returned (.float .f32 U) ∧ Grown w w') ∧
      (∀ w : World, Calls Try.prog 62 #[.float .f32 U] w fun e w' => e = .returned (.tuple #[.int .i64 R, .bool true]) ∧ Grown w w') ∧
      ((FloatKind.f32.format.order U (wS n m) = some .gt ∧ R = plz n m + 1 ∧ wrap64 (plz n m + 1) = plz n m + 1) ∨ (FloatKind.f32.format.order U (wS n m) = some .eq ∧ R = plz n m)) := by
    by_cases d : plz n m = 2139095040
    · have d1 : n = false ∧ m = 2139095040 := by
        unfold plz at d; cases n <;> simp at d ⊢ <;> omega
      obtain ⟨rfl, rfl⟩ := d1
      exact ⟨_, _, upe_near, hp, Or.inr ⟨oXX, rfl⟩⟩
    · refine ⟨_, _, up_near n m hm d, place_near (decide (plz n m + 1 < 0)) (plz n m + 1).natAbs (by omega), Or.inl ⟨?_, fS_back _, wrapI (by omega) (by omega)⟩⟩
      rw [ordfwS _ n m (by omega) (by omega) hm, cmp_gt (by omega)]
  obtain ⟨P, hP⟩ : ∃ P : Int, P = plz n m := ⟨_, rfl⟩
  obtain ⟨X, hX⟩ : ∃ x : Nat, x = wS n m := ⟨_, rfl⟩
  obtain ⟨Y, hY⟩ : ∃ x : Nat, x = wS n' m' := ⟨_, rfl⟩
  obtain ⟨Z, hZ⟩ : ∃ x : Nat, x = fS (plz n m) := ⟨_, rfl⟩
  rw [← hZ] at hat oZX hpn hod
  rw [← hP] at hp hat oXY hU
  rw [← hX] at hp oXX oZX hpn oXY hup hU ⊢
  rw [← hY] at hq oYY oXY ⊢
  clear hX hY hZ hP c1 h1 h2 hQ hm hb
  rcases hU with ⟨oUX, hR, hw⟩ | ⟨oUX, hR⟩
  · subst hR
    have d0 : ((P + 1) != (P + 1)) = false := by simp
    cases o
    · have oY : FloatKind.f32.format.order Y Y = none := oYY
      clear oYY oXY
      go_enter Try.func26, Try.ntmps26
      go_wp2_with (first | (go_at_call_of 62 (Value.float FloatKind.f32 X); refine (hp _).mono ?_; rintro e w' ⟨rfl, g1⟩) | (go_at_call_of 62 (Value.float FloatKind.f32 Y); refine (hq _).mono ?_; rintro e w' ⟨rfl, g1⟩) | (go_at_call_of 62 (Value.float FloatKind.f32 U); refine (hr _).mono ?_; rintro e w' ⟨rfl, g1⟩) | (go_at_call 63; refine (hat _).mono ?_; rintro e w' ⟨rfl, g1⟩) | (go_at_call 65; refine (hpn _).mono ?_; rintro e w' ⟨rfl, rfl⟩) | (go_at_call 64; refine (hod _).mono ?_; rintro e w' ⟨rfl, g1⟩) | (go_at_call 52; refine (hup _).mono ?_; rintro e w' ⟨rfl, g1⟩))
      exact bodyPost_ret (v := .bool true) (by simp [results, Try.results26, go_sem] <;> simp only [*]) rfl ⟨rfl, (by repeat (with_reducible (first | assumption | exact Grown.refl _ | apply Grown.drew | apply Grown.alloc | apply gdrewN | (refine gtrans ?_ (by assumption)))))⟩
    · have oY : FloatKind.f32.format.order Y Y = some .eq := oYY
      have oXY2 := oXY rfl
      clear oYY oXY
      rcases (by omega : P < Q ∨ P = Q ∨ Q < P) with c | c | c
      · rw [cmp_lt c] at oXY2
        have d1 : decide (P < Q) = true := by simp [c]
        have d2 : (P == Q) = false := by simp; omega
        clear c
        go_enter Try.func26, Try.ntmps26
        go_wp2_with (first | (go_at_call_of 62 (Value.float FloatKind.f32 X); refine (hp _).mono ?_; rintro e w' ⟨rfl, g1⟩) | (go_at_call_of 62 (Value.float FloatKind.f32 Y); refine (hq _).mono ?_; rintro e w' ⟨rfl, g1⟩) | (go_at_call_of 62 (Value.float FloatKind.f32 U); refine (hr _).mono ?_; rintro e w' ⟨rfl, g1⟩) | (go_at_call 63; refine (hat _).mono ?_; rintro e w' ⟨rfl, g1⟩) | (go_at_call 65; refine (hpn _).mono ?_; rintro e w' ⟨rfl, rfl⟩) | (go_at_call 64; refine (hod _).mono ?_; rintro e w' ⟨rfl, g1⟩) | (go_at_call 52; refine (hup _).mono ?_; rintro e w' ⟨rfl, g1⟩))
        exact bodyPost_ret (v := .bool true) (by simp [results, Try.results26, go_sem] <;> simp only [*]) rfl ⟨rfl, (by repeat (with_reducible (first | assumption | exact Grown.refl _ | apply Grown.drew | apply Grown.alloc | apply gdrewN | (refine gtrans ?_ (by assumption)))))⟩
      · subst c
        rw [cmp_eq rfl] at oXY2
        have d1 : decide (P < P) = false := by simp
        have d2 : (P == P) = true := by simp
        go_enter Try.func26, Try.ntmps26
        go_wp2_with (first | (go_at_call_of 62 (Value.float FloatKind.f32 X); refine (hp _).mono ?_; rintro e w' ⟨rfl, g1⟩) | (go_at_call_of 62 (Value.float FloatKind.f32 Y); refine (hq _).mono ?_; rintro e w' ⟨rfl, g1⟩) | (go_at_call_of 62 (Value.float FloatKind.f32 U); refine (hr _).mono ?_; rintro e w' ⟨rfl, g1⟩) | (go_at_call 63; refine (hat _).mono ?_; rintro e w' ⟨rfl, g1⟩) | (go_at_call 65; refine (hpn _).mono ?_; rintro e w' ⟨rfl, rfl⟩) | (go_at_call 64; refine (hod _).mono ?_; rintro e w' ⟨rfl, g1⟩) | (go_at_call 52; refine (hup _).mono ?_; rintro e w' ⟨rfl, g1⟩))
        exact bodyPost_ret (v := .bool true) (by simp [results, Try.results26, go_sem] <;> simp only [*]) rfl ⟨rfl, (by repeat (with_reducible (first | assumption | exact Grown.refl _ | apply Grown.drew | apply Grown.alloc | apply gdrewN | (refine gtrans ?_ (by assumption)))))⟩
      · rw [cmp_gt c] at oXY2
        have d1 : decide (P < Q) = false := by simp; omega
        have d2 : (P == Q) = false := by simp; omega
        clear c
        go_enter Try.func26, Try.ntmps26
        go_wp2_with (first | (go_at_call_of 62 (Value.float FloatKind.f32 X); refine (hp _).mono ?_; rintro e w' ⟨rfl, g1⟩) | (go_at_call_of 62 (Value.float FloatKind.f32 Y); refine (hq _).mono ?_; rintro e w' ⟨rfl, g1⟩) | (go_at_call_of 62 (Value.float FloatKind.f32 U); refine (hr _).mono ?_; rintro e w' ⟨rfl, g1⟩) | (go_at_call 63; refine (hat _).mono ?_; rintro e w' ⟨rfl, g1⟩) | (go_at_call 65; refine (hpn _).mono ?_; rintro e w' ⟨rfl, rfl⟩) | (go_at_call 64; refine (hod _).mono ?_; rintro e w' ⟨rfl, g1⟩) | (go_at_call 52; refine (hup _).mono ?_; rintro e w' ⟨rfl, g1⟩))
        exact bodyPost_ret (v := .bool true) (by simp [results, Try.results26, go_sem] <;> simp only [*]) rfl ⟨rfl, (by repeat (with_reducible (first | assumption | exact Grown.refl _ | apply Grown.drew | apply Grown.alloc | apply gdrewN | (refine gtrans ?_ (by assumption)))))⟩
  · subst hR
    have d0 : (R != R) = false := by simp
    cases o
    · have oY : FloatKind.f32.format.order Y Y = none := oYY
      clear oYY oXY
      go_enter Try.func26, Try.ntmps26
      go_wp2_with (first | (go_at_call_of 62 (Value.float FloatKind.f32 X); refine (hp _).mono ?_; rintro e w' ⟨rfl, g1⟩) | (go_at_call_of 62 (Value.float FloatKind.f32 Y); refine (hq _).mono ?_; rintro e w' ⟨rfl, g1⟩) | (go_at_call_of 62 (Value.float FloatKind.f32 U); refine (hr _).mono ?_; rintro e w' ⟨rfl, g1⟩) | (go_at_call 63; refine (hat _).mono ?_; rintro e w' ⟨rfl, g1⟩) | (go_at_call 65; refine (hpn _).mono ?_; rintro e w' ⟨rfl, rfl⟩) | (go_at_call 64; refine (hod _).mono ?_; rintro e w' ⟨rfl, g1⟩) | (go_at_call 52; refine (hup _).mono ?_; rintro e w' ⟨rfl, g1⟩))
      exact bodyPost_ret (v := .bool true) (by simp [results, Try.results26, go_sem] <;> simp only [*]) rfl ⟨rfl, (by repeat (with_reducible (first | assumption | exact Grown.refl _ | apply Grown.drew | apply Grown.alloc | apply gdrewN | (refine gtrans ?_ (by assumption)))))⟩
    · have oY : FloatKind.f32.format.order Y Y = some .eq := oYY
      have oXY2 := oXY rfl
      clear oYY oXY
      rcases (by omega : R < Q ∨ R = Q ∨ Q < R) with c | c | c
      · rw [cmp_lt c] at oXY2
        have d1 : decide (R < Q) = true := by simp [c]
        have d2 : (R == Q) = false := by simp; omega
        clear c
        go_enter Try.func26, Try.ntmps26
        go_wp2_with (first | (go_at_call_of 62 (Value.float FloatKind.f32 X); refine (hp _).mono ?_; rintro e w' ⟨rfl, g1⟩) | (go_at_call_of 62 (Value.float FloatKind.f32 Y); refine (hq _).mono ?_; rintro e w' ⟨rfl, g1⟩) | (go_at_call_of 62 (Value.float FloatKind.f32 U); refine (hr _).mono ?_; rintro e w' ⟨rfl, g1⟩) | (go_at_call 63; refine (hat _).mono ?_; rintro e w' ⟨rfl, g1⟩) | (go_at_call 65; refine (hpn _).mono ?_; rintro e w' ⟨rfl, rfl⟩) | (go_at_call 64; refine (hod _).mono ?_; rintro e w' ⟨rfl, g1⟩) | (go_at_call 52; refine (hup _).mono ?_; rintro e w' ⟨rfl, g1⟩))
        exact bodyPost_ret (v := .bool true) (by simp [results, Try.results26, go_sem] <;> simp only [*]) rfl ⟨rfl, (by repeat (with_reducible (first | assumption | exact Grown.refl _ | apply Grown.drew | apply Grown.alloc | apply gdrewN | (refine gtrans ?_ (by assumption)))))⟩
      · subst c
        rw [cmp_eq rfl] at oXY2
        have d1 : decide (R < R) = false := by simp
        have d2 : (R == R) = true := by simp
        go_enter Try.func26, Try.ntmps26
        go_wp2_with (first | (go_at_call_of 62 (Value.float FloatKind.f32 X); refine (hp _).mono ?_; rintro e w' ⟨rfl, g1⟩) | (go_at_call_of 62 (Value.float FloatKind.f32 Y); refine (hq _).mono ?_; rintro e w' ⟨rfl, g1⟩) | (go_at_call_of 62 (Value.float FloatKind.f32 U); refine (hr _).mono ?_; rintro e w' ⟨rfl, g1⟩) | (go_at_call 63; refine (hat _).mono ?_; rintro e w' ⟨rfl, g1⟩) | (go_at_call 65; refine (hpn _).mono ?_; rintro e w' ⟨rfl, rfl⟩) | (go_at_call 64; refine (hod _).mono ?_; rintro e w' ⟨rfl, g1⟩) | (go_at_call 52; refine (hup _).mono ?_; rintro e w' ⟨rfl, g1⟩))
        exact bodyPost_ret (v := .bool true) (by simp [results, Try.results26, go_sem] <;> simp only [*]) rfl ⟨rfl, (by repeat (with_reducible (first | assumption | exact Grown.refl _ | apply Grown.drew | apply Grown.alloc | apply gdrewN | (refine gtrans ?_ (by assumption)))))⟩
      · rw [cmp_gt c] at oXY2
        have d1 : decide (R < Q) = false := by simp; omega
        have d2 : (R == Q) = false := by simp; omega
        clear c
        go_enter Try.func26, Try.ntmps26
        go_wp2_with (first | (go_at_call_of 62 (Value.float FloatKind.f32 X); refine (hp _).mono ?_; rintro e w' ⟨rfl, g1⟩) | (go_at_call_of 62 (Value.float FloatKind.f32 Y); refine (hq _).mono ?_; rintro e w' ⟨rfl, g1⟩) | (go_at_call_of 62 (Value.float FloatKind.f32 U); refine (hr _).mono ?_; rintro e w' ⟨rfl, g1⟩) | (go_at_call 63; refine (hat _).mono ?_; rintro e w' ⟨rfl, g1⟩) | (go_at_call 65; refine (hpn _).mono ?_; rintro e w' ⟨rfl, rfl⟩) | (go_at_call 64; refine (hod _).mono ?_; rintro e w' ⟨rfl, g1⟩) | (go_at_call 52; refine (hup _).mono ?_; rintro e w' ⟨rfl, g1⟩))
        exact bodyPost_ret (v := .bool true) (by simp [results, Try.results26, go_sem] <;> simp only [*]) rfl ⟨rfl, (by repeat (with_reducible (first | assumption | exact Grown.refl _ | apply Grown.drew | apply Grown.alloc | apply gdrewN | (refine gtrans ?_ (by assumption)))))⟩

end Go.Proofs.Ytpmcdhhlhiobiac
