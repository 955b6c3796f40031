import Derived.Test.YtkjcdhbhhiaaiaaProg
import Derived.Test.YtkjcdhbhhiaaiaaM
import Derived.Test.YtkjcdhbhhiaaiaaM5
import Derived.Test.YtkjcdhbhhiaaiaaM6
import Derived.Test.YtkjcdhbhhiaaiaaM7
import Derived.Test.YtkjcdhbhhiaaiaaM8
import Derived.Test.YtkjcdhbhhiaaiaaM9
import Derived.Test.YtkjcdhbhhiaaiaaA
import Derived.Test.YtkjcdhbhhiaaiaaP
import Derived.Test.YtkjcdhbhhiaaiaaZs
import Derived.Test.YtkjcdhbhhiaaiaaOs
import Derived.WalkKit
import Derived.ProofKit
import Derived.RowKit3
import Derived.Deep.RegionHeld3
import Derived.WalkSpells
import Derived.StillTactics
import Derived.Laws.FloatArith
import Derived.Deep.QuietTactic
import Derived.BigQuiet
namespace Go.Proofs.Ytkjcdhbhhiaaiaa
open Go.RowKit
open Ieee
set_option maxRecDepth 20000 in
set_option maxHeartbeats 16000000 in
theorem nearest_s (z y : Int) (h1 : -9223372036854775808 ≤ z) (h2 : z < 9223372036854775808) (h3 : -9223372036854775808 ≤ y) (h4 : y < 9223372036854775808) (w : World) :
    Calls Try.prog 19 #[.int .i64 z, .int .i64 y] w fun e w' => e = .returned (.bool true) ∧ Grown w w' := by
  have o1 := of_s z h1 h2
  have o2 := of_s y h3 h4
  have hof := ofS z h1 h2
  have hr := zrS_lt z h1 h2
  have hry := zrS_lt y h3 h4
  have hwh := whole_s (decide (z < 0)) (zr single z) (by omega)
  have hbd := plz_bd (decide (z < 0)) (zr single z)
  have hup := up_s (decide (z < 0)) (zr single z) (by omega) (by omega)
  have hdn := dn_s (decide (z < 0)) (zr single z) (by omega) (by omega)
  have hwu := whole_s (decide (plz (decide (z < 0)) (zr single z) + 1 < 0)) (plz (decide (z < 0)) (zr single z) + 1).natAbs (by omega)
  have hwd := whole_s (decide (plz (decide (z < 0)) (zr single z) - 1 < 0)) (plz (decide (z < 0)) (zr single z) - 1).natAbs (by omega)
  have hbe := fun h => besideS z (by omega) h (decide (z < 0)) rfl (zr single z) rfl (plz (decide (z < 0)) (zr single z)) rfl
  have hoo : z < y → FloatKind.f32.format.order (wS (decide (z < 0)) (zr single z)) (wS (decide (y < 0)) (zr single y)) ≠ some .gt := fun c => by
    rw [ordS _ _ _ _ (by omega) (by omega)]
    have h := zrS_order z y c (by omega) (by omega)
    rcases (by omega : plz (decide (z < 0)) (zr single z) < plz (decide (y < 0)) (zr single y) ∨ plz (decide (z < 0)) (zr single z) = plz (decide (y < 0)) (zr single y)) with d | d
    · rw [cmp_lt d]; simp
    · rw [cmp_eq d]; simp
  have hxx : FloatKind.f32.format.order (wS (decide (z < 0)) (zr single z)) (wS (decide (z < 0)) (zr single z)) = some .eq := by
    rw [ordS _ _ _ _ (by omega) (by omega), cmp_eq rfl]
  have HN : z ≠ 0 → z ≠ -9223372036854775808 → ∃ (X' : Nat) (q' : Bool), (∀ w : World, Calls Try.prog 15 #[.int .i64 (-z)] w fun e w' => e = .returned (.tuple #[.float .f32 X', .bool q']) ∧ w' = w) ∧
      (Op.unary .neg (.float .f32 (wS (decide (z < 0)) (zr single z))) = pure (.float .f32 X')) ∧ ((FloatKind.f32.format.order X' X' != some .eq) = false) := fun c1 c2 => by
    refine ⟨_, _, of_s (-z) (by omega) (by omega), ?_, ?_⟩
    · show pure (Value.float .f32 (Op.negFloat .f32 (wS (decide (z < 0)) (zr single z)))) = _
      rw [negS _ _ (by omega), zrS_neg]
      have : (!decide (z < 0)) = decide (-z < 0) := by by_cases d : z < 0 <;> simp [d] <;> omega
      rw [this]
    · rw [zrS_neg, ordS _ _ _ _ (by omega) (by omega), cmp_eq rfl]; rfl
  have KK : exqS z = false → wokS (decide (z < 0)) (zr single z) = true → _ := fun h _ => hbe h
  clear hbe
  have HvG : ∀ n m, -9223372036854775808 ≤ (if wokS n m = true then wvS n m else 0) ∧ (if wokS n m = true then wvS n m else 0) < 9223372036854775808 := fun n m => by
    split
    · rename_i h; exact wvS_bd n m h
    · omega
  have Hv := HvG (decide (z < 0)) (zr single z)
  have Hv1 := HvG (decide (plz (decide (z < 0)) (zr single z) + 1 < 0)) (plz (decide (z < 0)) (zr single z) + 1).natAbs
  have Hv2 := HvG (decide (plz (decide (z < 0)) (zr single z) - 1 < 0)) (plz (decide (z < 0)) (zr single z) - 1).natAbs
  clear HvG
  unfold fS at hup hdn
  obtain ⟨P, hP⟩ : ∃ P : Int, P = plz (decide (z < 0)) (zr single z) := ⟨_, rfl⟩
  rw [← hP] at hup hdn hwu hwd Hv1 Hv2 KK
  obtain ⟨U, hU⟩ : ∃ U : Nat, U = wS (decide (P + 1 < 0)) (P + 1).natAbs := ⟨_, rfl⟩
  obtain ⟨D, hD⟩ : ∃ D : Nat, D = wS (decide (P - 1 < 0)) (P - 1).natAbs := ⟨_, rfl⟩
  rw [← hU] at hup hwu
  rw [← hD] at hdn hwd
  obtain ⟨X, hX⟩ : ∃ X : Nat, X = wS (decide (z < 0)) (zr single z) := ⟨_, rfl⟩
  obtain ⟨Y, hY⟩ : ∃ Y : Nat, Y = wS (decide (y < 0)) (zr single y) := ⟨_, rfl⟩
  rw [← hX] at o1 hwh hup hdn hoo hxx HN
  rw [← hY] at o2 hoo
  have KK2 : exqS z = false → wokS (decide (z < 0)) (zr single z) = true → (if wokS (decide (z < 0)) (zr single z) = true then wvS (decide (z < 0)) (zr single z) else 0) ≠ z ∧
      ((if wokS (decide (z < 0)) (zr single z) = true then wvS (decide (z < 0)) (zr single z) else 0) < z → wokS (decide (P + 1 < 0)) (P + 1).natAbs = true → z < (if wokS (decide (P + 1 < 0)) (P + 1).natAbs = true then wvS (decide (P + 1 < 0)) (P + 1).natAbs else 0) ∧ ¬ ((if wokS (decide (P + 1 < 0)) (P + 1).natAbs = true then wvS (decide (P + 1 < 0)) (P + 1).natAbs else 0) - z < z - (if wokS (decide (z < 0)) (zr single z) = true then wvS (decide (z < 0)) (zr single z) else 0))) ∧
      (z < (if wokS (decide (z < 0)) (zr single z) = true then wvS (decide (z < 0)) (zr single z) else 0) → wokS (decide (P - 1 < 0)) (P - 1).natAbs = true → (if wokS (decide (P - 1 < 0)) (P - 1).natAbs = true then wvS (decide (P - 1 < 0)) (P - 1).natAbs else 0) < z ∧ ¬ (z - (if wokS (decide (P - 1 < 0)) (P - 1).natAbs = true then wvS (decide (P - 1 < 0)) (P - 1).natAbs else 0) < (if wokS (decide (z < 0)) (zr single z) = true then wvS (decide (z < 0)) (zr single z) else 0) - z)) := fun a b => by
    obtain ⟨k1, k2, k3⟩ := KK a b
    rw [if_pos b]
    exact ⟨k1, fun c d => by rw [if_pos d]; exact k2 c, fun c d => by rw [if_pos d]; exact k3 c⟩
  clear KK
  have KK := KK2
  clear KK2
  obtain ⟨b, hb⟩ : ∃ b : Bool, b = wokS (decide (z < 0)) (zr single z) := ⟨_, rfl⟩
  obtain ⟨q, hq⟩ : ∃ q : Bool, q = exqS z := ⟨_, rfl⟩
  obtain ⟨qy, hqy⟩ : ∃ q : Bool, q = exqS y := ⟨_, rfl⟩
  obtain ⟨b1, hb1⟩ : ∃ b : Bool, b = wokS (decide (P + 1 < 0)) (P + 1).natAbs := ⟨_, rfl⟩
  obtain ⟨b2, hb2⟩ : ∃ b : Bool, b = wokS (decide (P - 1 < 0)) (P - 1).natAbs := ⟨_, rfl⟩
  rw [← hb] at hwh hof Hv KK
  rw [← hq] at o1 hof KK
  rw [← hqy] at o2
  rw [← hb1] at hwu Hv1 KK
  rw [← hb2] at hwd Hv2 KK
  obtain ⟨v, hv⟩ : ∃ v : Int, v = (if b = true then wvS (decide (z < 0)) (zr single z) else 0) := ⟨_, rfl⟩
  obtain ⟨v1, hv1⟩ : ∃ v : Int, v = (if b1 = true then wvS (decide (P + 1 < 0)) (P + 1).natAbs else 0) := ⟨_, rfl⟩
  obtain ⟨v2, hv2⟩ : ∃ v : Int, v = (if b2 = true then wvS (decide (P - 1 < 0)) (P - 1).natAbs else 0) := ⟨_, rfl⟩
  rw [← hv] at hwh hof Hv KK
  rw [← hv1] at hwu Hv1 KK
  rw [← hv2] at hwd Hv2 KK
  clear hb hb1 hb2 hv hv1 hv2 hU hD hP hqy hr hry hbd
  rcases (by omega : z < y ∨ z = y ∨ y < z) with c | c | c
  · have t1 : (FloatKind.f32.format.order X Y == some .gt) = false := by have := hoo c; simp [this]
    have d2 : (z == y) = false := by simp; omega
    clear hoo hxx hY
    by_cases cn : z = 0 ∨ z = -9223372036854775808
    · have eq1 : q = true := by
        rw [hq]
        rcases cn with rfl | rfl
        · exact exqS_zero
        · exact exqS_min
      have f0 : wrap64 (-z) = z := by unfold wrap64; omega
      subst eq1
      cases b
      · cases hof
      have e1 : (v == z) = true := by rw [← hof]; rfl
      clear hof KK Hv Hv1 Hv2 hX hq HN cn
      go_enter Try.func19, Try.ntmps19
      go_wp2_with (first | (go_at_call_of 15 (Value.int IntKind.i64 z); refine (o1 _).mono ?_; rintro e w' ⟨rfl, rfl⟩) | (go_at_call_of 15 (Value.int IntKind.i64 y); refine (o2 _).mono ?_; rintro e w' ⟨rfl, rfl⟩) | (go_at_call_of 35 (Value.float FloatKind.f32 X); refine (hwh _).mono ?_; rintro e w' ⟨rfl, rfl⟩) | (go_at_call_of 35 (Value.float FloatKind.f32 U); refine (hwu _).mono ?_; rintro e w' ⟨rfl, rfl⟩) | (go_at_call_of 35 (Value.float FloatKind.f32 D); refine (hwd _).mono ?_; rintro e w' ⟨rfl, rfl⟩) | (go_at_call 40; refine (hup _).mono ?_; rintro e w' ⟨rfl, g1⟩) | (go_at_call 41; refine (hdn _).mono ?_; rintro e w' ⟨rfl, g2⟩))
      exact bodyPost_ret (v := .bool true) (by simp [results, Try.results19, go_sem] <;> simp only [*]) rfl ⟨rfl, (by repeat (with_reducible (first | assumption | exact Grown.refl _ | apply Grown.drew | apply Grown.alloc | apply gdrewN | (refine gtrans ?_ (by assumption)))))⟩
    · obtain ⟨X', q', o3, hng, hXX⟩ := HN (by omega) (by omega)
      have f0 : wrap64 (-z) = -z := by unfold wrap64; omega
      have f1 : (z != -z) = true := by simp; omega
      clear hX hq HN cn
      cases b
      · have e1 : q = false := by rw [← hof]; rfl
        subst e1
        clear hof KK Hv Hv1 Hv2
        go_enter Try.func19, Try.ntmps19
        go_wp2_with (first | (go_at_call_of 15 (Value.int IntKind.i64 z); refine (o1 _).mono ?_; rintro e w' ⟨rfl, rfl⟩) | (go_at_call_of 15 (Value.int IntKind.i64 y); refine (o2 _).mono ?_; rintro e w' ⟨rfl, rfl⟩) | (go_at_call_of 15 (Value.int IntKind.i64 (-z)); refine (o3 _).mono ?_; rintro e w' ⟨rfl, rfl⟩) | (go_at_call_of 35 (Value.float FloatKind.f32 X); refine (hwh _).mono ?_; rintro e w' ⟨rfl, rfl⟩) | (go_at_call_of 35 (Value.float FloatKind.f32 U); refine (hwu _).mono ?_; rintro e w' ⟨rfl, rfl⟩) | (go_at_call_of 35 (Value.float FloatKind.f32 D); refine (hwd _).mono ?_; rintro e w' ⟨rfl, rfl⟩) | (go_at_call 40; refine (hup _).mono ?_; rintro e w' ⟨rfl, g1⟩) | (go_at_call 41; refine (hdn _).mono ?_; rintro e w' ⟨rfl, g2⟩))
        exact bodyPost_ret (v := .bool true) (by simp [results, Try.results19, go_sem] <;> simp only [*]) rfl ⟨rfl, (by repeat (with_reducible (first | assumption | exact Grown.refl _ | apply Grown.drew | apply Grown.alloc | apply gdrewN | (refine gtrans ?_ (by assumption)))))⟩
      · have e1 : (v == z) = q := by rw [← hof]; rfl
        cases q
        · obtain ⟨k1, k2, k3⟩ := KK rfl rfl
          rcases (by omega : v < z ∨ z < v) with c | c
          · clear k3 KK hof
            have x1 : v < z := by omega
            have x2 : ¬ (z < v) := by omega
            clear c
            cases b1
            · skip
              clear k2 k1 Hv Hv1 Hv2 h1 h2 h3 h4
              cases b2
              · skip
                go_enter Try.func19, Try.ntmps19
                go_wp2_with (first | (go_at_call_of 15 (Value.int IntKind.i64 z); refine (o1 _).mono ?_; rintro e w' ⟨rfl, rfl⟩) | (go_at_call_of 15 (Value.int IntKind.i64 y); refine (o2 _).mono ?_; rintro e w' ⟨rfl, rfl⟩) | (go_at_call_of 15 (Value.int IntKind.i64 (-z)); refine (o3 _).mono ?_; rintro e w' ⟨rfl, rfl⟩) | (go_at_call_of 35 (Value.float FloatKind.f32 X); refine (hwh _).mono ?_; rintro e w' ⟨rfl, rfl⟩) | (go_at_call_of 35 (Value.float FloatKind.f32 U); refine (hwu _).mono ?_; rintro e w' ⟨rfl, rfl⟩) | (go_at_call_of 35 (Value.float FloatKind.f32 D); refine (hwd _).mono ?_; rintro e w' ⟨rfl, rfl⟩) | (go_at_call 40; refine (hup _).mono ?_; rintro e w' ⟨rfl, g1⟩) | (go_at_call 41; refine (hdn _).mono ?_; rintro e w' ⟨rfl, g2⟩))
                exact bodyPost_ret (v := .bool true) (by simp [results, Try.results19, go_sem] <;> simp only [*]) rfl ⟨rfl, (by repeat (with_reducible (first | assumption | exact Grown.refl _ | apply Grown.drew | apply Grown.alloc | apply gdrewN | (refine gtrans ?_ (by assumption)))))⟩
              · skip
                go_enter Try.func19, Try.ntmps19
                go_wp2_with (first | (go_at_call_of 15 (Value.int IntKind.i64 z); refine (o1 _).mono ?_; rintro e w' ⟨rfl, rfl⟩) | (go_at_call_of 15 (Value.int IntKind.i64 y); refine (o2 _).mono ?_; rintro e w' ⟨rfl, rfl⟩) | (go_at_call_of 15 (Value.int IntKind.i64 (-z)); refine (o3 _).mono ?_; rintro e w' ⟨rfl, rfl⟩) | (go_at_call_of 35 (Value.float FloatKind.f32 X); refine (hwh _).mono ?_; rintro e w' ⟨rfl, rfl⟩) | (go_at_call_of 35 (Value.float FloatKind.f32 U); refine (hwu _).mono ?_; rintro e w' ⟨rfl, rfl⟩) | (go_at_call_of 35 (Value.float FloatKind.f32 D); refine (hwd _).mono ?_; rintro e w' ⟨rfl, rfl⟩) | (go_at_call 40; refine (hup _).mono ?_; rintro e w' ⟨rfl, g1⟩) | (go_at_call 41; refine (hdn _).mono ?_; rintro e w' ⟨rfl, g2⟩))
                exact bodyPost_ret (v := .bool true) (by simp [results, Try.results19, go_sem] <;> simp only [*]) rfl ⟨rfl, (by repeat (with_reducible (first | assumption | exact Grown.refl _ | apply Grown.drew | apply Grown.alloc | apply gdrewN | (refine gtrans ?_ (by assumption)))))⟩
            · skip
              obtain ⟨y1, y2⟩ := k2 x1 rfl
              have y3 : ¬ (v1 ≤ z) := by omega
              have y4 : IntKind.u64.wrap (IntKind.u64.wrap v1 - IntKind.u64.wrap z) = v1 - z := diffU (by omega) (by omega) (by omega) (by omega) (by omega)
              have y5 : IntKind.u64.wrap (IntKind.u64.wrap z - IntKind.u64.wrap v) = z - v := diffU (by omega) (by omega) (by omega) (by omega) (by omega)
              clear y1
              clear k2 k1 Hv Hv1 Hv2 h1 h2 h3 h4
              cases b2
              · skip
                go_enter Try.func19, Try.ntmps19
                go_wp2_with (first | (go_at_call_of 15 (Value.int IntKind.i64 z); refine (o1 _).mono ?_; rintro e w' ⟨rfl, rfl⟩) | (go_at_call_of 15 (Value.int IntKind.i64 y); refine (o2 _).mono ?_; rintro e w' ⟨rfl, rfl⟩) | (go_at_call_of 15 (Value.int IntKind.i64 (-z)); refine (o3 _).mono ?_; rintro e w' ⟨rfl, rfl⟩) | (go_at_call_of 35 (Value.float FloatKind.f32 X); refine (hwh _).mono ?_; rintro e w' ⟨rfl, rfl⟩) | (go_at_call_of 35 (Value.float FloatKind.f32 U); refine (hwu _).mono ?_; rintro e w' ⟨rfl, rfl⟩) | (go_at_call_of 35 (Value.float FloatKind.f32 D); refine (hwd _).mono ?_; rintro e w' ⟨rfl, rfl⟩) | (go_at_call 40; refine (hup _).mono ?_; rintro e w' ⟨rfl, g1⟩) | (go_at_call 41; refine (hdn _).mono ?_; rintro e w' ⟨rfl, g2⟩))
                exact bodyPost_ret (v := .bool true) (by simp [results, Try.results19, go_sem] <;> simp only [*]) rfl ⟨rfl, (by repeat (with_reducible (first | assumption | exact Grown.refl _ | apply Grown.drew | apply Grown.alloc | apply gdrewN | (refine gtrans ?_ (by assumption)))))⟩
              · skip
                go_enter Try.func19, Try.ntmps19
                go_wp2_with (first | (go_at_call_of 15 (Value.int IntKind.i64 z); refine (o1 _).mono ?_; rintro e w' ⟨rfl, rfl⟩) | (go_at_call_of 15 (Value.int IntKind.i64 y); refine (o2 _).mono ?_; rintro e w' ⟨rfl, rfl⟩) | (go_at_call_of 15 (Value.int IntKind.i64 (-z)); refine (o3 _).mono ?_; rintro e w' ⟨rfl, rfl⟩) | (go_at_call_of 35 (Value.float FloatKind.f32 X); refine (hwh _).mono ?_; rintro e w' ⟨rfl, rfl⟩) | (go_at_call_of 35 (Value.float FloatKind.f32 U); refine (hwu _).mono ?_; rintro e w' ⟨rfl, rfl⟩) | (go_at_call_of 35 (Value.float FloatKind.f32 D); refine (hwd _).mono ?_; rintro e w' ⟨rfl, rfl⟩) | (go_at_call 40; refine (hup _).mono ?_; rintro e w' ⟨rfl, g1⟩) | (go_at_call 41; refine (hdn _).mono ?_; rintro e w' ⟨rfl, g2⟩))
                exact bodyPost_ret (v := .bool true) (by simp [results, Try.results19, go_sem] <;> simp only [*]) rfl ⟨rfl, (by repeat (with_reducible (first | assumption | exact Grown.refl _ | apply Grown.drew | apply Grown.alloc | apply gdrewN | (refine gtrans ?_ (by assumption)))))⟩
          · clear k2 KK hof
            have x1 : ¬ (v < z) := by omega
            have x2 : z < v := by omega
            clear c
            cases b2
            · skip
              clear k3 k1 Hv Hv1 Hv2 h1 h2 h3 h4
              cases b1
              · skip
                go_enter Try.func19, Try.ntmps19
                go_wp2_with (first | (go_at_call_of 15 (Value.int IntKind.i64 z); refine (o1 _).mono ?_; rintro e w' ⟨rfl, rfl⟩) | (go_at_call_of 15 (Value.int IntKind.i64 y); refine (o2 _).mono ?_; rintro e w' ⟨rfl, rfl⟩) | (go_at_call_of 15 (Value.int IntKind.i64 (-z)); refine (o3 _).mono ?_; rintro e w' ⟨rfl, rfl⟩) | (go_at_call_of 35 (Value.float FloatKind.f32 X); refine (hwh _).mono ?_; rintro e w' ⟨rfl, rfl⟩) | (go_at_call_of 35 (Value.float FloatKind.f32 U); refine (hwu _).mono ?_; rintro e w' ⟨rfl, rfl⟩) | (go_at_call_of 35 (Value.float FloatKind.f32 D); refine (hwd _).mono ?_; rintro e w' ⟨rfl, rfl⟩) | (go_at_call 40; refine (hup _).mono ?_; rintro e w' ⟨rfl, g1⟩) | (go_at_call 41; refine (hdn _).mono ?_; rintro e w' ⟨rfl, g2⟩))
                exact bodyPost_ret (v := .bool true) (by simp [results, Try.results19, go_sem] <;> simp only [*]) rfl ⟨rfl, (by repeat (with_reducible (first | assumption | exact Grown.refl _ | apply Grown.drew | apply Grown.alloc | apply gdrewN | (refine gtrans ?_ (by assumption)))))⟩
              · skip
                go_enter Try.func19, Try.ntmps19
                go_wp2_with (first | (go_at_call_of 15 (Value.int IntKind.i64 z); refine (o1 _).mono ?_; rintro e w' ⟨rfl, rfl⟩) | (go_at_call_of 15 (Value.int IntKind.i64 y); refine (o2 _).mono ?_; rintro e w' ⟨rfl, rfl⟩) | (go_at_call_of 15 (Value.int IntKind.i64 (-z)); refine (o3 _).mono ?_; rintro e w' ⟨rfl, rfl⟩) | (go_at_call_of 35 (Value.float FloatKind.f32 X); refine (hwh _).mono ?_; rintro e w' ⟨rfl, rfl⟩) | (go_at_call_of 35 (Value.float FloatKind.f32 U); refine (hwu _).mono ?_; rintro e w' ⟨rfl, rfl⟩) | (go_at_call_of 35 (Value.float FloatKind.f32 D); refine (hwd _).mono ?_; rintro e w' ⟨rfl, rfl⟩) | (go_at_call 40; refine (hup _).mono ?_; rintro e w' ⟨rfl, g1⟩) | (go_at_call 41; refine (hdn _).mono ?_; rintro e w' ⟨rfl, g2⟩))
                exact bodyPost_ret (v := .bool true) (by simp [results, Try.results19, go_sem] <;> simp only [*]) rfl ⟨rfl, (by repeat (with_reducible (first | assumption | exact Grown.refl _ | apply Grown.drew | apply Grown.alloc | apply gdrewN | (refine gtrans ?_ (by assumption)))))⟩
            · skip
              obtain ⟨y1, y2⟩ := k3 x2 rfl
              have y3 : ¬ (z ≤ v2) := by omega
              have y4 : IntKind.u64.wrap (IntKind.u64.wrap z - IntKind.u64.wrap v2) = z - v2 := diffU (by omega) (by omega) (by omega) (by omega) (by omega)
              have y5 : IntKind.u64.wrap (IntKind.u64.wrap v - IntKind.u64.wrap z) = v - z := diffU (by omega) (by omega) (by omega) (by omega) (by omega)
              clear y1
              clear k3 k1 Hv Hv1 Hv2 h1 h2 h3 h4
              cases b1
              · skip
                go_enter Try.func19, Try.ntmps19
                go_wp2_with (first | (go_at_call_of 15 (Value.int IntKind.i64 z); refine (o1 _).mono ?_; rintro e w' ⟨rfl, rfl⟩) | (go_at_call_of 15 (Value.int IntKind.i64 y); refine (o2 _).mono ?_; rintro e w' ⟨rfl, rfl⟩) | (go_at_call_of 15 (Value.int IntKind.i64 (-z)); refine (o3 _).mono ?_; rintro e w' ⟨rfl, rfl⟩) | (go_at_call_of 35 (Value.float FloatKind.f32 X); refine (hwh _).mono ?_; rintro e w' ⟨rfl, rfl⟩) | (go_at_call_of 35 (Value.float FloatKind.f32 U); refine (hwu _).mono ?_; rintro e w' ⟨rfl, rfl⟩) | (go_at_call_of 35 (Value.float FloatKind.f32 D); refine (hwd _).mono ?_; rintro e w' ⟨rfl, rfl⟩) | (go_at_call 40; refine (hup _).mono ?_; rintro e w' ⟨rfl, g1⟩) | (go_at_call 41; refine (hdn _).mono ?_; rintro e w' ⟨rfl, g2⟩))
                exact bodyPost_ret (v := .bool true) (by simp [results, Try.results19, go_sem] <;> simp only [*]) rfl ⟨rfl, (by repeat (with_reducible (first | assumption | exact Grown.refl _ | apply Grown.drew | apply Grown.alloc | apply gdrewN | (refine gtrans ?_ (by assumption)))))⟩
              · skip
                go_enter Try.func19, Try.ntmps19
                go_wp2_with (first | (go_at_call_of 15 (Value.int IntKind.i64 z); refine (o1 _).mono ?_; rintro e w' ⟨rfl, rfl⟩) | (go_at_call_of 15 (Value.int IntKind.i64 y); refine (o2 _).mono ?_; rintro e w' ⟨rfl, rfl⟩) | (go_at_call_of 15 (Value.int IntKind.i64 (-z)); refine (o3 _).mono ?_; rintro e w' ⟨rfl, rfl⟩) | (go_at_call_of 35 (Value.float FloatKind.f32 X); refine (hwh _).mono ?_; rintro e w' ⟨rfl, rfl⟩) | (go_at_call_of 35 (Value.float FloatKind.f32 U); refine (hwu _).mono ?_; rintro e w' ⟨rfl, rfl⟩) | (go_at_call_of 35 (Value.float FloatKind.f32 D); refine (hwd _).mono ?_; rintro e w' ⟨rfl, rfl⟩) | (go_at_call 40; refine (hup _).mono ?_; rintro e w' ⟨rfl, g1⟩) | (go_at_call 41; refine (hdn _).mono ?_; rintro e w' ⟨rfl, g2⟩))
                exact bodyPost_ret (v := .bool true) (by simp [results, Try.results19, go_sem] <;> simp only [*]) rfl ⟨rfl, (by repeat (with_reducible (first | assumption | exact Grown.refl _ | apply Grown.drew | apply Grown.alloc | apply gdrewN | (refine gtrans ?_ (by assumption)))))⟩
        · clear hof KK Hv Hv1 Hv2
          go_enter Try.func19, Try.ntmps19
          go_wp2_with (first | (go_at_call_of 15 (Value.int IntKind.i64 z); refine (o1 _).mono ?_; rintro e w' ⟨rfl, rfl⟩) | (go_at_call_of 15 (Value.int IntKind.i64 y); refine (o2 _).mono ?_; rintro e w' ⟨rfl, rfl⟩) | (go_at_call_of 15 (Value.int IntKind.i64 (-z)); refine (o3 _).mono ?_; rintro e w' ⟨rfl, rfl⟩) | (go_at_call_of 35 (Value.float FloatKind.f32 X); refine (hwh _).mono ?_; rintro e w' ⟨rfl, rfl⟩) | (go_at_call_of 35 (Value.float FloatKind.f32 U); refine (hwu _).mono ?_; rintro e w' ⟨rfl, rfl⟩) | (go_at_call_of 35 (Value.float FloatKind.f32 D); refine (hwd _).mono ?_; rintro e w' ⟨rfl, rfl⟩) | (go_at_call 40; refine (hup _).mono ?_; rintro e w' ⟨rfl, g1⟩) | (go_at_call 41; refine (hdn _).mono ?_; rintro e w' ⟨rfl, g2⟩))
          exact bodyPost_ret (v := .bool true) (by simp [results, Try.results19, go_sem] <;> simp only [*]) rfl ⟨rfl, (by repeat (with_reducible (first | assumption | exact Grown.refl _ | apply Grown.drew | apply Grown.alloc | apply gdrewN | (refine gtrans ?_ (by assumption)))))⟩
  · subst c
    have t2 : (FloatKind.f32.format.order X X != some .eq) = false := by rw [hxx]; rfl
    clear hoo hxx hY o2
    by_cases cn : z = 0 ∨ z = -9223372036854775808
    · have eq1 : q = true := by
        rw [hq]
        rcases cn with rfl | rfl
        · exact exqS_zero
        · exact exqS_min
      have f0 : wrap64 (-z) = z := by unfold wrap64; omega
      subst eq1
      cases b
      · cases hof
      have e1 : (v == z) = true := by rw [← hof]; rfl
      clear hof KK Hv Hv1 Hv2 hX hq HN cn
      go_enter Try.func19, Try.ntmps19
      go_wp2_with (first | (go_at_call_of 15 (Value.int IntKind.i64 z); refine (o1 _).mono ?_; rintro e w' ⟨rfl, rfl⟩) | (go_at_call_of 35 (Value.float FloatKind.f32 X); refine (hwh _).mono ?_; rintro e w' ⟨rfl, rfl⟩) | (go_at_call_of 35 (Value.float FloatKind.f32 U); refine (hwu _).mono ?_; rintro e w' ⟨rfl, rfl⟩) | (go_at_call_of 35 (Value.float FloatKind.f32 D); refine (hwd _).mono ?_; rintro e w' ⟨rfl, rfl⟩) | (go_at_call 40; refine (hup _).mono ?_; rintro e w' ⟨rfl, g1⟩) | (go_at_call 41; refine (hdn _).mono ?_; rintro e w' ⟨rfl, g2⟩))
      exact bodyPost_ret (v := .bool true) (by simp [results, Try.results19, go_sem] <;> simp only [*]) rfl ⟨rfl, (by repeat (with_reducible (first | assumption | exact Grown.refl _ | apply Grown.drew | apply Grown.alloc | apply gdrewN | (refine gtrans ?_ (by assumption)))))⟩
    · obtain ⟨X', q', o3, hng, hXX⟩ := HN (by omega) (by omega)
      have f0 : wrap64 (-z) = -z := by unfold wrap64; omega
      have f1 : (z != -z) = true := by simp; omega
      clear hX hq HN cn
      cases b
      · have e1 : q = false := by rw [← hof]; rfl
        subst e1
        clear hof KK Hv Hv1 Hv2
        go_enter Try.func19, Try.ntmps19
        go_wp2_with (first | (go_at_call_of 15 (Value.int IntKind.i64 z); refine (o1 _).mono ?_; rintro e w' ⟨rfl, rfl⟩) | (go_at_call_of 15 (Value.int IntKind.i64 (-z)); refine (o3 _).mono ?_; rintro e w' ⟨rfl, rfl⟩) | (go_at_call_of 35 (Value.float FloatKind.f32 X); refine (hwh _).mono ?_; rintro e w' ⟨rfl, rfl⟩) | (go_at_call_of 35 (Value.float FloatKind.f32 U); refine (hwu _).mono ?_; rintro e w' ⟨rfl, rfl⟩) | (go_at_call_of 35 (Value.float FloatKind.f32 D); refine (hwd _).mono ?_; rintro e w' ⟨rfl, rfl⟩) | (go_at_call 40; refine (hup _).mono ?_; rintro e w' ⟨rfl, g1⟩) | (go_at_call 41; refine (hdn _).mono ?_; rintro e w' ⟨rfl, g2⟩))
        exact bodyPost_ret (v := .bool true) (by simp [results, Try.results19, go_sem] <;> simp only [*]) rfl ⟨rfl, (by repeat (with_reducible (first | assumption | exact Grown.refl _ | apply Grown.drew | apply Grown.alloc | apply gdrewN | (refine gtrans ?_ (by assumption)))))⟩
      · have e1 : (v == z) = q := by rw [← hof]; rfl
        cases q
        · obtain ⟨k1, k2, k3⟩ := KK rfl rfl
          rcases (by omega : v < z ∨ z < v) with c | c
          · clear k3 KK hof
            have x1 : v < z := by omega
            have x2 : ¬ (z < v) := by omega
            clear c
            cases b1
            · skip
              clear k2 k1 Hv Hv1 Hv2 h1 h2 h3 h4
              cases b2
              · skip
                go_enter Try.func19, Try.ntmps19
                go_wp2_with (first | (go_at_call_of 15 (Value.int IntKind.i64 z); refine (o1 _).mono ?_; rintro e w' ⟨rfl, rfl⟩) | (go_at_call_of 15 (Value.int IntKind.i64 (-z)); refine (o3 _).mono ?_; rintro e w' ⟨rfl, rfl⟩) | (go_at_call_of 35 (Value.float FloatKind.f32 X); refine (hwh _).mono ?_; rintro e w' ⟨rfl, rfl⟩) | (go_at_call_of 35 (Value.float FloatKind.f32 U); refine (hwu _).mono ?_; rintro e w' ⟨rfl, rfl⟩) | (go_at_call_of 35 (Value.float FloatKind.f32 D); refine (hwd _).mono ?_; rintro e w' ⟨rfl, rfl⟩) | (go_at_call 40; refine (hup _).mono ?_; rintro e w' ⟨rfl, g1⟩) | (go_at_call 41; refine (hdn _).mono ?_; rintro e w' ⟨rfl, g2⟩))
                exact bodyPost_ret (v := .bool true) (by simp [results, Try.results19, go_sem] <;> simp only [*]) rfl ⟨rfl, (by repeat (with_reducible (first | assumption | exact Grown.refl _ | apply Grown.drew | apply Grown.alloc | apply gdrewN | (refine gtrans ?_ (by assumption)))))⟩
              · skip
                go_enter Try.func19, Try.ntmps19
                go_wp2_with (first | (go_at_call_of 15 (Value.int IntKind.i64 z); refine (o1 _).mono ?_; rintro e w' ⟨rfl, rfl⟩) | (go_at_call_of 15 (Value.int IntKind.i64 (-z)); refine (o3 _).mono ?_; rintro e w' ⟨rfl, rfl⟩) | (go_at_call_of 35 (Value.float FloatKind.f32 X); refine (hwh _).mono ?_; rintro e w' ⟨rfl, rfl⟩) | (go_at_call_of 35 (Value.float FloatKind.f32 U); refine (hwu _).mono ?_; rintro e w' ⟨rfl, rfl⟩) | (go_at_call_of 35 (Value.float FloatKind.f32 D); refine (hwd _).mono ?_; rintro e w' ⟨rfl, rfl⟩) | (go_at_call 40; refine (hup _).mono ?_; rintro e w' ⟨rfl, g1⟩) | (go_at_call 41; refine (hdn _).mono ?_; rintro e w' ⟨rfl, g2⟩))
                exact bodyPost_ret (v := .bool true) (by simp [results, Try.results19, go_sem] <;> simp only [*]) rfl ⟨rfl, (by repeat (with_reducible (first | assumption | exact Grown.refl _ | apply Grown.drew | apply Grown.alloc | apply gdrewN | (refine gtrans ?_ (by assumption)))))⟩
            · skip
              obtain ⟨y1, y2⟩ := k2 x1 rfl
              have y3 : ¬ (v1 ≤ z) := by omega
              have y4 : IntKind.u64.wrap (IntKind.u64.wrap v1 - IntKind.u64.wrap z) = v1 - z := diffU (by omega) (by omega) (by omega) (by omega) (by omega)
              have y5 : IntKind.u64.wrap (IntKind.u64.wrap z - IntKind.u64.wrap v) = z - v := diffU (by omega) (by omega) (by omega) (by omega) (by omega)
              clear y1
              clear k2 k1 Hv Hv1 Hv2 h1 h2 h3 h4
              cases b2
              · skip
                go_enter Try.func19, Try.ntmps19
                go_wp2_with (first | (go_at_call_of 15 (Value.int IntKind.i64 z); refine (o1 _).mono ?_; rintro e w' ⟨rfl, rfl⟩) | (go_at_call_of 15 (Value.int IntKind.i64 (-z)); refine (o3 _).mono ?_; rintro e w' ⟨rfl, rfl⟩) | (go_at_call_of 35 (Value.float FloatKind.f32 X); refine (hwh _).mono ?_; rintro e w' ⟨rfl, rfl⟩) | (go_at_call_of 35 (Value.float FloatKind.f32 U); refine (hwu _).mono ?_; rintro e w' ⟨rfl, rfl⟩) | (go_at_call_of 35 (Value.float FloatKind.f32 D); refine (hwd _).mono ?_; rintro e w' ⟨rfl, rfl⟩) | (go_at_call 40; refine (hup _).mono ?_; rintro e w' ⟨rfl, g1⟩) | (go_at_call 41; refine (hdn _).mono ?_; rintro e w' ⟨rfl, g2⟩))
                exact bodyPost_ret (v := .bool true) (by simp [results, Try.results19, go_sem] <;> simp only [*]) rfl ⟨rfl, (by repeat (with_reducible (first | assumption | exact Grown.refl _ | apply Grown.drew | apply Grown.alloc | apply gdrewN | (refine gtrans ?_ (by assumption)))))⟩
              · skip
                go_enter Try.func19, Try.ntmps19
                go_wp2_with (first | (go_at_call_of 15 (Value.int IntKind.i64 z); refine (o1 _).mono ?_; rintro e w' ⟨rfl, rfl⟩) | (go_at_call_of 15 (Value.int IntKind.i64 (-z)); refine (o3 _).mono ?_; rintro e w' ⟨rfl, rfl⟩) | (go_at_call_of 35 (Value.float FloatKind.f32 X); refine (hwh _).mono ?_; rintro e w' ⟨rfl, rfl⟩) | (go_at_call_of 35 (Value.float FloatKind.f32 U); refine (hwu _).mono ?_; rintro e w' ⟨rfl, rfl⟩) | (go_at_call_of 35 (Value.float FloatKind.f32 D); refine (hwd _).mono ?_; rintro e w' ⟨rfl, rfl⟩) | (go_at_call 40; refine (hup _).mono ?_; rintro e w' ⟨rfl, g1⟩) | (go_at_call 41; refine (hdn _).mono ?_; rintro e w' ⟨rfl, g2⟩))
                exact bodyPost_ret (v := .bool true) (by simp [results, Try.results19, go_sem] <;> simp only [*]) rfl ⟨rfl, (by repeat (with_reducible (first | assumption | exact Grown.refl _ | apply Grown.drew | apply Grown.alloc | apply gdrewN | (refine gtrans ?_ (by assumption)))))⟩
          · clear k2 KK hof
            have x1 : ¬ (v < z) := by omega
            have x2 : z < v := by omega
            clear c
            cases b2
            · skip
              clear k3 k1 Hv Hv1 Hv2 h1 h2 h3 h4
              cases b1
              · skip
                go_enter Try.func19, Try.ntmps19
                go_wp2_with (first | (go_at_call_of 15 (Value.int IntKind.i64 z); refine (o1 _).mono ?_; rintro e w' ⟨rfl, rfl⟩) | (go_at_call_of 15 (Value.int IntKind.i64 (-z)); refine (o3 _).mono ?_; rintro e w' ⟨rfl, rfl⟩) | (go_at_call_of 35 (Value.float FloatKind.f32 X); refine (hwh _).mono ?_; rintro e w' ⟨rfl, rfl⟩) | (go_at_call_of 35 (Value.float FloatKind.f32 U); refine (hwu _).mono ?_; rintro e w' ⟨rfl, rfl⟩) | (go_at_call_of 35 (Value.float FloatKind.f32 D); refine (hwd _).mono ?_; rintro e w' ⟨rfl, rfl⟩) | (go_at_call 40; refine (hup _).mono ?_; rintro e w' ⟨rfl, g1⟩) | (go_at_call 41; refine (hdn _).mono ?_; rintro e w' ⟨rfl, g2⟩))
                exact bodyPost_ret (v := .bool true) (by simp [results, Try.results19, go_sem] <;> simp only [*]) rfl ⟨rfl, (by repeat (with_reducible (first | assumption | exact Grown.refl _ | apply Grown.drew | apply Grown.alloc | apply gdrewN | (refine gtrans ?_ (by assumption)))))⟩
              · skip
                go_enter Try.func19, Try.ntmps19
                go_wp2_with (first | (go_at_call_of 15 (Value.int IntKind.i64 z); refine (o1 _).mono ?_; rintro e w' ⟨rfl, rfl⟩) | (go_at_call_of 15 (Value.int IntKind.i64 (-z)); refine (o3 _).mono ?_; rintro e w' ⟨rfl, rfl⟩) | (go_at_call_of 35 (Value.float FloatKind.f32 X); refine (hwh _).mono ?_; rintro e w' ⟨rfl, rfl⟩) | (go_at_call_of 35 (Value.float FloatKind.f32 U); refine (hwu _).mono ?_; rintro e w' ⟨rfl, rfl⟩) | (go_at_call_of 35 (Value.float FloatKind.f32 D); refine (hwd _).mono ?_; rintro e w' ⟨rfl, rfl⟩) | (go_at_call 40; refine (hup _).mono ?_; rintro e w' ⟨rfl, g1⟩) | (go_at_call 41; refine (hdn _).mono ?_; rintro e w' ⟨rfl, g2⟩))
                exact bodyPost_ret (v := .bool true) (by simp [results, Try.results19, go_sem] <;> simp only [*]) rfl ⟨rfl, (by repeat (with_reducible (first | assumption | exact Grown.refl _ | apply Grown.drew | apply Grown.alloc | apply gdrewN | (refine gtrans ?_ (by assumption)))))⟩
            · skip
              obtain ⟨y1, y2⟩ := k3 x2 rfl
              have y3 : ¬ (z ≤ v2) := by omega
              have y4 : IntKind.u64.wrap (IntKind.u64.wrap z - IntKind.u64.wrap v2) = z - v2 := diffU (by omega) (by omega) (by omega) (by omega) (by omega)
              have y5 : IntKind.u64.wrap (IntKind.u64.wrap v - IntKind.u64.wrap z) = v - z := diffU (by omega) (by omega) (by omega) (by omega) (by omega)
              clear y1
              clear k3 k1 Hv Hv1 Hv2 h1 h2 h3 h4
              cases b1
              · skip
                go_enter Try.func19, Try.ntmps19
                go_wp2_with (first | (go_at_call_of 15 (Value.int IntKind.i64 z); refine (o1 _).mono ?_; rintro e w' ⟨rfl, rfl⟩) | (go_at_call_of 15 (Value.int IntKind.i64 (-z)); refine (o3 _).mono ?_; rintro e w' ⟨rfl, rfl⟩) | (go_at_call_of 35 (Value.float FloatKind.f32 X); refine (hwh _).mono ?_; rintro e w' ⟨rfl, rfl⟩) | (go_at_call_of 35 (Value.float FloatKind.f32 U); refine (hwu _).mono ?_; rintro e w' ⟨rfl, rfl⟩) | (go_at_call_of 35 (Value.float FloatKind.f32 D); refine (hwd _).mono ?_; rintro e w' ⟨rfl, rfl⟩) | (go_at_call 40; refine (hup _).mono ?_; rintro e w' ⟨rfl, g1⟩) | (go_at_call 41; refine (hdn _).mono ?_; rintro e w' ⟨rfl, g2⟩))
                exact bodyPost_ret (v := .bool true) (by simp [results, Try.results19, go_sem] <;> simp only [*]) rfl ⟨rfl, (by repeat (with_reducible (first | assumption | exact Grown.refl _ | apply Grown.drew | apply Grown.alloc | apply gdrewN | (refine gtrans ?_ (by assumption)))))⟩
              · skip
                go_enter Try.func19, Try.ntmps19
                go_wp2_with (first | (go_at_call_of 15 (Value.int IntKind.i64 z); refine (o1 _).mono ?_; rintro e w' ⟨rfl, rfl⟩) | (go_at_call_of 15 (Value.int IntKind.i64 (-z)); refine (o3 _).mono ?_; rintro e w' ⟨rfl, rfl⟩) | (go_at_call_of 35 (Value.float FloatKind.f32 X); refine (hwh _).mono ?_; rintro e w' ⟨rfl, rfl⟩) | (go_at_call_of 35 (Value.float FloatKind.f32 U); refine (hwu _).mono ?_; rintro e w' ⟨rfl, rfl⟩) | (go_at_call_of 35 (Value.float FloatKind.f32 D); refine (hwd _).mono ?_; rintro e w' ⟨rfl, rfl⟩) | (go_at_call 40; refine (hup _).mono ?_; rintro e w' ⟨rfl, g1⟩) | (go_at_call 41; refine (hdn _).mono ?_; rintro e w' ⟨rfl, g2⟩))
                exact bodyPost_ret (v := .bool true) (by simp [results, Try.results19, go_sem] <;> simp only [*]) rfl ⟨rfl, (by repeat (with_reducible (first | assumption | exact Grown.refl _ | apply Grown.drew | apply Grown.alloc | apply gdrewN | (refine gtrans ?_ (by assumption)))))⟩
        · clear hof KK Hv Hv1 Hv2
          go_enter Try.func19, Try.ntmps19
          go_wp2_with (first | (go_at_call_of 15 (Value.int IntKind.i64 z); refine (o1 _).mono ?_; rintro e w' ⟨rfl, rfl⟩) | (go_at_call_of 15 (Value.int IntKind.i64 (-z)); refine (o3 _).mono ?_; rintro e w' ⟨rfl, rfl⟩) | (go_at_call_of 35 (Value.float FloatKind.f32 X); refine (hwh _).mono ?_; rintro e w' ⟨rfl, rfl⟩) | (go_at_call_of 35 (Value.float FloatKind.f32 U); refine (hwu _).mono ?_; rintro e w' ⟨rfl, rfl⟩) | (go_at_call_of 35 (Value.float FloatKind.f32 D); refine (hwd _).mono ?_; rintro e w' ⟨rfl, rfl⟩) | (go_at_call 40; refine (hup _).mono ?_; rintro e w' ⟨rfl, g1⟩) | (go_at_call 41; refine (hdn _).mono ?_; rintro e w' ⟨rfl, g2⟩))
          exact bodyPost_ret (v := .bool true) (by simp [results, Try.results19, go_sem] <;> simp only [*]) rfl ⟨rfl, (by repeat (with_reducible (first | assumption | exact Grown.refl _ | apply Grown.drew | apply Grown.alloc | apply gdrewN | (refine gtrans ?_ (by assumption)))))⟩
  · have d1 : ¬ (z < y) := by omega
    have d2 : (z == y) = false := by simp; omega
    clear hoo hxx hY c
    by_cases cn : z = 0 ∨ z = -9223372036854775808
    · have eq1 : q = true := by
        rw [hq]
        rcases cn with rfl | rfl
        · exact exqS_zero
        · exact exqS_min
      have f0 : wrap64 (-z) = z := by unfold wrap64; omega
      subst eq1
      cases b
      · cases hof
      have e1 : (v == z) = true := by rw [← hof]; rfl
      clear hof KK Hv Hv1 Hv2 hX hq HN cn
      go_enter Try.func19, Try.ntmps19
      go_wp2_with (first | (go_at_call_of 15 (Value.int IntKind.i64 z); refine (o1 _).mono ?_; rintro e w' ⟨rfl, rfl⟩) | (go_at_call_of 15 (Value.int IntKind.i64 y); refine (o2 _).mono ?_; rintro e w' ⟨rfl, rfl⟩) | (go_at_call_of 35 (Value.float FloatKind.f32 X); refine (hwh _).mono ?_; rintro e w' ⟨rfl, rfl⟩) | (go_at_call_of 35 (Value.float FloatKind.f32 U); refine (hwu _).mono ?_; rintro e w' ⟨rfl, rfl⟩) | (go_at_call_of 35 (Value.float FloatKind.f32 D); refine (hwd _).mono ?_; rintro e w' ⟨rfl, rfl⟩) | (go_at_call 40; refine (hup _).mono ?_; rintro e w' ⟨rfl, g1⟩) | (go_at_call 41; refine (hdn _).mono ?_; rintro e w' ⟨rfl, g2⟩))
      exact bodyPost_ret (v := .bool true) (by simp [results, Try.results19, go_sem] <;> simp only [*]) rfl ⟨rfl, (by repeat (with_reducible (first | assumption | exact Grown.refl _ | apply Grown.drew | apply Grown.alloc | apply gdrewN | (refine gtrans ?_ (by assumption)))))⟩
    · obtain ⟨X', q', o3, hng, hXX⟩ := HN (by omega) (by omega)
      have f0 : wrap64 (-z) = -z := by unfold wrap64; omega
      have f1 : (z != -z) = true := by simp; omega
      clear hX hq HN cn
      cases b
      · have e1 : q = false := by rw [← hof]; rfl
        subst e1
        clear hof KK Hv Hv1 Hv2
        go_enter Try.func19, Try.ntmps19
        go_wp2_with (first | (go_at_call_of 15 (Value.int IntKind.i64 z); refine (o1 _).mono ?_; rintro e w' ⟨rfl, rfl⟩) | (go_at_call_of 15 (Value.int IntKind.i64 y); refine (o2 _).mono ?_; rintro e w' ⟨rfl, rfl⟩) | (go_at_call_of 15 (Value.int IntKind.i64 (-z)); refine (o3 _).mono ?_; rintro e w' ⟨rfl, rfl⟩) | (go_at_call_of 35 (Value.float FloatKind.f32 X); refine (hwh _).mono ?_; rintro e w' ⟨rfl, rfl⟩) | (go_at_call_of 35 (Value.float FloatKind.f32 U); refine (hwu _).mono ?_; rintro e w' ⟨rfl, rfl⟩) | (go_at_call_of 35 (Value.float FloatKind.f32 D); refine (hwd _).mono ?_; rintro e w' ⟨rfl, rfl⟩) | (go_at_call 40; refine (hup _).mono ?_; rintro e w' ⟨rfl, g1⟩) | (go_at_call 41; refine (hdn _).mono ?_; rintro e w' ⟨rfl, g2⟩))
        exact bodyPost_ret (v := .bool true) (by simp [results, Try.results19, go_sem] <;> simp only [*]) rfl ⟨rfl, (by repeat (with_reducible (first | assumption | exact Grown.refl _ | apply Grown.drew | apply Grown.alloc | apply gdrewN | (refine gtrans ?_ (by assumption)))))⟩
      · have e1 : (v == z) = q := by rw [← hof]; rfl
        cases q
        · obtain ⟨k1, k2, k3⟩ := KK rfl rfl
          rcases (by omega : v < z ∨ z < v) with c | c
          · clear k3 KK hof
            have x1 : v < z := by omega
            have x2 : ¬ (z < v) := by omega
            clear c
            cases b1
            · skip
              clear k2 k1 Hv Hv1 Hv2 h1 h2 h3 h4
              cases b2
              · skip
                go_enter Try.func19, Try.ntmps19
                go_wp2_with (first | (go_at_call_of 15 (Value.int IntKind.i64 z); refine (o1 _).mono ?_; rintro e w' ⟨rfl, rfl⟩) | (go_at_call_of 15 (Value.int IntKind.i64 y); refine (o2 _).mono ?_; rintro e w' ⟨rfl, rfl⟩) | (go_at_call_of 15 (Value.int IntKind.i64 (-z)); refine (o3 _).mono ?_; rintro e w' ⟨rfl, rfl⟩) | (go_at_call_of 35 (Value.float FloatKind.f32 X); refine (hwh _).mono ?_; rintro e w' ⟨rfl, rfl⟩) | (go_at_call_of 35 (Value.float FloatKind.f32 U); refine (hwu _).mono ?_; rintro e w' ⟨rfl, rfl⟩) | (go_at_call_of 35 (Value.float FloatKind.f32 D); refine (hwd _).mono ?_; rintro e w' ⟨rfl, rfl⟩) | (go_at_call 40; refine (hup _).mono ?_; rintro e w' ⟨rfl, g1⟩) | (go_at_call 41; refine (hdn _).mono ?_; rintro e w' ⟨rfl, g2⟩))
                exact bodyPost_ret (v := .bool true) (by simp [results, Try.results19, go_sem] <;> simp only [*]) rfl ⟨rfl, (by repeat (with_reducible (first | assumption | exact Grown.refl _ | apply Grown.drew | apply Grown.alloc | apply gdrewN | (refine gtrans ?_ (by assumption)))))⟩
              · skip
                go_enter Try.func19, Try.ntmps19
                go_wp2_with (first | (go_at_call_of 15 (Value.int IntKind.i64 z); refine (o1 _).mono ?_; rintro e w' ⟨rfl, rfl⟩) | (go_at_call_of 15 (Value.int IntKind.i64 y); refine (o2 _).mono ?_; rintro e w' ⟨rfl, rfl⟩) | (go_at_call_of 15 (Value.int IntKind.i64 (-z)); refine (o3 _).mono ?_; rintro e w' ⟨rfl, rfl⟩) | (go_at_call_of 35 (Value.float FloatKind.f32 X); refine (hwh _).mono ?_; rintro e w' ⟨rfl, rfl⟩) | (go_at_call_of 35 (Value.float FloatKind.f32 U); refine (hwu _).mono ?_; rintro e w' ⟨rfl, rfl⟩) | (go_at_call_of 35 (Value.float FloatKind.f32 D); refine (hwd _).mono ?_; rintro e w' ⟨rfl, rfl⟩) | (go_at_call 40; refine (hup _).mono ?_; rintro e w' ⟨rfl, g1⟩) | (go_at_call 41; refine (hdn _).mono ?_; rintro e w' ⟨rfl, g2⟩))
                exact bodyPost_ret (v := .bool true) (by simp [results, Try.results19, go_sem] <;> simp only [*]) rfl ⟨rfl, (by repeat (with_reducible (first | assumption | exact Grown.refl _ | apply Grown.drew | apply Grown.alloc | apply gdrewN | (refine gtrans ?_ (by assumption)))))⟩
            · skip
              obtain ⟨y1, y2⟩ := k2 x1 rfl
              have y3 : ¬ (v1 ≤ z) := by omega
              have y4 : IntKind.u64.wrap (IntKind.u64.wrap v1 - IntKind.u64.wrap z) = v1 - z := diffU (by omega) (by omega) (by omega) (by omega) (by omega)
              have y5 : IntKind.u64.wrap (IntKind.u64.wrap z - IntKind.u64.wrap v) = z - v := diffU (by omega) (by omega) (by omega) (by omega) (by omega)
              clear y1
              clear k2 k1 Hv Hv1 Hv2 h1 h2 h3 h4
              cases b2
              · skip
                go_enter Try.func19, Try.ntmps19
                go_wp2_with (first | (go_at_call_of 15 (Value.int IntKind.i64 z); refine (o1 _).mono ?_; rintro e w' ⟨rfl, rfl⟩) | (go_at_call_of 15 (Value.int IntKind.i64 y); refine (o2 _).mono ?_; rintro e w' ⟨rfl, rfl⟩) | (go_at_call_of 15 (Value.int IntKind.i64 (-z)); refine (o3 _).mono ?_; rintro e w' ⟨rfl, rfl⟩) | (go_at_call_of 35 (Value.float FloatKind.f32 X); refine (hwh _).mono ?_; rintro e w' ⟨rfl, rfl⟩) | (go_at_call_of 35 (Value.float FloatKind.f32 U); refine (hwu _).mono ?_; rintro e w' ⟨rfl, rfl⟩) | (go_at_call_of 35 (Value.float FloatKind.f32 D); refine (hwd _).mono ?_; rintro e w' ⟨rfl, rfl⟩) | (go_at_call 40; refine (hup _).mono ?_; rintro e w' ⟨rfl, g1⟩) | (go_at_call 41; refine (hdn _).mono ?_; rintro e w' ⟨rfl, g2⟩))
                exact bodyPost_ret (v := .bool true) (by simp [results, Try.results19, go_sem] <;> simp only [*]) rfl ⟨rfl, (by repeat (with_reducible (first | assumption | exact Grown.refl _ | apply Grown.drew | apply Grown.alloc | apply gdrewN | (refine gtrans ?_ (by assumption)))))⟩
              · skip
                go_enter Try.func19, Try.ntmps19
                go_wp2_with (first | (go_at_call_of 15 (Value.int IntKind.i64 z); refine (o1 _).mono ?_; rintro e w' ⟨rfl, rfl⟩) | (go_at_call_of 15 (Value.int IntKind.i64 y); refine (o2 _).mono ?_; rintro e w' ⟨rfl, rfl⟩) | (go_at_call_of 15 (Value.int IntKind.i64 (-z)); refine (o3 _).mono ?_; rintro e w' ⟨rfl, rfl⟩) | (go_at_call_of 35 (Value.float FloatKind.f32 X); refine (hwh _).mono ?_; rintro e w' ⟨rfl, rfl⟩) | (go_at_call_of 35 (Value.float FloatKind.f32 U); refine (hwu _).mono ?_; rintro e w' ⟨rfl, rfl⟩) | (go_at_call_of 35 (Value.float FloatKind.f32 D); refine (hwd _).mono ?_; rintro e w' ⟨rfl, rfl⟩) | (go_at_call 40; refine (hup _).mono ?_; rintro e w' ⟨rfl, g1⟩) | (go_at_call 41; refine (hdn _).mono ?_; rintro e w' ⟨rfl, g2⟩))
                exact bodyPost_ret (v := .bool true) (by simp [results, Try.results19, go_sem] <;> simp only [*]) rfl ⟨rfl, (by repeat (with_reducible (first | assumption | exact Grown.refl _ | apply Grown.drew | apply Grown.alloc | apply gdrewN | (refine gtrans ?_ (by assumption)))))⟩
          · clear k2 KK hof
            have x1 : ¬ (v < z) := by omega
            have x2 : z < v := by omega
            clear c
            cases b2
            · skip
              clear k3 k1 Hv Hv1 Hv2 h1 h2 h3 h4
              cases b1
              · skip
                go_enter Try.func19, Try.ntmps19
                go_wp2_with (first | (go_at_call_of 15 (Value.int IntKind.i64 z); refine (o1 _).mono ?_; rintro e w' ⟨rfl, rfl⟩) | (go_at_call_of 15 (Value.int IntKind.i64 y); refine (o2 _).mono ?_; rintro e w' ⟨rfl, rfl⟩) | (go_at_call_of 15 (Value.int IntKind.i64 (-z)); refine (o3 _).mono ?_; rintro e w' ⟨rfl, rfl⟩) | (go_at_call_of 35 (Value.float FloatKind.f32 X); refine (hwh _).mono ?_; rintro e w' ⟨rfl, rfl⟩) | (go_at_call_of 35 (Value.float FloatKind.f32 U); refine (hwu _).mono ?_; rintro e w' ⟨rfl, rfl⟩) | (go_at_call_of 35 (Value.float FloatKind.f32 D); refine (hwd _).mono ?_; rintro e w' ⟨rfl, rfl⟩) | (go_at_call 40; refine (hup _).mono ?_; rintro e w' ⟨rfl, g1⟩) | (go_at_call 41; refine (hdn _).mono ?_; rintro e w' ⟨rfl, g2⟩))
                exact bodyPost_ret (v := .bool true) (by simp [results, Try.results19, go_sem] <;> simp only [*]) rfl ⟨rfl, (by repeat (with_reducible (first | assumption | exact Grown.refl _ | apply Grown.drew | apply Grown.alloc | apply gdrewN | (refine gtrans ?_ (by assumption)))))⟩
              · skip
                go_enter Try.func19, Try.ntmps19
                go_wp2_with (first | (go_at_call_of 15 (Value.int IntKind.i64 z); refine (o1 _).mono ?_; rintro e w' ⟨rfl, rfl⟩) | (go_at_call_of 15 (Value.int IntKind.i64 y); refine (o2 _).mono ?_; rintro e w' ⟨rfl, rfl⟩) | (go_at_call_of 15 (Value.int IntKind.i64 (-z)); refine (o3 _).mono ?_; rintro e w' ⟨rfl, rfl⟩) | (go_at_call_of 35 (Value.float FloatKind.f32 X); refine (hwh _).mono ?_; rintro e w' ⟨rfl, rfl⟩) | (go_at_call_of 35 (Value.float FloatKind.f32 U); refine (hwu _).mono ?_; rintro e w' ⟨rfl, rfl⟩) | (go_at_call_of 35 (Value.float FloatKind.f32 D); refine (hwd _).mono ?_; rintro e w' ⟨rfl, rfl⟩) | (go_at_call 40; refine (hup _).mono ?_; rintro e w' ⟨rfl, g1⟩) | (go_at_call 41; refine (hdn _).mono ?_; rintro e w' ⟨rfl, g2⟩))
                exact bodyPost_ret (v := .bool true) (by simp [results, Try.results19, go_sem] <;> simp only [*]) rfl ⟨rfl, (by repeat (with_reducible (first | assumption | exact Grown.refl _ | apply Grown.drew | apply Grown.alloc | apply gdrewN | (refine gtrans ?_ (by assumption)))))⟩
            · skip
              obtain ⟨y1, y2⟩ := k3 x2 rfl
              have y3 : ¬ (z ≤ v2) := by omega
              have y4 : IntKind.u64.wrap (IntKind.u64.wrap z - IntKind.u64.wrap v2) = z - v2 := diffU (by omega) (by omega) (by omega) (by omega) (by omega)
              have y5 : IntKind.u64.wrap (IntKind.u64.wrap v - IntKind.u64.wrap z) = v - z := diffU (by omega) (by omega) (by omega) (by omega) (by omega)
              clear y1
              clear k3 k1 Hv Hv1 Hv2 h1 h2 h3 h4
              cases b1
              · skip
                go_enter Try.func19, Try.ntmps19
                go_wp2_with (first | (go_at_call_of 15 (Value.int IntKind.i64 z); refine (o1 _).mono ?_; rintro e w' ⟨rfl, rfl⟩) | (go_at_call_of 15 (Value.int IntKind.i64 y); refine (o2 _).mono ?_; rintro e w' ⟨rfl, rfl⟩) | (go_at_call_of 15 (Value.int IntKind.i64 (-z)); refine (o3 _).mono ?_; rintro e w' ⟨rfl, rfl⟩) | (go_at_call_of 35 (Value.float FloatKind.f32 X); refine (hwh _).mono ?_; rintro e w' ⟨rfl, rfl⟩) | (go_at_call_of 35 (Value.float FloatKind.f32 U); refine (hwu _).mono ?_; rintro e w' ⟨rfl, rfl⟩) | (go_at_call_of 35 (Value.float FloatKind.f32 D); refine (hwd _).mono ?_; rintro e w' ⟨rfl, rfl⟩) | (go_at_call 40; refine (hup _).mono ?_; rintro e w' ⟨rfl, g1⟩) | (go_at_call 41; refine (hdn _).mono ?_; rintro e w' ⟨rfl, g2⟩))
                exact bodyPost_ret (v := .bool true) (by simp [results, Try.results19, go_sem] <;> simp only [*]) rfl ⟨rfl, (by repeat (with_reducible (first | assumption | exact Grown.refl _ | apply Grown.drew | apply Grown.alloc | apply gdrewN | (refine gtrans ?_ (by assumption)))))⟩
              · skip
                go_enter Try.func19, Try.ntmps19
                go_wp2_with (first | (go_at_call_of 15 (Value.int IntKind.i64 z); refine (o1 _).mono ?_; rintro e w' ⟨rfl, rfl⟩) | (go_at_call_of 15 (Value.int IntKind.i64 y); refine (o2 _).mono ?_; rintro e w' ⟨rfl, rfl⟩) | (go_at_call_of 15 (Value.int IntKind.i64 (-z)); refine (o3 _).mono ?_; rintro e w' ⟨rfl, rfl⟩) | (go_at_call_of 35 (Value.float FloatKind.f32 X); refine (hwh _).mono ?_; rintro e w' ⟨rfl, rfl⟩) | (go_at_call_of 35 (Value.float FloatKind.f32 U); refine (hwu _).mono ?_; rintro e w' ⟨rfl, rfl⟩) | (go_at_call_of 35 (Value.float FloatKind.f32 D); refine (hwd _).mono ?_; rintro e w' ⟨rfl, rfl⟩) | (go_at_call 40; refine (hup _).mono ?_; rintro e w' ⟨rfl, g1⟩) | (go_at_call 41; refine (hdn _).mono ?_; rintro e w' ⟨rfl, g2⟩))
                exact bodyPost_ret (v := .bool true) (by simp [results, Try.results19, go_sem] <;> simp only [*]) rfl ⟨rfl, (by repeat (with_reducible (first | assumption | exact Grown.refl _ | apply Grown.drew | apply Grown.alloc | apply gdrewN | (refine gtrans ?_ (by assumption)))))⟩
        · clear hof KK Hv Hv1 Hv2
          go_enter Try.func19, Try.ntmps19
          go_wp2_with (first | (go_at_call_of 15 (Value.int IntKind.i64 z); refine (o1 _).mono ?_; rintro e w' ⟨rfl, rfl⟩) | (go_at_call_of 15 (Value.int IntKind.i64 y); refine (o2 _).mono ?_; rintro e w' ⟨rfl, rfl⟩) | (go_at_call_of 15 (Value.int IntKind.i64 (-z)); refine (o3 _).mono ?_; rintro e w' ⟨rfl, rfl⟩) | (go_at_call_of 35 (Value.float FloatKind.f32 X); refine (hwh _).mono ?_; rintro e w' ⟨rfl, rfl⟩) | (go_at_call_of 35 (Value.float FloatKind.f32 U); refine (hwu _).mono ?_; rintro e w' ⟨rfl, rfl⟩) | (go_at_call_of 35 (Value.float FloatKind.f32 D); refine (hwd _).mono ?_; rintro e w' ⟨rfl, rfl⟩) | (go_at_call 40; refine (hup _).mono ?_; rintro e w' ⟨rfl, g1⟩) | (go_at_call 41; refine (hdn _).mono ?_; rintro e w' ⟨rfl, g2⟩))
          exact bodyPost_ret (v := .bool true) (by simp [results, Try.results19, go_sem] <;> simp only [*]) rfl ⟨rfl, (by repeat (with_reducible (first | assumption | exact Grown.refl _ | apply Grown.drew | apply Grown.alloc | apply gdrewN | (refine gtrans ?_ (by assumption)))))⟩

end Go.Proofs.Ytkjcdhbhhiaaiaa
