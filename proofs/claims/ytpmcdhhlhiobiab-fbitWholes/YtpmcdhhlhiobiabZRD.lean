import Derived.Test.YtpmcdhhlhiobiabProg
import Derived.Test.YtpmcdhhlhiobiabM
import Derived.Test.YtpmcdhhlhiobiabM5
import Derived.Test.YtpmcdhhlhiobiabM6
import Derived.Test.YtpmcdhhlhiobiabA
import Derived.Test.YtpmcdhhlhiobiabRD
import Derived.Test.YtpmcdhhlhiobiabRS
import Derived.WalkKit
import Derived.ProofKit
import Derived.RowKit3
import Derived.Deep.RegionHeld3
import Derived.WalkSpells
import Derived.StillTactics
import Derived.Laws.FloatArith
import Derived.Deep.QuietTactic
import Derived.BigQuiet
namespace Go.Proofs.Ytpmcdhhlhiobiab
open Go.RowKit
set_option maxRecDepth 20000 in
set_option maxHeartbeats 4000000 in
theorem rwhole_D (n : Bool) (m : Nat) (h1 : m < 9223372036854775808) (w : World) : Calls Try.prog 34 #[.bool true, .int .u64 ((wD n m : Nat) : Int)] w fun e w' => e = .returned (.tuple #[.int .i64 (if wokD n m then wvD n m else 0), .bool (wokD n m)]) ∧ Grown w w' := by
  have hof := rof_D n m h1
  obtain ⟨x, hx⟩ : ∃ x : Int, x = ((wD n m : Nat) : Int) := ⟨_, rfl⟩
  rw [← hx] at hof ⊢
  clear hx
  by_cases c0 : 9218868437227405312 ≤ m
  · have hw := wokD_inf n m c0
    rw [hw]
    simp only [Bool.false_eq_true, if_false]
    obtain ⟨kd, hk⟩ : ∃ kd : Int, kd = kdD m := ⟨_, rfl⟩
    have e1 : (kd != 0) = true := by rw [hk]; unfold kdD kdG; simp; (repeat' split) <;> omega
    rw [← hk] at hof
    clear hk hw c0 h1
    go_enter Try.func34, Try.ntmps34
    go_wp2_with (first | (go_at_call 43; refine (hof _).mono ?_; rintro e w' ⟨rfl, g1⟩))
    exact bodyPost_ret (v := .tuple #[.int .i64 0, .bool false]) (by simp [results, Try.results34, go_sem] <;> simp only [*]) rfl ⟨rfl, (by repeat (with_reducible (first | assumption | exact Grown.refl _ | apply Grown.drew | apply Grown.alloc | apply gdrewN | (refine gtrans ?_ (by assumption)))))⟩
  have e1 : kdD m = 0 := by unfold kdD kdG; (repeat' split) <;> omega
  rw [e1] at hof
  by_cases cz : m = 0
  · obtain ⟨hw, hv⟩ := wokD_zero n
    rw [cz, hw, hv]
    simp only [if_true]
    obtain ⟨s, hs⟩ : ∃ s : Int, s = ((sgD m : Nat) : Int) := ⟨_, rfl⟩
    have d1 : (s == 0) = true := by rw [hs, cz]; rfl
    rw [← hs] at hof
    clear hs hw hv cz c0 h1 e1
    go_enter Try.func34, Try.ntmps34
    go_wp2_with (first | (go_at_call 43; refine (hof _).mono ?_; rintro e w' ⟨rfl, g1⟩))
    exact bodyPost_ret (v := .tuple #[.int .i64 0, .bool true]) (by simp [results, Try.results34, go_sem] <;> simp only [*]) rfl ⟨rfl, (by repeat (with_reducible (first | assumption | exact Grown.refl _ | apply Grown.drew | apply Grown.alloc | apply gdrewN | (refine gtrans ?_ (by assumption)))))⟩
  have hj := J1D_start m cz (by omega)
  obtain ⟨s0, hs⟩ : ∃ s : Int, s = ((sgD m : Nat) : Int) := ⟨_, rfl⟩
  obtain ⟨x0, he⟩ : ∃ e : Int, e = epD m := ⟨_, rfl⟩
  rw [← hs, ← he] at hof hj
  have d1 : (s0 == 0) = false := by have := hj.1; simp; omega
  clear hs he cz c0 h1 e1
  obtain ⟨V, hV⟩ : ∃ V : Int, V = (if wokD n m then wvD n m else 0) := ⟨_, rfl⟩
  obtain ⟨O, hO⟩ : ∃ O : Bool, O = wokD n m := ⟨_, rfl⟩
  rw [← hV, ← hO]
  go_enter Try.func34, Try.ntmps34
  go_wp2_with (first | (go_at_call 43; refine (hof _).mono ?_; rintro e w' ⟨rfl, g1⟩))
  go_loop [7, 8] (fun a b => ∃ s e : Int, a = .int .u64 s ∧ b = .int .i64 e ∧ J1D m s e) (fun _ b => (-(intOf b)).toNat)
  case atStart => exact ⟨_, _, rfl, rfl, hj⟩
  case round =>
    obtain ⟨s, e, rfl, rfl, hj1⟩ := hrel
    obtain ⟨a1, a2, a3, a4, a5⟩ := id hj1
    by_cases c1 : e < 0
    · by_cases c2 : s % 2 = 0
      · have j2 := J1D_step m s e hj1 c1 c2
        have f1 : (s.tmod 2 == 0) = true := by rw [Int.tmod_eq_emod_of_nonneg (by omega)]; simp [c2]
        have f2 : IntKind.u64.wrap (s.tdiv 2) = s / 2 := by rw [Int.tdiv_eq_ediv_of_nonneg (by omega), wrapU (by omega) (by omega)]
        have f3 : wrap64 (e + 1) = e + 1 := wrapI (by omega) (by omega)
        have f4 : (-(e + 1)).toNat < (-e).toNat := by omega
        clear hj1 a1 a2 a3 a4 a5 c2 hj hV hO d1
        go_wp2
        rw [f3]
        exact ⟨⟨_, _, rfl, rfl, j2⟩, f4⟩
      · have hw : wokD n m = false := by unfold wokD; rw [decide_eq_false (J1D_odd m s e hj1 c1 c2)]; simp
        obtain rfl : O = false := by rw [hO, hw]
        obtain rfl : V = 0 := by rw [hV, hw]; rfl
        have f1 : (s.tmod 2 == 0) = false := by rw [Int.tmod_eq_emod_of_nonneg (by omega)]; simp; omega
        clear hj1 a1 a2 a3 a4 a5 c2 hj hV hO d1 hw
        go_wp2
        exact bodyPost_ret (v := .tuple #[.int .i64 0, .bool false]) (by simp [results, Try.results34, go_sem] <;> simp only [*]) rfl ⟨rfl, (by repeat (with_reducible (first | assumption | exact Grown.refl _ | apply Grown.drew | apply Grown.alloc | apply gdrewN | (refine gtrans ?_ (by assumption)))))⟩
    · have j0 := J1D_whole m s e hj1 (by omega)
      clear hj1 a1 a2 a3 a4 a5 hj d1
      go_wp2
      go_loop [7, 8] (fun a b => ∃ s e : Int, a = .int .u64 s ∧ b = .int .i64 e ∧ J2D m s e) (fun _ b => (intOf b).toNat)
      case atStart => exact ⟨_, _, rfl, rfl, j0⟩
      case round =>
        clear j0 c1
        obtain ⟨s, e, rfl, rfl, hj2⟩ := hrel
        obtain ⟨a1, a2, a3, a4, a5, a6⟩ := id hj2
        by_cases c1 : 0 < e
        · by_cases c2 : s < 9223372036854775808
          · have j2 := J2D_step m s e hj2 c1 c2
            have f2 : IntKind.u64.wrap (s * 2) = s * 2 := wrapU (by omega) (by omega)
            have f3 : wrap64 (e - 1) = e - 1 := wrapI (by omega) (by omega)
            have f4 : (e - 1).toNat < e.toNat := by omega
            have f5 : decide (s < 9223372036854775808) = true := by simp [c2]
            clear hj2 a1 a2 a3 a4 a5 a6 hV hO c2
            go_wp2
            rw [f3]
            exact ⟨⟨_, _, rfl, rfl, j2⟩, f4⟩
          · have hw := J2D_far n m s e hj2 c1 c2
            obtain rfl : O = false := by rw [hO, hw]
            obtain rfl : V = 0 := by rw [hV, hw]; rfl
            have f5 : decide (s < 9223372036854775808) = false := by simp; omega
            clear hj2 a1 a2 a3 a4 a5 a6 hV hO c2 hw
            go_wp2
            exact bodyPost_ret (v := .tuple #[.int .i64 0, .bool false]) (by simp [results, Try.results34, go_sem] <;> simp only [*]) rfl ⟨rfl, (by repeat (with_reducible (first | assumption | exact Grown.refl _ | apply Grown.drew | apply Grown.alloc | apply gdrewN | (refine gtrans ?_ (by assumption)))))⟩
        · obtain rfl : e = 0 := by omega
          obtain ⟨k1, k2, k3⟩ := J2D_end n m s hj2
          have f1 : wrap64 s = s ∨ True := Or.inr trivial
          by_cases c2 : s < 9223372036854775808
          · have hw := k2 (Or.inl c2)
            obtain rfl : O = true := by rw [hO, hw]
            have hv : V = if n then -s else s := by rw [hV, hw]; unfold wvD; rw [k1]; rfl
            have g2 : wrap64 s = s := wrapI (by omega) (by omega)
            have g3 : wrap64 (-s) = -s := wrapI (by omega) (by omega)
            have g4 : (s == 9223372036854775808) = false := by simp; omega
            have g5 : ¬ (9223372036854775808 ≤ s) := by omega
            clear hj2 a1 a2 a3 a4 a5 a6 hV hO c2 hw k1 k2 k3 f1 c1
            cases n
            · obtain rfl : V = s := hv
              go_wp2
              exact bodyPost_ret (v := .tuple #[.int .i64 V, .bool true]) (by simp [results, Try.results34, go_sem] <;> simp only [*]) rfl ⟨rfl, (by repeat (with_reducible (first | assumption | exact Grown.refl _ | apply Grown.drew | apply Grown.alloc | apply gdrewN | (refine gtrans ?_ (by assumption)))))⟩
            · obtain rfl : V = -s := hv
              go_wp2
              exact bodyPost_ret (v := .tuple #[.int .i64 (-s), .bool true]) (by simp [results, Try.results34, go_sem] <;> simp only [*]) rfl ⟨rfl, (by repeat (with_reducible (first | assumption | exact Grown.refl _ | apply Grown.drew | apply Grown.alloc | apply gdrewN | (refine gtrans ?_ (by assumption)))))⟩
          · by_cases c3 : n = true ∧ s = 9223372036854775808
            · have hw := k2 (Or.inr c3)
              obtain ⟨rfl, hs⟩ := c3
              obtain rfl : O = true := by rw [hO, hw]
              have hv : V = -9223372036854775808 := by rw [hV, hw]; unfold wvD; rw [k1, hs]; rfl
              have g4 : (s == 9223372036854775808) = true := by simp [hs]
              clear hj2 a1 a2 a3 a4 a5 a6 hV hO c2 hw k1 k2 k3 f1 c1 hs
              go_wp2
              exact bodyPost_ret (v := .tuple #[.int .i64 (-9223372036854775808), .bool true]) (by simp [results, Try.results34, go_sem] <;> simp only [*]) rfl ⟨rfl, (by repeat (with_reducible (first | assumption | exact Grown.refl _ | apply Grown.drew | apply Grown.alloc | apply gdrewN | (refine gtrans ?_ (by assumption)))))⟩
            · have hw := k3 ⟨c2, c3⟩
              obtain rfl : O = false := by rw [hO, hw]
              obtain rfl : V = 0 := by rw [hV, hw]; rfl
              have g5 : 9223372036854775808 ≤ s := by omega
              have g4 : n = true → (s == 9223372036854775808) = false := by intro hn; simp; intro hs; exact c3 ⟨hn, hs⟩
              clear hj2 a1 a2 a3 a4 a5 a6 hV hO c2 c3 hw k1 k2 k3 f1 c1
              cases n
              · clear g4
                go_wp2
                exact bodyPost_ret (v := .tuple #[.int .i64 0, .bool false]) (by simp [results, Try.results34, go_sem] <;> simp only [*]) rfl ⟨rfl, (by repeat (with_reducible (first | assumption | exact Grown.refl _ | apply Grown.drew | apply Grown.alloc | apply gdrewN | (refine gtrans ?_ (by assumption)))))⟩
              · have g6 := g4 rfl
                clear g4
                go_wp2
                exact bodyPost_ret (v := .tuple #[.int .i64 0, .bool false]) (by simp [results, Try.results34, go_sem] <;> simp only [*]) rfl ⟨rfl, (by repeat (with_reducible (first | assumption | exact Grown.refl _ | apply Grown.drew | apply Grown.alloc | apply gdrewN | (refine gtrans ?_ (by assumption)))))⟩

end Go.Proofs.Ytpmcdhhlhiobiab
