import Derived.Test.YtkjcnnjgaififaaDoorProg
import Derived.Test.YtkjcnnjgaififaaDoorKA
import Derived.Test.YtkjcnnjgaififaaDoorKA2
import Derived.Test.YtkjcnnjgaififaaDoorKA3
import Derived.Test.YtkjcnnjgaififaaDoorKA4
import Derived.Test.YtkjcnnjgaififaaDoorKXM
import Derived.Test.YtkjcnnjgaififaaDoorKXT
import Derived.Test.YtkjcnnjgaififaaDoorKNG
import Derived.Test.YtkjcnnjgaififaaDoorKNL
import Derived.WalkKit
import Derived.ProofKit
import Derived.RowKit3
import Derived.WalkSpells
import Derived.StillTactics
import Derived.Deep.QuietTactic
import Derived.BigQuiet
import Derived.Below
import Derived.Deep.OwnRows
import Derived.OwnWalk
namespace Go.Proofs.YtkjcnnjgaififaaDoor
open Go.RowKit
theorem Arr.take {w : World} {p : Option Addr} {xs : List Int} (h : Arr w p xs) (k : Nat) : Arr w p (xs.take k) := by
  rcases h with h | ⟨b, off, h1, h2⟩
  · subst h; exact Or.inl (by simp)
  · refine Or.inr ⟨b, off, h1, fun j hj => ?_⟩
    have hj2 : j < k ∧ j < xs.length := by simp at hj; omega
    rw [h2 j hj2.2]; simp [List.getD, hj2.1]
theorem sum_any (p q : Option Addr) (c d : Nat) (xs ys : List Int) (w : World) (hx : Arr w p xs) (hy : Arr w q ys) (hwx : Wd xs) (hwy : Wd ys) (lx : xs.length < 1099511627775) (ly : ys.length < 1099511627775) :
    Calls Tryd.prog 48 #[.slice p xs.length c, .slice q ys.length d] w fun e w' => ∃ v, e = .returned v ∧ Own w' w.heap.size v (dig (val xs + val ys)) ∧ Kp w w' := by
  by_cases h : ys.length ≤ xs.length
  · exact sum_ge p q c d xs ys w hx hy hwx hwy lx h
  · rw [Nat.add_comm]
    exact sum_lt q p d c ys xs w hy hx hwy hwx ly (by omega)
set_option maxRecDepth 20000 in
set_option maxHeartbeats 1000000 in
theorem nadd_ (p q : Option Addr) (c d : Nat) (xs ys : List Int) (w : World) (hx : Arr w p xs) (hy : Arr w q ys) (hwx : Wd xs) (hwy : Wd ys) (lx : xs.length < 1099511627775) (ly : ys.length < 1099511627775) (hc : xs.length ≤ c) (hd : ys.length ≤ d) :
    Calls Tryd.prog 19 #[.slice p xs.length c, .slice q ys.length d] w fun e w' => ∃ v, e = .returned (.tuple #[v, .int .i64 (addN (val xs) (val ys)).2]) ∧ Own w' w.heap.size v (addN (val xs) (val ys)).1 ∧ Kp w w' := by
  have h1 := trim_ p c xs w hx (by omega) hc
  have h2 := trim_ q d ys w hy (by omega) hd
  have h3 := tooLong_ p (tl xs) c
  have h4 := tooLong_ q (tl ys) d
  have h5 := sum_any p q c d (nz xs) (nz ys) w (hx.take _) (hy.take _) (hwx.take _) (hwy.take _) (by rw [nz_length]; have := tl_le xs; omega) (by rw [nz_length]; have := tl_le ys; omega)
  rw [nz_length, nz_length, val_nz, val_nz] at h5
  have e1 := tl_len xs hwx
  have e2 := tl_len ys hwy
  obtain ⟨N, hN⟩ : ∃ N, N = xs.length := ⟨_, rfl⟩
  obtain ⟨M, hM⟩ : ∃ M, M = ys.length := ⟨_, rfl⟩
  obtain ⟨S, hS⟩ : ∃ S, S = tl xs := ⟨_, rfl⟩
  obtain ⟨T, hT⟩ : ∃ T, T = tl ys := ⟨_, rfl⟩
  rw [← hN, ← hS] at h1
  rw [← hM, ← hT] at h2
  rw [← hS] at h3 h5 e1
  rw [← hT] at h4 h5 e2
  rw [← hN, ← hM]
  by_cases c1 : 16384 < S
  · rw [decide_eq_true c1] at h3
    have e3 : addN (val xs) (val ys) = ([], 2) := by unfold addN; rw [if_pos (Or.inl (by omega))]
    rw [e3]
    clear hx hy hwx hwy lx ly hc hd hN hM hS hT h4 h5 c1 e1 e2 e3
    go_enter Tryd.func19, Tryd.ntmps19
    go_wp2_with fail
    refine h1.mono ?_; rintro e w' ⟨rfl, rfl⟩
    go_wp2_with fail
    refine h2.mono ?_; rintro e w' ⟨rfl, rfl⟩
    go_wp2_with fail
    refine (h3 _).mono ?_; rintro e w' ⟨rfl, rfl⟩
    go_wp2
    exact bodyPost_ret (v := .tuple #[.slice none 0 0, .int .i64 2]) (by simp [results, Tryd.results19, go_sem] <;> simp only [*]) rfl ⟨_, rfl, Own.nil _ _, Kp.refl _⟩
  rw [decide_eq_false c1] at h3
  by_cases c2 : 16384 < T
  · rw [decide_eq_true c2] at h4
    have e3 : addN (val xs) (val ys) = ([], 2) := by unfold addN; rw [if_pos (Or.inr (by omega))]
    rw [e3]
    clear hx hy hwx hwy lx ly hc hd hN hM hS hT h5 c1 c2 e1 e2 e3
    go_enter Tryd.func19, Tryd.ntmps19
    go_wp2_with fail
    refine h1.mono ?_; rintro e w' ⟨rfl, rfl⟩
    go_wp2_with fail
    refine h2.mono ?_; rintro e w' ⟨rfl, rfl⟩
    go_wp2_with fail
    refine (h3 _).mono ?_; rintro e w' ⟨rfl, rfl⟩
    go_wp2_with fail
    refine (h4 _).mono ?_; rintro e w' ⟨rfl, rfl⟩
    go_wp2
    exact bodyPost_ret (v := .tuple #[.slice none 0 0, .int .i64 2]) (by simp [results, Tryd.results19, go_sem] <;> simp only [*]) rfl ⟨_, rfl, Own.nil _ _, Kp.refl _⟩
  rw [decide_eq_false c2] at h4
  have e0 : addN (val xs) (val ys) = if 16384 < len32 (val xs + val ys) then ([], 2) else (dig (val xs + val ys), 0) := by unfold addN; rw [if_neg (by omega)]
  obtain ⟨K, hK⟩ : ∃ K, K = val xs + val ys := ⟨_, rfl⟩
  rw [e0, ← hK]
  rw [← hK] at h5
  clear hx hy hwx hwy hc hd hN hM hS hT c1 c2 e0 hK e1 e2
  by_cases c3 : 16384 < len32 K
  · rw [if_pos c3]
    go_enter Tryd.func19, Tryd.ntmps19
    go_wp2_with fail
    refine h1.mono ?_; rintro e w' ⟨rfl, rfl⟩
    go_wp2_with fail
    refine h2.mono ?_; rintro e w' ⟨rfl, rfl⟩
    go_wp2_with fail
    refine (h3 _).mono ?_; rintro e w' ⟨rfl, rfl⟩
    go_wp2_with fail
    refine (h4 _).mono ?_; rintro e w' ⟨rfl, rfl⟩
    go_wp2_with fail
    refine h5.mono ?_; rintro e w1 ⟨v, rfl, hO, hkp⟩
    obtain ⟨p1, cc, rfl, hA, _⟩ := hO.arr
    have hf := unlessLong_ p1 (dig K).length cc
    have c4 : (16384 < (dig K).length) := c3
    rw [if_pos c4] at hf
    clear c4
    obtain ⟨D, hD⟩ : ∃ D, D = (dig K).length := ⟨_, rfl⟩
    have hO' : Own w1 w'.heap.size (.slice p1 D cc) (dig K) := by rw [hD]; exact hO
    rw [← hD] at hf ⊢
    clear hA h1 h2 h3 h4 h5 hD c3 hO
    go_wp2_with fail
    refine (hf _).mono ?_; rintro e w2 ⟨rfl, rfl⟩
    go_wp2
    exact bodyPost_ret (v := .tuple #[.slice none 0 0, .int .i64 2]) (by simp [results, Tryd.results19, go_sem] <;> simp only [*]) rfl ⟨_, rfl, Own.nil _ _, hkp⟩
  · rw [if_neg c3]
    go_enter Tryd.func19, Tryd.ntmps19
    go_wp2_with fail
    refine h1.mono ?_; rintro e w' ⟨rfl, rfl⟩
    go_wp2_with fail
    refine h2.mono ?_; rintro e w' ⟨rfl, rfl⟩
    go_wp2_with fail
    refine (h3 _).mono ?_; rintro e w' ⟨rfl, rfl⟩
    go_wp2_with fail
    refine (h4 _).mono ?_; rintro e w' ⟨rfl, rfl⟩
    go_wp2_with fail
    refine h5.mono ?_; rintro e w1 ⟨v, rfl, hO, hkp⟩
    obtain ⟨p1, cc, rfl, hA, _⟩ := hO.arr
    have hf := unlessLong_ p1 (dig K).length cc
    have c4 : ¬ (16384 < (dig K).length) := c3
    rw [if_neg c4] at hf
    clear c4
    obtain ⟨D, hD⟩ : ∃ D, D = (dig K).length := ⟨_, rfl⟩
    have hO' : Own w1 w'.heap.size (.slice p1 D cc) (dig K) := by rw [hD]; exact hO
    rw [← hD] at hf ⊢
    clear hA h1 h2 h3 h4 h5 hD c3 hO
    go_wp2_with fail
    refine (hf _).mono ?_; rintro e w2 ⟨rfl, rfl⟩
    go_wp2
    exact bodyPost_ret (v := .tuple #[.slice p1 D cc, .int .i64 0]) (by simp [results, Tryd.results19, go_sem] <;> simp only [*]) rfl ⟨_, rfl, hO', hkp⟩

end Go.Proofs.YtkjcnnjgaififaaDoor
