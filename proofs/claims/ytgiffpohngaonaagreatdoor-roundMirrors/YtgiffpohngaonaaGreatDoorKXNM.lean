import Derived.Test.YtgiffpohngaonaaGreatDoorProg
import Derived.Test.YtgiffpohngaonaaGreatDoorKXA0
import Derived.Test.YtgiffpohngaonaaGreatDoorKXM
import Derived.Test.YtgiffpohngaonaaGreatDoorKXT
import Derived.Test.YtgiffpohngaonaaGreatDoorKXPR
import Derived.Test.YtgiffpohngaonaaGreatDoorKXN
import Derived.WalkKit
import Derived.ProofKit
import Derived.RowKit3
import Derived.WalkSpells
import Derived.StillTactics
import Derived.Deep.QuietTactic
import Derived.BigQuiet
import Derived.Below
import Derived.Deep.OwnRows
import Derived.OwnWalk
namespace Go.Proofs.YtgiffpohngaonaaGreatDoor
open Go.RowKit
theorem row2 (w : World) (x y : Int) : Rw (w.alloc (.cells #[.int .u32 x, .int .u32 y] 83)) w.heap.size 2 [x, y] := by
  have := World.rowIs_alloc w #[.int .u32 x, .int .u32 y] 83 (fun i => .int .u32 ([x, y].getD i 0)) (fun i hi => by
    have h : i = 0 ∨ i = 1 := by simp at hi; omega
    rcases h with rfl | rfl <;> rfl)
  exact this
theorem row1 (w : World) (x : Int) : Rw (w.alloc (.cells #[.int .u32 x] 83)) w.heap.size 1 [x] := by
  have := World.rowIs_alloc w #[.int .u32 x] 83 (fun i => .int .u32 ([x].getD i 0)) (fun i hi => by
    have h : i = 0 := by simp at hi; omega
    rcases h with rfl; rfl)
  exact this
theorem own1 (w : World) : Own (w.alloc (.cells #[.int .u32 1] 83)) w.heap.size (.slice (some ⟨w.heap.size, 0, none⟩) 1 1) [1] :=
  Own.of_row (row1 w 1) (Nat.le_refl _) (Nat.le_refl _) rfl (by unfold maxLen; omega)
set_option maxRecDepth 20000 in
set_option maxHeartbeats 1000000 in
theorem nsmall_ (v : Nat) (hv : v < 18446744073709551616) (w : World) :
    Calls Tryz.prog 40 #[.int .u64 (v : Int)] w fun e w' => ∃ r, e = .returned r ∧ Own w' w.heap.size r (dig v) ∧ Kp w w' := by
  obtain ⟨lo, hlo⟩ : ∃ lo : Nat, lo = v % 4294967296 := ⟨_, rfl⟩
  obtain ⟨hi, hhi⟩ : ∃ hi : Nat, hi = v / 4294967296 := ⟨_, rfl⟩
  have f1 : IntKind.u32.wrap (v : Int) = (lo : Int) := by rw [IntKind.wrap_u32]; omega
  have f2 : (v : Int) / 4294967296 = (hi : Int) := by omega
  have f3 : IntKind.u32.wrap (hi : Int) = (hi : Int) := by rw [IntKind.wrap_u32]; omega
  have hw : Wd [(lo : Int), (hi : Int)] := Wd.mk (by omega) (Wd.mk (by omega) Wd.nil)
  have hval : val [(lo : Int), (hi : Int)] = v := by simp [val]; omega
  have hr := row2 w (lo : Int) (hi : Int)
  have htr := trim_ (some ⟨w.heap.size, 0, none⟩) 2 [(lo : Int), (hi : Int)] _ (by simpa using hr.arr 2 (Nat.le_refl _) (by simp)) (by simp) (by simp)
  have hO : Own (w.alloc (.cells #[.int .u32 (lo : Int), .int .u32 (hi : Int)] 83)) w.heap.size (.slice (some ⟨w.heap.size, 0, none⟩) (tl [(lo : Int), (hi : Int)]) 2) (dig v) := by
    have h1 := Own.of_row (base := w.heap.size) (k := tl [(lo : Int), (hi : Int)]) hr (Nat.le_refl _) (tl_le _) rfl (by unfold maxLen; omega)
    have h2 : [(lo : Int), (hi : Int)].take (tl [(lo : Int), (hi : Int)]) = dig v := by rw [← hval, ← nz_dig _ hw]; rfl
    rw [h2] at h1
    exact h1
  have hk : Kp w (w.alloc (.cells #[.int .u32 (lo : Int), .int .u32 (hi : Int)] 83)) := (Kp.refl w).alloc _
  obtain ⟨T, hT⟩ : ∃ T, T = tl [(lo : Int), (hi : Int)] := ⟨_, rfl⟩
  rw [← hT] at htr hO
  have htr2 : Calls Tryz.prog 66 #[.slice (some ⟨w.heap.size, 0, none⟩) 2 2] (w.alloc (.cells #[.int .u32 (lo : Int), .int .u32 (hi : Int)] 83)) fun e w' => e = .returned (.slice (some ⟨w.heap.size, 0, none⟩) T 2) ∧ w' = w.alloc (.cells #[.int .u32 (lo : Int), .int .u32 (hi : Int)] 83) := htr
  clear htr hT hval hw hlo hhi hv hr
  go_enter Tryz.func40, Tryz.ntmps40
  go_wp2_with fail
  refine htr2.mono ?_; rintro e w' ⟨rfl, hw'⟩; subst hw'
  clear htr2
  go_wp2
  exact bodyPost_ret (v := .slice (some ⟨w.heap.size, 0, none⟩) T 2) (by simp [results, Tryz.results40, go_sem] <;> simp only [*]) rfl ⟨_, rfl, hO, hk⟩
set_option maxRecDepth 20000 in
set_option maxHeartbeats 1000000 in
theorem nmul_ (p q : Option Addr) (c d : Nat) (xs ys : List Int) (w : World) (hx : Arr w p xs) (hy : Arr w q ys) (hwx : Wd xs) (hwy : Wd ys) (lx : xs.length ≤ 16777216) (ly : ys.length ≤ 16777216) (hc : xs.length ≤ c) (hd : ys.length ≤ d) :
    Calls Tryz.prog 47 #[.slice p xs.length c, .slice q ys.length d] w fun e w' => ∃ v, e = .returned (.tuple #[v, .int .i64 (mulN (val xs) (val ys)).2]) ∧ Own w' w.heap.size v (mulN (val xs) (val ys)).1 ∧ Kp w w' := by
  have h1 := trim_ p c xs w hx (by omega) hc
  have h2 := trim_ q d ys w hy (by omega) hd
  have h3 := tooLong_ p (tl xs) c
  have h4 := tooLong_ q (tl ys) d
  have h5 := product_ p q c d (nz xs) (nz ys) w (hx.take _) (hy.take _) (hwx.take _) (hwy.take _) (by rw [nz_length]; have := tl_le xs; omega) (by rw [nz_length]; have := tl_le ys; omega)
  rw [nz_length, nz_length, val_nz, val_nz] at h5
  have e1 := tl_len xs hwx
  have e2 := tl_len ys hwy
  have lS := tl_le xs
  have lT := tl_le ys
  obtain ⟨a, ha⟩ : ∃ a, a = val xs := ⟨_, rfl⟩
  obtain ⟨b, hb'⟩ : ∃ b, b = val ys := ⟨_, rfl⟩
  rw [← ha, ← hb'] at h5
  rw [← ha] at e1
  rw [← hb'] at e2
  obtain ⟨N, hN⟩ : ∃ N, N = xs.length := ⟨_, rfl⟩
  obtain ⟨M, hM⟩ : ∃ M, M = ys.length := ⟨_, rfl⟩
  obtain ⟨S, hS⟩ : ∃ S, S = tl xs := ⟨_, rfl⟩
  obtain ⟨T, hT⟩ : ∃ T, T = tl ys := ⟨_, rfl⟩
  rw [← hN, ← hS] at h1
  rw [← hM, ← hT] at h2
  rw [← hS] at h3 h5 e1 lS
  rw [← hT] at h4 h5 e2 lT
  rw [← hN, ← hM, ← ha, ← hb']
  have lS2 : S ≤ 16777216 := by omega
  have lT2 : T ≤ 16777216 := by omega
  clear hx hy hwx hwy lx ly hc hd hN hM hS hT ha hb' lS lT
  by_cases c1 : 16384 < S
  · rw [decide_eq_true c1] at h3
    have e3 : mulN a b = ([], 2) := by unfold mulN; rw [if_pos (Or.inl (by omega))]
    rw [e3]
    clear h4 h5 c1 e1 e2 e3 lS2 lT2
    go_enter Tryz.func47, Tryz.ntmps47
    go_wp2_with fail
    refine h1.mono ?_; rintro e w' ⟨rfl, hw'⟩; obtain rfl := hw'.symm
    go_wp2_with fail
    refine h2.mono ?_; rintro e w' ⟨rfl, hw'⟩; obtain rfl := hw'.symm
    go_wp2_with fail
    refine (h3 _).mono ?_; rintro e w' ⟨rfl, hw'⟩; obtain rfl := hw'.symm
    go_wp2
    exact bodyPost_ret (v := .tuple #[.slice none 0 0, .int .i64 2]) (by simp [results, Tryz.results47, go_sem] <;> simp only [*]) rfl ⟨_, rfl, Own.nil _ _, Kp.refl _⟩
  rw [decide_eq_false c1] at h3
  by_cases c2 : 16384 < T
  · rw [decide_eq_true c2] at h4
    have e3 : mulN a b = ([], 2) := by unfold mulN; rw [if_pos (Or.inr (by omega))]
    rw [e3]
    clear h5 c1 c2 e1 e2 e3 lS2 lT2
    go_enter Tryz.func47, Tryz.ntmps47
    go_wp2_with fail
    refine h1.mono ?_; rintro e w' ⟨rfl, hw'⟩; obtain rfl := hw'.symm
    go_wp2_with fail
    refine h2.mono ?_; rintro e w' ⟨rfl, hw'⟩; obtain rfl := hw'.symm
    go_wp2_with fail
    refine (h3 _).mono ?_; rintro e w' ⟨rfl, hw'⟩; obtain rfl := hw'.symm
    go_wp2_with fail
    refine (h4 _).mono ?_; rintro e w' ⟨rfl, hw'⟩; obtain rfl := hw'.symm
    go_wp2
    exact bodyPost_ret (v := .tuple #[.slice none 0 0, .int .i64 2]) (by simp [results, Tryz.results47, go_sem] <;> simp only [*]) rfl ⟨_, rfl, Own.nil _ _, Kp.refl _⟩
  rw [decide_eq_false c2] at h4
  have e0 : mulN a b = if 16384 < len32 (a * b) then ([], 2) else (dig (a * b), 0) := by unfold mulN; rw [if_neg (by omega)]
  by_cases c5 : 16384 < S + T - 1
  · have c6 := mul_words a b 16384 (by omega) (by omega) (by omega)
    rw [e0, if_pos c6]
    have t1 : (16384 : Int) < (S : Int) + (T : Int) - 1 := by omega
    clear h5 c1 c2 e1 e2 e0 c5 c6
    go_enter Tryz.func47, Tryz.ntmps47
    go_wp2_with fail
    refine h1.mono ?_; rintro e w' ⟨rfl, hw'⟩; obtain rfl := hw'.symm
    go_wp2_with fail
    refine h2.mono ?_; rintro e w' ⟨rfl, hw'⟩; obtain rfl := hw'.symm
    go_wp2_with fail
    refine (h3 _).mono ?_; rintro e w' ⟨rfl, hw'⟩; obtain rfl := hw'.symm
    go_wp2_with fail
    refine (h4 _).mono ?_; rintro e w' ⟨rfl, hw'⟩; obtain rfl := hw'.symm
    go_wp2
    exact bodyPost_ret (v := .tuple #[.slice none 0 0, .int .i64 2]) (by simp [results, Tryz.results47, go_sem] <;> simp only [*]) rfl ⟨_, rfl, Own.nil _ _, Kp.refl _⟩
  have t1 : ¬ ((16384 : Int) < (S : Int) + (T : Int) - 1) := by omega
  obtain ⟨K, hK⟩ : ∃ K, K = a * b := ⟨_, rfl⟩
  rw [e0, ← hK]
  rw [← hK] at h5
  clear c1 c2 e0 hK e1 e2 c5
  by_cases c3 : 16384 < len32 K
  · rw [if_pos c3]
    go_enter Tryz.func47, Tryz.ntmps47
    go_wp2_with fail
    refine h1.mono ?_; rintro e w' ⟨rfl, hw'⟩; obtain rfl := hw'.symm
    go_wp2_with fail
    refine h2.mono ?_; rintro e w' ⟨rfl, hw'⟩; obtain rfl := hw'.symm
    go_wp2_with fail
    refine (h3 _).mono ?_; rintro e w' ⟨rfl, hw'⟩; obtain rfl := hw'.symm
    go_wp2_with fail
    refine (h4 _).mono ?_; rintro e w' ⟨rfl, hw'⟩; obtain rfl := hw'.symm
    go_wp2_with fail
    refine h5.mono ?_; rintro e w1 ⟨v, rfl, hO, hkp⟩
    obtain ⟨p1, cc, rfl, hA, _⟩ := hO.arr
    have hf := unlessLong_ p1 (dig K).length cc
    have c4 : (16384 < (dig K).length) := c3
    rw [if_pos c4] at hf
    clear c4
    obtain ⟨D, hD⟩ : ∃ D, D = (dig K).length := ⟨_, rfl⟩
    have hO' : Own w1 w.heap.size (.slice p1 D cc) (dig K) := by rw [hD]; exact hO
    rw [← hD] at hf ⊢
    clear hA h1 h2 h3 h4 h5 hD c3 hO
    go_wp2_with fail
    refine (hf _).mono ?_; rintro e w2 ⟨rfl, hw2⟩; obtain rfl := hw2.symm
    go_wp2
    exact bodyPost_ret (v := .tuple #[.slice none 0 0, .int .i64 2]) (by simp [results, Tryz.results47, go_sem] <;> simp only [*]) rfl ⟨_, rfl, Own.nil _ _, hkp⟩
  · rw [if_neg c3]
    go_enter Tryz.func47, Tryz.ntmps47
    go_wp2_with fail
    refine h1.mono ?_; rintro e w' ⟨rfl, hw'⟩; obtain rfl := hw'.symm
    go_wp2_with fail
    refine h2.mono ?_; rintro e w' ⟨rfl, hw'⟩; obtain rfl := hw'.symm
    go_wp2_with fail
    refine (h3 _).mono ?_; rintro e w' ⟨rfl, hw'⟩; obtain rfl := hw'.symm
    go_wp2_with fail
    refine (h4 _).mono ?_; rintro e w' ⟨rfl, hw'⟩; obtain rfl := hw'.symm
    go_wp2_with fail
    refine h5.mono ?_; rintro e w1 ⟨v, rfl, hO, hkp⟩
    obtain ⟨p1, cc, rfl, hA, _⟩ := hO.arr
    have hf := unlessLong_ p1 (dig K).length cc
    have c4 : ¬ (16384 < (dig K).length) := c3
    rw [if_neg c4] at hf
    clear c4
    obtain ⟨D, hD⟩ : ∃ D, D = (dig K).length := ⟨_, rfl⟩
    have hO' : Own w1 w.heap.size (.slice p1 D cc) (dig K) := by rw [hD]; exact hO
    rw [← hD] at hf ⊢
    clear hA h1 h2 h3 h4 h5 hD c3 hO
    go_wp2_with fail
    refine (hf _).mono ?_; rintro e w2 ⟨rfl, hw2⟩; obtain rfl := hw2.symm
    go_wp2
    exact bodyPost_ret (v := .tuple #[.slice p1 D cc, .int .i64 0]) (by simp [results, Tryz.results47, go_sem] <;> simp only [*]) rfl ⟨_, rfl, hO', hkp⟩

end Go.Proofs.YtgiffpohngaonaaGreatDoor
