import Derived.Test.YthngdlifpbhagaaGreatDoorProg
import Derived.Test.YthngdlifpbhagaaGreatDoorKXA0
import Derived.Test.YthngdlifpbhagaaGreatDoorKXM
import Derived.Test.YthngdlifpbhagaaGreatDoorKXT
import Derived.Test.YthngdlifpbhagaaGreatDoorKXPR
import Derived.Test.YthngdlifpbhagaaGreatDoorKXN
import Derived.Test.YthngdlifpbhagaaGreatDoorKLV
import Derived.Test.YthngdlifpbhagaaGreatDoorKLN
import Derived.Test.YthngdlifpbhagaaGreatDoorKXNS
import Derived.WalkKit
import Derived.ProofKit
import Derived.RowKit3
import Derived.WalkSpells
import Derived.StillTactics
import Derived.Deep.QuietTactic
import Derived.BigQuiet
import Derived.Below
import Derived.Deep.OwnRows
import Derived.OwnWalk
namespace Go.Proofs.YthngdlifpbhagaaGreatDoor
open Go.RowKit
theorem row2 (w : World) (x y : Int) : Rw (w.alloc (.cells #[.int .u32 x, .int .u32 y] 73)) w.heap.size 2 [x, y] := by
  have := World.rowIs_alloc w #[.int .u32 x, .int .u32 y] 73 (fun i => .int .u32 ([x, y].getD i 0)) (fun i hi => by
    have h : i = 0 ∨ i = 1 := by simp at hi; omega
    rcases h with rfl | rfl <;> rfl)
  exact this
theorem row1 (w : World) (x : Int) : Rw (w.alloc (.cells #[.int .u32 x] 73)) w.heap.size 1 [x] := by
  have := World.rowIs_alloc w #[.int .u32 x] 73 (fun i => .int .u32 ([x].getD i 0)) (fun i hi => by
    have h : i = 0 := by simp at hi; omega
    rcases h with rfl; rfl)
  exact this
theorem own1 (w : World) : Own (w.alloc (.cells #[.int .u32 1] 73)) w.heap.size (.slice (some ⟨w.heap.size, 0, none⟩) 1 1) [1] :=
  Own.of_row (row1 w 1) (Nat.le_refl _) (Nat.le_refl _) rfl (by unfold maxLen; omega)
set_option maxRecDepth 20000 in
set_option maxHeartbeats 1000000 in
theorem nsmall_ (v : Nat) (hv : v < 18446744073709551616) (w : World) :
    Calls Tryz.prog 50 #[.int .u64 (v : Int)] w fun e w' => ∃ r, e = .returned r ∧ Own w' w.heap.size r (dig v) ∧ Kp w w' := by
  obtain ⟨lo, hlo⟩ : ∃ lo : Nat, lo = v % 4294967296 := ⟨_, rfl⟩
  obtain ⟨hi, hhi⟩ : ∃ hi : Nat, hi = v / 4294967296 := ⟨_, rfl⟩
  have f1 : IntKind.u32.wrap (v : Int) = (lo : Int) := by rw [IntKind.wrap_u32]; omega
  have f2 : (v : Int) / 4294967296 = (hi : Int) := by omega
  have f3 : IntKind.u32.wrap (hi : Int) = (hi : Int) := by rw [IntKind.wrap_u32]; omega
  have hw : Wd [(lo : Int), (hi : Int)] := Wd.mk (by omega) (Wd.mk (by omega) Wd.nil)
  have hval : val [(lo : Int), (hi : Int)] = v := by simp [val]; omega
  have hr := row2 w (lo : Int) (hi : Int)
  have htr := trim_ (some ⟨w.heap.size, 0, none⟩) 2 [(lo : Int), (hi : Int)] _ (by simpa using hr.arr 2 (Nat.le_refl _) (by simp)) (by simp) (by simp)
  have hO : Own (w.alloc (.cells #[.int .u32 (lo : Int), .int .u32 (hi : Int)] 73)) w.heap.size (.slice (some ⟨w.heap.size, 0, none⟩) (tl [(lo : Int), (hi : Int)]) 2) (dig v) := by
    have h1 := Own.of_row (base := w.heap.size) (k := tl [(lo : Int), (hi : Int)]) hr (Nat.le_refl _) (tl_le _) rfl (by unfold maxLen; omega)
    have h2 : [(lo : Int), (hi : Int)].take (tl [(lo : Int), (hi : Int)]) = dig v := by rw [← hval, ← nz_dig _ hw]; rfl
    rw [h2] at h1
    exact h1
  have hk : Kp w (w.alloc (.cells #[.int .u32 (lo : Int), .int .u32 (hi : Int)] 73)) := (Kp.refl w).alloc _
  obtain ⟨T, hT⟩ : ∃ T, T = tl [(lo : Int), (hi : Int)] := ⟨_, rfl⟩
  rw [← hT] at htr hO
  have htr2 : Calls Tryz.prog 77 #[.slice (some ⟨w.heap.size, 0, none⟩) 2 2] (w.alloc (.cells #[.int .u32 (lo : Int), .int .u32 (hi : Int)] 73)) fun e w' => e = .returned (.slice (some ⟨w.heap.size, 0, none⟩) T 2) ∧ w' = w.alloc (.cells #[.int .u32 (lo : Int), .int .u32 (hi : Int)] 73) := htr
  clear htr hT hval hw hlo hhi hv hr
  go_enter Tryz.func50, Tryz.ntmps50
  go_wp2_with fail
  refine htr2.mono ?_; rintro e w' ⟨rfl, hw'⟩; subst hw'
  clear htr2
  go_wp2
  exact bodyPost_ret (v := .slice (some ⟨w.heap.size, 0, none⟩) T 2) (by simp [results, Tryz.results50, go_sem] <;> simp only [*]) rfl ⟨_, rfl, hO, hk⟩
set_option maxRecDepth 20000 in
set_option maxHeartbeats 1000000 in
theorem nmul_ (p q : Option Addr) (c d : Nat) (xs ys : List Int) (w : World) (hx : Arr w p xs) (hy : Arr w q ys) (hwx : Wd xs) (hwy : Wd ys) (lx : xs.length ≤ 16777216) (ly : ys.length ≤ 16777216) (hc : xs.length ≤ c) (hd : ys.length ≤ d) :
    Calls Tryz.prog 51 #[.slice p xs.length c, .slice q ys.length d] w fun e w' => ∃ v, e = .returned (.tuple #[v, .int .i64 (mulN (val xs) (val ys)).2]) ∧ Own w' w.heap.size v (mulN (val xs) (val ys)).1 ∧ Kp w w' := by
  have h1 := trim_ p c xs w hx (by omega) hc
  have h2 := trim_ q d ys w hy (by omega) hd
  have h3 := tooLong_ p (tl xs) c
  have h4 := tooLong_ q (tl ys) d
  have h5 := product_ p q c d (nz xs) (nz ys) w (hx.take _) (hy.take _) (hwx.take _) (hwy.take _) (by rw [nz_length]; have := tl_le xs; omega) (by rw [nz_length]; have := tl_le ys; omega)
  rw [nz_length, nz_length, val_nz, val_nz] at h5
  have e1 := tl_len xs hwx
  have e2 := tl_len ys hwy
  have lS := tl_le xs
  have lT := tl_le ys
  obtain ⟨a, ha⟩ : ∃ a, a = val xs := ⟨_, rfl⟩
  obtain ⟨b, hb'⟩ : ∃ b, b = val ys := ⟨_, rfl⟩
  rw [← ha, ← hb'] at h5
  rw [← ha] at e1
  rw [← hb'] at e2
  obtain ⟨N, hN⟩ : ∃ N, N = xs.length := ⟨_, rfl⟩
  obtain ⟨M, hM⟩ : ∃ M, M = ys.length := ⟨_, rfl⟩
  obtain ⟨S, hS⟩ : ∃ S, S = tl xs := ⟨_, rfl⟩
  obtain ⟨T, hT⟩ : ∃ T, T = tl ys := ⟨_, rfl⟩
  rw [← hN, ← hS] at h1
  rw [← hM, ← hT] at h2
  rw [← hS] at h3 h5 e1 lS
  rw [← hT] at h4 h5 e2 lT
  rw [← hN, ← hM, ← ha, ← hb']
  have lS2 : S ≤ 16777216 := by omega
  have lT2 : T ≤ 16777216 := by omega
  clear hx hy hwx hwy lx ly hc hd hN hM hS hT ha hb' lS lT
  by_cases c1 : 16384 < S
  · rw [decide_eq_true c1] at h3
    have e3 : mulN a b = ([], 2) := by unfold mulN; rw [if_pos (Or.inl (by omega))]
    rw [e3]
    clear h4 h5 c1 e1 e2 e3 lS2 lT2
    go_enter Tryz.func51, Tryz.ntmps51
    go_wp2_with fail
    refine h1.mono ?_; rintro e w' ⟨rfl, hw'⟩; obtain rfl := hw'.symm
    go_wp2_with fail
    refine h2.mono ?_; rintro e w' ⟨rfl, hw'⟩; obtain rfl := hw'.symm
    go_wp2_with fail
    refine (h3 _).mono ?_; rintro e w' ⟨rfl, hw'⟩; obtain rfl := hw'.symm
    go_wp2
    exact bodyPost_ret (v := .tuple #[.slice none 0 0, .int .i64 2]) (by simp [results, Tryz.results51, go_sem] <;> simp only [*]) rfl ⟨_, rfl, Own.nil _ _, Kp.refl _⟩
  rw [decide_eq_false c1] at h3
  by_cases c2 : 16384 < T
  · rw [decide_eq_true c2] at h4
    have e3 : mulN a b = ([], 2) := by unfold mulN; rw [if_pos (Or.inr (by omega))]
    rw [e3]
    clear h5 c1 c2 e1 e2 e3 lS2 lT2
    go_enter Tryz.func51, Tryz.ntmps51
    go_wp2_with fail
    refine h1.mono ?_; rintro e w' ⟨rfl, hw'⟩; obtain rfl := hw'.symm
    go_wp2_with fail
    refine h2.mono ?_; rintro e w' ⟨rfl, hw'⟩; obtain rfl := hw'.symm
    go_wp2_with fail
    refine (h3 _).mono ?_; rintro e w' ⟨rfl, hw'⟩; obtain rfl := hw'.symm
    go_wp2_with fail
    refine (h4 _).mono ?_; rintro e w' ⟨rfl, hw'⟩; obtain rfl := hw'.symm
    go_wp2
    exact bodyPost_ret (v := .tuple #[.slice none 0 0, .int .i64 2]) (by simp [results, Tryz.results51, go_sem] <;> simp only [*]) rfl ⟨_, rfl, Own.nil _ _, Kp.refl _⟩
  rw [decide_eq_false c2] at h4
  have e0 : mulN a b = if 16384 < len32 (a * b) then ([], 2) else (dig (a * b), 0) := by unfold mulN; rw [if_neg (by omega)]
  by_cases c5 : 16384 < S + T - 1
  · have c6 := mul_words a b 16384 (by omega) (by omega) (by omega)
    rw [e0, if_pos c6]
    have t1 : (16384 : Int) < (S : Int) + (T : Int) - 1 := by omega
    clear h5 c1 c2 e1 e2 e0 c5 c6
    go_enter Tryz.func51, Tryz.ntmps51
    go_wp2_with fail
    refine h1.mono ?_; rintro e w' ⟨rfl, hw'⟩; obtain rfl := hw'.symm
    go_wp2_with fail
    refine h2.mono ?_; rintro e w' ⟨rfl, hw'⟩; obtain rfl := hw'.symm
    go_wp2_with fail
    refine (h3 _).mono ?_; rintro e w' ⟨rfl, hw'⟩; obtain rfl := hw'.symm
    go_wp2_with fail
    refine (h4 _).mono ?_; rintro e w' ⟨rfl, hw'⟩; obtain rfl := hw'.symm
    go_wp2
    exact bodyPost_ret (v := .tuple #[.slice none 0 0, .int .i64 2]) (by simp [results, Tryz.results51, go_sem] <;> simp only [*]) rfl ⟨_, rfl, Own.nil _ _, Kp.refl _⟩
  have t1 : ¬ ((16384 : Int) < (S : Int) + (T : Int) - 1) := by omega
  obtain ⟨K, hK⟩ : ∃ K, K = a * b := ⟨_, rfl⟩
  rw [e0, ← hK]
  rw [← hK] at h5
  clear c1 c2 e0 hK e1 e2 c5
  by_cases c3 : 16384 < len32 K
  · rw [if_pos c3]
    go_enter Tryz.func51, Tryz.ntmps51
    go_wp2_with fail
    refine h1.mono ?_; rintro e w' ⟨rfl, hw'⟩; obtain rfl := hw'.symm
    go_wp2_with fail
    refine h2.mono ?_; rintro e w' ⟨rfl, hw'⟩; obtain rfl := hw'.symm
    go_wp2_with fail
    refine (h3 _).mono ?_; rintro e w' ⟨rfl, hw'⟩; obtain rfl := hw'.symm
    go_wp2_with fail
    refine (h4 _).mono ?_; rintro e w' ⟨rfl, hw'⟩; obtain rfl := hw'.symm
    go_wp2_with fail
    refine h5.mono ?_; rintro e w1 ⟨v, rfl, hO, hkp⟩
    obtain ⟨p1, cc, rfl, hA, _⟩ := hO.arr
    have hf := unlessLong_ p1 (dig K).length cc
    have c4 : (16384 < (dig K).length) := c3
    rw [if_pos c4] at hf
    clear c4
    obtain ⟨D, hD⟩ : ∃ D, D = (dig K).length := ⟨_, rfl⟩
    have hO' : Own w1 w.heap.size (.slice p1 D cc) (dig K) := by rw [hD]; exact hO
    rw [← hD] at hf ⊢
    clear hA h1 h2 h3 h4 h5 hD c3 hO
    go_wp2_with fail
    refine (hf _).mono ?_; rintro e w2 ⟨rfl, hw2⟩; obtain rfl := hw2.symm
    go_wp2
    exact bodyPost_ret (v := .tuple #[.slice none 0 0, .int .i64 2]) (by simp [results, Tryz.results51, go_sem] <;> simp only [*]) rfl ⟨_, rfl, Own.nil _ _, hkp⟩
  · rw [if_neg c3]
    go_enter Tryz.func51, Tryz.ntmps51
    go_wp2_with fail
    refine h1.mono ?_; rintro e w' ⟨rfl, hw'⟩; obtain rfl := hw'.symm
    go_wp2_with fail
    refine h2.mono ?_; rintro e w' ⟨rfl, hw'⟩; obtain rfl := hw'.symm
    go_wp2_with fail
    refine (h3 _).mono ?_; rintro e w' ⟨rfl, hw'⟩; obtain rfl := hw'.symm
    go_wp2_with fail
    refine (h4 _).mono ?_; rintro e w' ⟨rfl, hw'⟩; obtain rfl := hw'.symm
    go_wp2_with fail
    refine h5.mono ?_; rintro e w1 ⟨v, rfl, hO, hkp⟩
    obtain ⟨p1, cc, rfl, hA, _⟩ := hO.arr
    have hf := unlessLong_ p1 (dig K).length cc
    have c4 : ¬ (16384 < (dig K).length) := c3
    rw [if_neg c4] at hf
    clear c4
    obtain ⟨D, hD⟩ : ∃ D, D = (dig K).length := ⟨_, rfl⟩
    have hO' : Own w1 w.heap.size (.slice p1 D cc) (dig K) := by rw [hD]; exact hO
    rw [← hD] at hf ⊢
    clear hA h1 h2 h3 h4 h5 hD c3 hO
    go_wp2_with fail
    refine (hf _).mono ?_; rintro e w2 ⟨rfl, hw2⟩; obtain rfl := hw2.symm
    go_wp2
    exact bodyPost_ret (v := .tuple #[.slice p1 D cc, .int .i64 0]) (by simp [results, Tryz.results51, go_sem] <;> simp only [*]) rfl ⟨_, rfl, hO', hkp⟩

set_option maxRecDepth 20000 in
set_option maxHeartbeats 1000000 in
theorem npower_ (p : Option Addr) (c m : Nat) (xs : List Int) (w : World) (hx : Arr w p xs) (hn : xs = dig (val xs)) (lx : xs.length ≤ 16384) (hc : xs.length ≤ c) (ha : 2 ≤ val xs) (hm : 0 < m) (hm2 : m ≤ 1048576) :
    Calls Tryz.prog 105 #[.slice p xs.length c, .int .i64 (m : Int)] w fun e w' => ∃ v, e = .returned (.tuple #[v, .int .i64 (if 16384 < len32 (val xs ^ m) then 2 else 0)]) ∧ Own w' w.heap.size v (if 16384 < len32 (val xs ^ m) then [] else dig (val xs ^ m)) ∧ Kp w w' := by
  have hfr := fresh_ p c xs w hx (by omega)
  have hle := lenu_ m (by omega)
  have htop := top_one m (by omega)
  have hbm := (blen_spec m (by omega)).2.2
  have hb20 := blen_lt m 21 (by omega)
  obtain ⟨a, hA⟩ : ∃ a, a = val xs := ⟨_, rfl⟩
  obtain ⟨L, hL⟩ : ∃ L, L = blen m := ⟨_, rfl⟩
  rw [← hL] at hle htop hbm hb20
  have hla : len32 a ≤ 16384 := by rw [hA]; unfold len32; rw [← hn]; exact lx
  have hmul : ∀ (i j : Nat) (p1 p2 : Option Addr) (c1 c2 : Nat) (w' : World), len32 (a ^ i) ≤ 16384 → len32 (a ^ j) ≤ 16384 → Arr w' p1 (dig (a ^ i)) → Arr w' p2 (dig (a ^ j)) → (dig (a ^ i)).length ≤ c1 → (dig (a ^ j)).length ≤ c2 →
      Calls Tryz.prog 51 #[.slice p1 (dig (a ^ i)).length c1, .slice p2 (dig (a ^ j)).length c2] w' fun e w'' => ∃ v, e = .returned (.tuple #[v, .int .i64 (if 16384 < len32 (a ^ (i + j)) then 2 else 0)]) ∧ Own w'' w'.heap.size v (if 16384 < len32 (a ^ (i + j)) then [] else dig (a ^ (i + j))) ∧ Kp w' w'' := fun i j p1 p2 c1 c2 w' hi hj h1 h2 hc1 hc2 => by
    have e1 : (dig (a ^ i)).length = len32 (a ^ i) := rfl
    have e2 : (dig (a ^ j)).length = len32 (a ^ j) := rfl
    have := nmul_ p1 p2 c1 c2 (dig (a ^ i)) (dig (a ^ j)) w' h1 h2 (Wd_dig _) (Wd_dig _) (by omega) (by omega) hc1 hc2
    rw [val_dig, val_dig, mulN_short _ _ hi hj, ← Nat.pow_add] at this
    by_cases q : 16384 < len32 (a ^ (i + j))
    · rw [if_pos q] at this ⊢; rw [if_pos q]; exact this
    · rw [if_neg q] at this ⊢; rw [if_neg q]; exact this
  have hxs : xs = dig (a ^ 1) := by rw [Nat.pow_one, hA]; exact hn
  rw [hxs] at hfr
  rw [← hA] at ha ⊢
  have HX : Hid (Arr w p (dig (a ^ 1)) ∧ xs.length = (dig (a ^ 1)).length ∧ (dig (a ^ 1)).length ≤ c) := ⟨by rw [← hxs]; exact hx, by rw [← hxs], by rw [← hxs]; exact hc⟩
  have HM : Hid (∀ (i j : Nat) (p1 p2 : Option Addr) (c1 c2 : Nat) (w' : World), len32 (a ^ i) ≤ 16384 → len32 (a ^ j) ≤ 16384 → Arr w' p1 (dig (a ^ i)) → Arr w' p2 (dig (a ^ j)) → (dig (a ^ i)).length ≤ c1 → (dig (a ^ j)).length ≤ c2 →
      Calls Tryz.prog 51 #[.slice p1 (dig (a ^ i)).length c1, .slice p2 (dig (a ^ j)).length c2] w' fun e w'' => ∃ v, e = .returned (.tuple #[v, .int .i64 (if 16384 < len32 (a ^ (i + j)) then 2 else 0)]) ∧ Own w'' w'.heap.size v (if 16384 < len32 (a ^ (i + j)) then [] else dig (a ^ (i + j))) ∧ Kp w' w'') := hmul
  obtain ⟨N, hN⟩ : ∃ N, N = xs.length := ⟨_, rfl⟩
  have hN2 : (dig (a ^ 1)).length = N := by rw [hN, ← hxs]
  have hl1 : len32 (a ^ 1) ≤ 16384 := by rw [Nat.pow_one]; exact hla
  rw [hN2] at hfr
  rw [← hN]
  have HA : Hid (2 ≤ a ∧ len32 (a ^ 1) ≤ 16384 ∧ (dig (a ^ 1)).length = N ∧ m / 2 ^ (L - 1) = 1) := ⟨ha, hl1, hN2, htop⟩
  have f1 : IntKind.u64.wrap (m : Int) = (m : Int) := by rw [IntKind.wrap_u64]; omega
  obtain ⟨RE, hRE⟩ : ∃ RE : Int, RE = if 16384 < len32 (a ^ m) then 2 else 0 := ⟨_, rfl⟩
  obtain ⟨RL, hRL⟩ : ∃ RL : List Int, RL = if 16384 < len32 (a ^ m) then [] else dig (a ^ m) := ⟨_, rfl⟩
  rw [← hRE, ← hRL]
  have HR : Hid ((16384 < len32 (a ^ m) → RE = 2 ∧ RL = []) ∧ (¬ 16384 < len32 (a ^ m) → RE = 0 ∧ RL = dig (a ^ m))) := ⟨fun h => by rw [hRE, hRL, if_pos h, if_pos h]; exact ⟨rfl, rfl⟩, fun h => by rw [hRE, hRL, if_neg h, if_neg h]; exact ⟨rfl, rfl⟩⟩
  clear hRE hRL
  clear hx hn lx hc hmul hL hN hxs hA hl1 htop hla ha hN2
  go_enter Tryz.func105, Tryz.ntmps105
  go_wp2_with fail
  refine hfr.mono ?_; rintro e w1 ⟨g, rfl, hg, hrow, hk1⟩
  have HO : Hid (Own w1 w.heap.size (.slice (some ⟨g, 0, none⟩) N N) (dig (a ^ 1))) := by
    have h1 := Own.of_row (base := w.heap.size) (k := N) hrow hg (Nat.le_refl _) HA.out.2.2.1 (by
      have : (dig (a ^ 1)).length = len32 (a ^ 1) := rfl
      have := HA.out.2.1
      have := HA.out.2.2.1
      unfold maxLen; omega)
    rw [List.take_of_length_le (by have := HA.out.2.2.1; omega)] at h1
    exact h1
  clear hfr hrow hg
  go_wp2_with fail
  refine (hle _).mono ?_; rintro e w' ⟨rfl, hw'⟩; obtain rfl := hw'.symm
  go_wp2
  go_loopw [6, 7, 8] (fun o e z wr => ∃ (v : Value) (b : Nat) (y : Int), v = o ∧ z = .int .i64 y ∧ y = (b : Int) - 1 ∧ b < L ∧ Kp w wr ∧ ((e = .int .i64 0 ∧ Own wr w.heap.size v (dig (a ^ (m / 2 ^ b))) ∧ len32 (a ^ (m / 2 ^ b)) ≤ 16384) ∨ (e = .int .i64 2 ∧ Own wr w.heap.size v [] ∧ 16384 < len32 (a ^ m)))) (fun _ _ z _ => (intOf z + 1).toNat)
  case atStart => exact ⟨_, L - 1, _, rfl, rfl, by omega, by omega, hk1, Or.inl ⟨rfl, by rw [HA.out.2.2.2]; exact HO.out, by rw [HA.out.2.2.2]; exact HA.out.2.1⟩⟩
  case round =>
    clear hk1 HO hle
    obtain ⟨v, b, y, rfl, rfl, hy, hbL, hkp, hst⟩ := hrel
    obtain ⟨ha, hl1, hN2, htop⟩ := HA.out
    rcases hst with ⟨rfl, hown, hlen⟩ | ⟨rfl, hown, hlong⟩
    · rcases b with _ | b
      · have hy1 : y = -1 := by omega
        subst hy1
        rw [Nat.pow_zero, Nat.div_one] at hown hlen
        have hno : ¬ 16384 < len32 (a ^ m) := by omega
        obtain ⟨hr1, hr2⟩ := HR.out.2 hno
        subst hr1 hr2
        clear HA HX HM hl1 hN2 htop hy hlen hno ha HR
        go_wp2
        exact bodyPost_ret (v := .tuple #[v, .int .i64 0]) (by simp [results, Tryz.results105, go_sem] <;> simp only [*]) rfl ⟨_, rfl, hown, hkp⟩
      · have hy1 : y = (b : Int) := by omega
        subst hy1
        clear hy
        have hst2 := pow_step a m b
        rw [← Nat.pow_add] at hst2
        have hib : m / 2 ^ (b + 1) + m / 2 ^ (b + 1) ≤ m := by
          have e : m / 2 ^ (b + 1) * 2 ≤ m / 2 ^ b := by rw [Nat.pow_succ, ← Nat.div_div_eq_div_mul]; omega
          have := Nat.div_le_self m (2 ^ b)
          omega
        have hbm2 := Nat.div_le_self m (2 ^ b)
        obtain ⟨i, hi⟩ : ∃ i, i = m / 2 ^ (b + 1) := ⟨_, rfl⟩
        rw [← hi] at hst2 hown hlen hib
        obtain ⟨p1, c1, rfl, hA1, hc1⟩ := hown.arr
        have h1 := HM.out _ _ p1 p1 c1 c1 wr hlen hlen hA1 hA1 hc1 hc1
        obtain ⟨D, hD⟩ : ∃ D, D = (dig (a ^ i)).length := ⟨_, rfl⟩
        rw [← hD] at h1 ⊢
        obtain ⟨q, hq⟩ : ∃ q, q = m / 2 ^ b := ⟨_, rfl⟩
        rw [← hq] at hst2 hbm2
        have fS : (m : Int) / 2 ^ b = (q : Int) := by
          rw [hq]; push_cast; rfl
        have fA := and1_i64 q (by omega)
        obtain ⟨r, hr⟩ : ∃ r, r = q % 2 := ⟨_, rfl⟩
        rw [← hr] at fA hst2
        have hr01 : r = 0 ∨ r = 1 := by omega
        have hqi : i + i + r = q := by
          have e : m / 2 ^ (b + 1) = q / 2 := by rw [Nat.pow_succ, ← Nat.div_div_eq_div_mul, hq]
          rw [e] at hi
          omega
        clear hA1 hc1 hown HA hD hi hr
        by_cases q1 : 16384 < len32 (a ^ (i + i))
        · rw [if_pos q1, if_pos q1] at h1
          have hlong : 16384 < len32 (a ^ m) := Nat.lt_of_lt_of_le q1 (pow_mono_len a _ _ ha hib)
          have HLo : Hid (16384 < len32 (a ^ m)) := hlong
          clear HM HX hst2 q1 hl1 hN2 htop hlong hib hbm2 ha hlen hm hqi
          go_wp2_with fail
          refine h1.mono ?_; rintro e w2 ⟨v2, rfl, hO2, hk2⟩
          clear h1
          have hO3 : Own w2 w.heap.size v2 [] := hO2.mono hkp.size
          have hk3 := hkp.trans hk2
          have hbL2 : b < L := by omega
          clear hO2 hk2 hkp hq hbL
          rcases hr01 with rfl | rfl
          · go_wp2
            exact ⟨⟨v2, b, _, rfl, by go_num, rfl, hbL2, hk3, Or.inr ⟨rfl, hO3, HLo.out⟩⟩, by simp [intOf]⟩
          · go_wp2
            exact ⟨⟨v2, b, _, rfl, by go_num, rfl, hbL2, hk3, Or.inr ⟨rfl, hO3, HLo.out⟩⟩, by simp [intOf]⟩
        · rw [if_neg q1, if_neg q1] at h1
          have HX2 : Hid (∀ p2 c2 w', Kp w w' → Arr w' p2 (dig (a ^ (i + i))) → (dig (a ^ (i + i))).length ≤ c2 → Calls Tryz.prog 51 #[.slice p2 (dig (a ^ (i + i))).length c2, .slice p N c] w' fun e w'' => ∃ v, e = .returned (.tuple #[v, .int .i64 (if 16384 < len32 (a ^ (i + i + 1)) then 2 else 0)]) ∧ Own w'' w'.heap.size v (if 16384 < len32 (a ^ (i + i + 1)) then [] else dig (a ^ (i + i + 1))) ∧ Kp w' w'') := by
            show ∀ p2 c2 w', Kp w w' → Arr w' p2 (dig (a ^ (i + i))) → (dig (a ^ (i + i))).length ≤ c2 → Calls Tryz.prog 51 #[.slice p2 (dig (a ^ (i + i))).length c2, .slice p N c] w' fun e w'' => ∃ v, e = .returned (.tuple #[v, .int .i64 (if 16384 < len32 (a ^ (i + i + 1)) then 2 else 0)]) ∧ Own w'' w'.heap.size v (if 16384 < len32 (a ^ (i + i + 1)) then [] else dig (a ^ (i + i + 1))) ∧ Kp w' w''
            intro p2 c2 w' k h2 hc2
            have := HM.out (i + i) 1 p2 p c2 c w' (by omega) hl1 h2 (HX.out.1.grown k) hc2 HX.out.2.2
            rw [hN2] at this
            exact this
          have HE : Hid (r = 0 → i + i = q) := fun h => by omega
          have HE1 : Hid (r = 1 → i + i + 1 = q) := fun h => by omega
          have HQ : Hid (¬ 16384 < len32 (a ^ (i + i)) ∧ q = m / 2 ^ b ∧ q ≤ m ∧ 2 ≤ a) := ⟨q1, hq, hbm2, ha⟩
          clear HM HX hst2 q1 hl1 hN2 htop hib hbm2 ha hlen hm hq hqi
          go_wp2_with fail
          refine h1.mono ?_; rintro e w2 ⟨v2, rfl, hO2, hk2⟩
          clear h1
          have hO3 : Own w2 w.heap.size v2 (dig (a ^ (i + i))) := hO2.mono hkp.size
          have hk3 := hkp.trans hk2
          have hbL2 : b < L := by omega
          clear hO2 hk2 hkp hbL
          rcases hr01 with rfl | rfl
          · have he := HE.out rfl
            have hO4 : Own w2 w.heap.size v2 (dig (a ^ (m / 2 ^ b))) := by rw [← HQ.out.2.1, ← he]; exact hO3
            have hl4 : len32 (a ^ (m / 2 ^ b)) ≤ 16384 := by rw [← HQ.out.2.1, ← he]; have := HQ.out.1; omega
            have HH : Hid (Own w2 w.heap.size v2 (dig (a ^ (m / 2 ^ b))) ∧ len32 (a ^ (m / 2 ^ b)) ≤ 16384) := ⟨hO4, hl4⟩
            clear HE HE1 HX2 hO3 hO4 hl4 he HQ
            go_wp2
            exact ⟨⟨v2, b, _, rfl, by go_num, rfl, hbL2, hk3, Or.inl ⟨rfl, HH.out.1, HH.out.2⟩⟩, by simp [intOf]⟩
          · have he := HE1.out rfl
            obtain ⟨p2, c2, rfl, hA2, hc2⟩ := hO3.arr
            have h2 := HX2.out p2 c2 w2 hk3 hA2 hc2
            obtain ⟨D2, hD2⟩ : ∃ D2, D2 = (dig (a ^ (i + i))).length := ⟨_, rfl⟩
            rw [← hD2] at h2 ⊢
            rw [he] at h2
            clear HE HE1 HX2 hO3 hA2 hc2 hD2 he
            by_cases q2 : 16384 < len32 (a ^ q)
            · rw [if_pos q2, if_pos q2] at h2
              have HLo : Hid (16384 < len32 (a ^ m)) := Nat.lt_of_lt_of_le q2 (pow_mono_len a _ _ HQ.out.2.2.2 HQ.out.2.2.1)
              clear HQ q2
              go_wp2_with fail
              refine h2.mono ?_; rintro e w3 ⟨v3, rfl, hO5, hk5⟩
              clear h2
              have hO6 : Own w3 w.heap.size v3 [] := hO5.mono hk3.size
              have hk6 := hk3.trans hk5
              clear hO5 hk5 hk3
              go_wp2
              exact ⟨⟨v3, b, _, rfl, by go_num, rfl, hbL2, hk6, Or.inr ⟨rfl, hO6, HLo.out⟩⟩, by simp [intOf]⟩
            · rw [if_neg q2, if_neg q2] at h2
              have HLo : Hid (len32 (a ^ q) ≤ 16384) := by show len32 (a ^ q) ≤ 16384; omega
              clear q2
              go_wp2_with fail
              refine h2.mono ?_; rintro e w3 ⟨v3, rfl, hO5, hk5⟩
              clear h2
              have hO6 : Own w3 w.heap.size v3 (dig (a ^ (m / 2 ^ b))) := by rw [← HQ.out.2.1]; exact hO5.mono hk3.size
              have hl6 : len32 (a ^ (m / 2 ^ b)) ≤ 16384 := by rw [← HQ.out.2.1]; exact HLo.out
              have HH : Hid (Own w3 w.heap.size v3 (dig (a ^ (m / 2 ^ b))) ∧ len32 (a ^ (m / 2 ^ b)) ≤ 16384) := ⟨hO6, hl6⟩
              have hk6 := hk3.trans hk5
              clear hO5 hk5 hk3 hO6 hl6 HLo HQ
              go_wp2
              exact ⟨⟨v3, b, _, rfl, by go_num, rfl, hbL2, hk6, Or.inl ⟨rfl, HH.out.1, HH.out.2⟩⟩, by simp [intOf]⟩
    · obtain ⟨hr1, hr2⟩ := HR.out.1 hlong
      subst hr1 hr2
      clear HA HX HM hl1 hN2 htop HR ha hlong
      rcases b with _ | b
      · have hy1 : y = -1 := by omega
        subst hy1
        clear hy
        go_wp2
        exact bodyPost_ret (v := .tuple #[v, .int .i64 2]) (by simp [results, Tryz.results105, go_sem] <;> simp only [*]) rfl ⟨_, rfl, hown, hkp⟩
      · have hy1 : y = (b : Int) := by omega
        subst hy1
        clear hy
        go_wp2
        exact bodyPost_ret (v := .tuple #[v, .int .i64 2]) (by simp [results, Tryz.results105, go_sem] <;> simp only [*]) rfl ⟨_, rfl, hown, hkp⟩
set_option maxRecDepth 20000 in
set_option maxHeartbeats 1000000 in
theorem npow_ (p : Option Addr) (c : Nat) (xs : List Int) (w : World) (n : Int) (hx : Arr w p xs) (hwx : Wd xs) (lx : xs.length ≤ 16777216) (hc : xs.length ≤ c) :
    Calls Tryz.prog 67 #[.slice p xs.length c, .int .i64 n] w fun e w' => ∃ v, e = .returned (.tuple #[v, .int .i64 (powN (val xs) n).2]) ∧ Own w' w.heap.size v (powN (val xs) n).1 ∧ Kp w w' := by
  have h1 := trim_ p c xs w hx (by omega) hc
  have h2 := tooLong_ p (tl xs) c
  have h3 := nsmall_ 1 (by omega) w
  have lS := tl_le xs
  have h4 := nlen_ p c (nz xs) w (hx.take _) (hwx.take _) (by rw [nz_length]; omega) (by rw [nz_length]; omega)
  have h5 := fresh_ p c (nz xs) w (hx.take _) (by rw [nz_length]; omega)
  have hnn : nz xs = dig (val (nz xs)) := by rw [val_nz]; exact nz_dig xs hwx
  have h6 := fun (m : Nat) a b c' d' => npower_ p c m (nz xs) w (hx.take _) hnn a (by rw [nz_length]; omega) b c' d'
  rw [nz_length, val_nz] at h4 h6
  rw [nz_length] at h5
  have e1 := tl_len xs hwx
  have e2 := nz_dig xs hwx
  rw [e2] at h5
  obtain ⟨a, ha⟩ : ∃ a, a = val xs := ⟨_, rfl⟩
  rw [← ha] at h4 h5 h6 e1
  obtain ⟨N, hN⟩ : ∃ N, N = xs.length := ⟨_, rfl⟩
  obtain ⟨S, hS⟩ : ∃ S, S = tl xs := ⟨_, rfl⟩
  rw [← hN, ← hS] at h1
  rw [← hS] at h2 h4 h5 h6 e1 lS
  rw [← hN, ← ha]
  have lS2 : S ≤ 16777216 := by omega
  clear hx hwx lx hc hN hS ha lS hnn e2
  by_cases c0 : n < 0
  · have e3 : powN a n = ([], 1) := by unfold powN; rw [if_pos c0]
    rw [e3]
    clear h2 h3 h4 h5 h6 e1 e3
    go_enter Tryz.func67, Tryz.ntmps67
    go_wp2_with fail
    refine h1.mono ?_; rintro e w' ⟨rfl, hw'⟩; obtain rfl := hw'.symm
    go_wp2
    exact bodyPost_ret (v := .tuple #[.slice none 0 0, .int .i64 1]) (by simp [results, Tryz.results67, go_sem] <;> simp only [*]) rfl ⟨_, rfl, Own.nil _ _, Kp.refl _⟩
  obtain ⟨m, rfl⟩ := Int.eq_ofNat_of_zero_le (by omega : 0 ≤ n)
  by_cases c1 : 16384 < S
  · have e3 : powN a (m : Int) = ([], 2) := by unfold powN; rw [if_neg c0, if_pos (by omega)]
    rw [e3]
    rw [decide_eq_true c1] at h2
    clear h3 h4 h5 h6 e1 e3 c1
    go_enter Tryz.func67, Tryz.ntmps67
    go_wp2_with fail
    refine h1.mono ?_; rintro e w' ⟨rfl, hw'⟩; obtain rfl := hw'.symm
    go_wp2_with fail
    refine (h2 _).mono ?_; rintro e w' ⟨rfl, hw'⟩; obtain rfl := hw'.symm
    go_wp2
    exact bodyPost_ret (v := .tuple #[.slice none 0 0, .int .i64 2]) (by simp [results, Tryz.results67, go_sem] <;> simp only [*]) rfl ⟨_, rfl, Own.nil _ _, Kp.refl _⟩
  rw [decide_eq_false c1] at h2
  have e0 : powN a (m : Int) = if 16384 < len32 (a ^ m) then ([], 2) else (dig (a ^ m), 0) := by unfold powN; rw [if_neg c0, if_neg (by omega), Int.toNat_natCast]
  rw [e0]
  clear e0 c0
  have t0 : ¬ ((m : Int) < 0) := by omega
  by_cases c2 : m = 0
  · subst c2
    have e3 : ¬ 16384 < len32 (a ^ 0) := by rw [Nat.pow_zero, len32_one]; omega
    rw [if_neg e3, Nat.pow_zero]
    clear h4 h5 h6 e1 e3 c1
    go_enter Tryz.func67, Tryz.ntmps67
    go_wp2_with fail
    refine h1.mono ?_; rintro e w' ⟨rfl, hw'⟩; obtain rfl := hw'.symm
    go_wp2_with fail
    refine (h2 _).mono ?_; rintro e w' ⟨rfl, hw'⟩; obtain rfl := hw'.symm
    go_wp2_with fail
    refine h3.mono ?_; rintro e w1 ⟨v, rfl, hO, hk⟩
    go_wp2
    exact bodyPost_ret (v := .tuple #[v, .int .i64 0]) (by simp [results, Tryz.results67, go_sem] <;> simp only [*]) rfl ⟨_, rfl, hO, hk⟩
  have t2 : ((m : Int) == 0) = false := by simp; omega
  obtain ⟨L, hL⟩ : ∃ L, L = blen a := ⟨_, rfl⟩
  rw [← hL] at h4
  have hLb := blen_len a 16384 (by omega)
  rw [← hL] at hLb
  by_cases c3 : L ≤ 1
  · have e3 := pow_small a m (by omega) (by omega)
    have e4 : ¬ 16384 < len32 a := by omega
    rw [e3, if_neg e4]
    have t3 : (L : Int) ≤ 1 := by omega
    have hO0 : ∀ g w1, w.heap.size ≤ g → Rw w1 g S (dig a) → Own w1 w.heap.size (.slice (some ⟨g, 0, none⟩) S S) (dig a) := fun g w1 hg hr => by
      have hd : (dig a).length = S := by rw [e1]; rfl
      have h1 := Own.of_row (base := w.heap.size) (k := S) hr hg (Nat.le_refl _) hd (by unfold maxLen; omega)
      rw [List.take_of_length_le (by omega)] at h1
      exact h1
    clear h3 h6 e3 e4 c1 c2 hL e1 hLb
    go_enter Tryz.func67, Tryz.ntmps67
    go_wp2_with fail
    refine h1.mono ?_; rintro e w' ⟨rfl, hw'⟩; obtain rfl := hw'.symm
    go_wp2_with fail
    refine (h2 _).mono ?_; rintro e w' ⟨rfl, hw'⟩; obtain rfl := hw'.symm
    go_wp2_with fail
    refine h4.mono ?_; rintro e w' ⟨rfl, hw'⟩; obtain rfl := hw'.symm
    go_wp2_with fail
    refine h5.mono ?_; rintro e w1 ⟨g, rfl, hg, hrow, hk⟩
    have hO := hO0 g w1 hg hrow
    clear hO0 hrow hg
    go_wp2
    exact bodyPost_ret (v := .tuple #[.slice (some ⟨g, 0, none⟩) S S, .int .i64 0]) (by simp [results, Tryz.results67, go_sem] <;> simp only [*]) rfl ⟨_, rfl, hO, hk⟩
  have t3 : ¬ ((L : Int) ≤ 1) := by omega
  obtain ⟨q, hq⟩ : ∃ q, q = 524287 / (L - 1) := ⟨_, rfl⟩
  obtain ⟨K, hK⟩ : ∃ K, K = L - 1 := ⟨_, rfl⟩
  have hqK : (524287 : Int).tdiv (K : Int) = (q : Int) := by
    rw [hq, ← hK]
    exact tdiv_nat 524287 K
  have f1 : (L : Int) - 1 = (K : Int) := by omega
  have f2 : ¬ ((K : Int) = 0) := by omega
  have f3 : ((K : Int) == 0) = false := by simp; omega
  have hK9 : (K : Int) < 9223372036854775808 := by omega
  have f4 := w64 (K : Int) (by omega) hK9
  have f5 := wi64 (K : Int) (Int.natCast_nonneg _) hK9
  have hq8 : (q : Int) < 9223372036854775808 := by
    have : q ≤ 524287 := by rw [hq]; exact Nat.div_le_self _ _
    omega
  have f6 := w64 (q : Int) (Int.natCast_nonneg _) hq8
  have f7 := wi64 (q : Int) (Int.natCast_nonneg _) hq8
  have HF : Hid (wrap64 (q : Int) = (q : Int) ∧ IntKind.i64.wrap (q : Int) = (q : Int) ∧ wrap64 (K : Int) = (K : Int) ∧ IntKind.i64.wrap (K : Int) = (K : Int)) := ⟨f6, f7, f4, f5⟩
  clear f4 f5 f6 f7 hq8
  by_cases c4 : q < m
  · have c5 : 16384 < len32 (a ^ m) := pow_long a m 16384 (by omega) (by rw [← hL]; exact div_long L m q hq (by omega) c4)
    rw [if_pos c5]
    have t4 : (q : Int) < (m : Int) := by omega
    obtain ⟨f6, f7, f4, f5⟩ := HF.out
    clear h3 h5 h6 c1 c2 c3 c4 c5 hL e1 hq hLb lS2 hK hK9 HF
    go_enter Tryz.func67, Tryz.ntmps67
    go_wp2_with fail
    refine h1.mono ?_; rintro e w' ⟨rfl, hw'⟩; obtain rfl := hw'.symm
    go_wp2_with fail
    refine (h2 _).mono ?_; rintro e w' ⟨rfl, hw'⟩; obtain rfl := hw'.symm
    go_wp2_with fail
    refine h4.mono ?_; rintro e w' ⟨rfl, hw'⟩; obtain rfl := hw'.symm
    go_wp2_with fail
    refine h4.mono ?_; rintro e w' ⟨rfl, hw'⟩; obtain rfl := hw'.symm
    go_wp2
    exact bodyPost_ret (v := .tuple #[.slice none 0 0, .int .i64 2]) (by simp [results, Tryz.results67, go_sem] <;> simp only [*]) rfl ⟨_, rfl, Own.nil _ _, Kp.refl _⟩
  have t4 : ¬ ((q : Int) < (m : Int)) := by omega
  have hq9 : q ≤ 524287 := by rw [hq]; exact Nat.div_le_self _ _
  have h7 := h6 m (by omega) (two_le a (by omega)) (by omega) (by omega)
  obtain ⟨f6, f7, f4, f5⟩ := HF.out
  clear HF
  clear h3 h5 h6 c1 c2 c3 c4 hL e1 hq hLb lS2 hK hK9 hq9
  by_cases c5 : 16384 < len32 (a ^ m)
  · rw [if_pos c5, if_pos c5] at h7
    rw [if_pos c5]
    clear c5
    go_enter Tryz.func67, Tryz.ntmps67
    go_wp2_with fail
    refine h1.mono ?_; rintro e w' ⟨rfl, hw'⟩; obtain rfl := hw'.symm
    go_wp2_with fail
    refine (h2 _).mono ?_; rintro e w' ⟨rfl, hw'⟩; obtain rfl := hw'.symm
    go_wp2_with fail
    refine h4.mono ?_; rintro e w' ⟨rfl, hw'⟩; obtain rfl := hw'.symm
    go_wp2_with fail
    refine h4.mono ?_; rintro e w' ⟨rfl, hw'⟩; obtain rfl := hw'.symm
    go_wp2_with fail
    refine h7.mono ?_; rintro e w1 ⟨v, rfl, hO, hk⟩
    go_wp2
    exact bodyPost_ret (v := .tuple #[v, .int .i64 2]) (by simp [results, Tryz.results67, go_sem] <;> simp only [*]) rfl ⟨_, rfl, hO, hk⟩
  · rw [if_neg c5, if_neg c5] at h7
    rw [if_neg c5]
    clear c5
    go_enter Tryz.func67, Tryz.ntmps67
    go_wp2_with fail
    refine h1.mono ?_; rintro e w' ⟨rfl, hw'⟩; obtain rfl := hw'.symm
    go_wp2_with fail
    refine (h2 _).mono ?_; rintro e w' ⟨rfl, hw'⟩; obtain rfl := hw'.symm
    go_wp2_with fail
    refine h4.mono ?_; rintro e w' ⟨rfl, hw'⟩; obtain rfl := hw'.symm
    go_wp2_with fail
    refine h4.mono ?_; rintro e w' ⟨rfl, hw'⟩; obtain rfl := hw'.symm
    go_wp2_with fail
    refine h7.mono ?_; rintro e w1 ⟨v, rfl, hO, hk⟩
    go_wp2
    exact bodyPost_ret (v := .tuple #[v, .int .i64 0]) (by simp [results, Tryz.results67, go_sem] <;> simp only [*]) rfl ⟨_, rfl, hO, hk⟩
end Go.Proofs.YthngdlifpbhagaaGreatDoor
