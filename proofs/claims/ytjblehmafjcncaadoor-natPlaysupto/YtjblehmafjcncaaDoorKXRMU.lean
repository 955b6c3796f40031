import Derived.Test.YtjblehmafjcncaaDoorProg
import Derived.Test.YtjblehmafjcncaaDoorKXA0
import Derived.Test.YtjblehmafjcncaaDoorKXM
import Derived.Test.YtjblehmafjcncaaDoorKXT
import Derived.Test.YtjblehmafjcncaaDoorKLN
import Derived.Test.YtjblehmafjcncaaDoorKRT
import Derived.Test.YtjblehmafjcncaaDoorKRN
import Derived.Test.YtjblehmafjcncaaDoorKNSm
import Derived.WalkKit
import Derived.ProofKit
import Derived.RowKit3
import Derived.WalkSpells
import Derived.StillTactics
import Derived.Deep.QuietTactic
import Derived.BigQuiet
import Derived.Below
import Derived.Deep.OwnRows
import Derived.OwnWalk
namespace Go.Proofs.YtjblehmafjcncaaDoor
open Go.RowKit
set_option maxRecDepth 20000 in
set_option maxHeartbeats 1000000 in
theorem rmul_ (p q : Option Addr) (c d : Nat) (xs ys : List Int) (w : World) (hx : Arr w p xs) (hy : Arr w q ys) (hwx : Wd xs) (hwy : Wd ys) (lx : xs.length ≤ 16777216) (ly : ys.length ≤ 16777216) :
    Calls Tryd.prog 57 #[.slice p xs.length c, .slice q ys.length d] w fun e w' => ∃ v, e = .returned (.tuple #[v, .int .i64 (mulN (val xs) (val ys)).2]) ∧ Own w' w.heap.size v (mulN (val xs) (val ys)).1 ∧ Kp w w' := by
  have h1 := long_ p c xs w hx (by omega)
  have h2 := long_ q d ys w hy (by omega)
  have h3 := rlen_ p c xs w hx hwx (by omega)
  have h4 := rlen_ q d ys w hy hwy (by omega)
  have h5 := rtimes_ p q c d xs ys w hx hy hwx hwy lx ly
  have e1 := tl_len xs hwx
  have e2 := tl_len ys hwy
  have lS := tl_le xs
  have lT := tl_le ys
  obtain ⟨a, ha⟩ : ∃ a, a = val xs := ⟨_, rfl⟩
  obtain ⟨b, hb'⟩ : ∃ b, b = val ys := ⟨_, rfl⟩
  rw [← ha] at e1 h3
  rw [← hb'] at e2 h4
  rw [← ha, ← hb'] at h5
  obtain ⟨N, hN⟩ : ∃ N, N = xs.length := ⟨_, rfl⟩
  obtain ⟨M, hM⟩ : ∃ M, M = ys.length := ⟨_, rfl⟩
  obtain ⟨S, hS⟩ : ∃ S, S = tl xs := ⟨_, rfl⟩
  obtain ⟨T, hT⟩ : ∃ T, T = tl ys := ⟨_, rfl⟩
  rw [← hN] at h1 h3 h5
  rw [← hM] at h2 h4 h5
  rw [← hS] at h1 e1 lS
  rw [← hT] at h2 e2 lT
  rw [← hN, ← hM, ← ha, ← hb']
  have lS2 : S ≤ 16777216 := by omega
  have lT2 : T ≤ 16777216 := by omega
  clear hx hy hwx hwy lx ly hN hM hS hT ha hb' lS lT
  by_cases c1 : 16384 < S
  · rw [decide_eq_true c1] at h1
    have e3 : mulN a b = ([], 2) := by unfold mulN; rw [if_pos (Or.inl (by omega))]
    rw [e3]
    clear h2 h3 h4 h5 c1 e1 e2 e3 lS2 lT2
    go_enter Tryd.func57, Tryd.ntmps57
    go_wp2_with fail
    refine h1.mono ?_; rintro e w' ⟨rfl, hw'⟩; obtain rfl := hw'.symm
    go_wp2
    exact bodyPost_ret (v := .tuple #[.slice none 0 0, .int .i64 2]) (by simp [results, Tryd.results57, go_sem] <;> simp only [*]) rfl ⟨_, rfl, Own.nil _ _, Kp.refl _⟩
  rw [decide_eq_false c1] at h1
  by_cases c2 : 16384 < T
  · rw [decide_eq_true c2] at h2
    have e3 : mulN a b = ([], 2) := by unfold mulN; rw [if_pos (Or.inr (by omega))]
    rw [e3]
    clear h3 h4 h5 c1 c2 e1 e2 e3 lS2 lT2
    go_enter Tryd.func57, Tryd.ntmps57
    go_wp2_with fail
    refine h1.mono ?_; rintro e w' ⟨rfl, hw'⟩; obtain rfl := hw'.symm
    go_wp2_with fail
    refine h2.mono ?_; rintro e w' ⟨rfl, hw'⟩; obtain rfl := hw'.symm
    go_wp2
    exact bodyPost_ret (v := .tuple #[.slice none 0 0, .int .i64 2]) (by simp [results, Tryd.results57, go_sem] <;> simp only [*]) rfl ⟨_, rfl, Own.nil _ _, Kp.refl _⟩
  rw [decide_eq_false c2] at h2
  have e0 : mulN a b = if 16384 < len32 (a * b) then ([], 2) else (dig (a * b), 0) := by unfold mulN; rw [if_neg (by omega)]
  have b1 := blen_len a 16384 (by omega)
  have b2 := blen_len b 16384 (by omega)
  have c6 := mul_bits a b 16384 (by omega) (by omega)
  obtain ⟨A1, hA1⟩ : ∃ A1, A1 = blen a := ⟨_, rfl⟩
  obtain ⟨B1, hB1⟩ : ∃ B1, B1 = blen b := ⟨_, rfl⟩
  rw [← hA1] at h3 b1 c6
  rw [← hB1] at h4 b2 c6
  by_cases c5 : 524289 < A1 + B1
  · rw [e0, if_pos (c6 (by omega))]
    have t1 : (524289 : Int) < (A1 : Int) + (B1 : Int) := by omega
    clear h5 c1 c2 e1 e2 e0 c5 c6 hA1 hB1
    go_enter Tryd.func57, Tryd.ntmps57
    go_wp2_with fail
    refine h1.mono ?_; rintro e w' ⟨rfl, hw'⟩; obtain rfl := hw'.symm
    go_wp2_with fail
    refine h2.mono ?_; rintro e w' ⟨rfl, hw'⟩; obtain rfl := hw'.symm
    go_wp2_with fail
    refine h3.mono ?_; rintro e w' ⟨rfl, hw'⟩; obtain rfl := hw'.symm
    go_wp2_with fail
    refine h4.mono ?_; rintro e w' ⟨rfl, hw'⟩; obtain rfl := hw'.symm
    go_wp2
    exact bodyPost_ret (v := .tuple #[.slice none 0 0, .int .i64 2]) (by simp [results, Tryd.results57, go_sem] <;> simp only [*]) rfl ⟨_, rfl, Own.nil _ _, Kp.refl _⟩
  have t1 : ¬ ((524289 : Int) < (A1 : Int) + (B1 : Int)) := by omega
  obtain ⟨K, hK⟩ : ∃ K, K = a * b := ⟨_, rfl⟩
  have hlen : (dig K).length ≤ 1099511627776 := by
    have : len32 K ≤ 16777216 + 16777216 := by rw [hK]; exact mul_len a b 16777216 (by omega) (by omega)
    exact Nat.le_trans this (by decide)
  rw [e0, ← hK]
  rw [← hK] at h5
  clear c1 c2 e0 hK e1 e2 c5 c6 hA1 hB1
  by_cases c3 : 16384 < len32 K
  · rw [if_pos c3]
    go_enter Tryd.func57, Tryd.ntmps57
    go_wp2_with fail
    refine h1.mono ?_; rintro e w' ⟨rfl, hw'⟩; obtain rfl := hw'.symm
    go_wp2_with fail
    refine h2.mono ?_; rintro e w' ⟨rfl, hw'⟩; obtain rfl := hw'.symm
    go_wp2_with fail
    refine h3.mono ?_; rintro e w' ⟨rfl, hw'⟩; obtain rfl := hw'.symm
    go_wp2_with fail
    refine h4.mono ?_; rintro e w' ⟨rfl, hw'⟩; obtain rfl := hw'.symm
    go_wp2_with fail
    refine h5.mono ?_; rintro e w1 ⟨v, rfl, hO, hkp⟩
    obtain ⟨p1, cc, rfl, hA, _⟩ := hO.arr
    have hf := fit_ p1 cc (dig K) w1 hA hlen
    rw [tl_dig, if_pos c3] at hf
    obtain ⟨D, hD⟩ : ∃ D, D = (dig K).length := ⟨_, rfl⟩
    have hO' : Own w1 w.heap.size (.slice p1 D cc) (dig K) := by rw [hD]; exact hO
    rw [← hD] at hf ⊢
    clear hA hlen h1 h2 h3 h4 h5 hD c3 hO
    go_wp2_with fail
    refine hf.mono ?_; rintro e w2 ⟨rfl, hw2⟩; obtain rfl := hw2.symm
    go_wp2
    exact bodyPost_ret (v := .tuple #[.slice none 0 0, .int .i64 2]) (by simp [results, Tryd.results57, go_sem] <;> simp only [*]) rfl ⟨_, rfl, Own.nil _ _, hkp⟩
  · rw [if_neg c3]
    go_enter Tryd.func57, Tryd.ntmps57
    go_wp2_with fail
    refine h1.mono ?_; rintro e w' ⟨rfl, hw'⟩; obtain rfl := hw'.symm
    go_wp2_with fail
    refine h2.mono ?_; rintro e w' ⟨rfl, hw'⟩; obtain rfl := hw'.symm
    go_wp2_with fail
    refine h3.mono ?_; rintro e w' ⟨rfl, hw'⟩; obtain rfl := hw'.symm
    go_wp2_with fail
    refine h4.mono ?_; rintro e w' ⟨rfl, hw'⟩; obtain rfl := hw'.symm
    go_wp2_with fail
    refine h5.mono ?_; rintro e w1 ⟨v, rfl, hO, hkp⟩
    obtain ⟨p1, cc, rfl, hA, _⟩ := hO.arr
    have hf := fit_ p1 cc (dig K) w1 hA hlen
    rw [tl_dig, if_neg c3] at hf
    obtain ⟨D, hD⟩ : ∃ D, D = (dig K).length := ⟨_, rfl⟩
    have hO' : Own w1 w.heap.size (.slice p1 D cc) (dig K) := by rw [hD]; exact hO
    rw [← hD] at hf ⊢
    clear hA hlen h1 h2 h3 h4 h5 hD c3 hO
    go_wp2_with fail
    refine hf.mono ?_; rintro e w2 ⟨rfl, hw2⟩; obtain rfl := hw2.symm
    go_wp2
    exact bodyPost_ret (v := .tuple #[.slice p1 D cc, .int .i64 0]) (by simp [results, Tryd.results57, go_sem] <;> simp only [*]) rfl ⟨_, rfl, hO', hkp⟩

set_option maxRecDepth 20000 in
set_option maxHeartbeats 1000000 in
theorem rpower_ (p : Option Addr) (c m : Nat) (xs : List Int) (w : World) (hx : Arr w p xs) (hwx : Wd xs) (lx : xs.length ≤ 16777216) (ha : 2 ≤ val xs) (hK : len32 (val xs ^ m) ≤ 16777216) (hm9 : m ≤ 1048576) :
    Calls Tryd.prog 79 #[.slice p xs.length c, .int .i64 (m : Int)] w fun e w' => ∃ v, e = .returned v ∧ Own w' w.heap.size v (dig (val xs ^ m)) ∧ Kp w w' := by
  have hno := fun w' (k : Kp w w') => rnorm_ p c xs w' (hx.grown k) (by omega)
  have htm : ∀ (x y : Nat) (p1 p2 : Option Addr) (c1 c2 : Nat) (w' : World), len32 x ≤ 16777216 → len32 y ≤ 16777216 → Arr w' p1 (dig x) → Arr w' p2 (dig y) →
      Calls Tryd.prog 78 #[.slice p1 (dig x).length c1, .slice p2 (dig y).length c2] w' fun e w'' => ∃ v, e = .returned v ∧ Own w'' w'.heap.size v (dig (x * y)) ∧ Kp w' w'' := fun x y p1 p2 c1 c2 w' hx hy h1 h2 => by
    have := rtimes_ p1 p2 c1 c2 (dig x) (dig y) w' h1 h2 (Wd_dig _) (Wd_dig _) hx hy
    rw [val_dig, val_dig] at this
    exact this
  have HT : Hid (∀ (x y : Nat) (p1 p2 : Option Addr) (c1 c2 : Nat) (w' : World), len32 x ≤ 16777216 → len32 y ≤ 16777216 → Arr w' p1 (dig x) → Arr w' p2 (dig y) →
      Calls Tryd.prog 78 #[.slice p1 (dig x).length c1, .slice p2 (dig y).length c2] w' fun e w'' => ∃ v, e = .returned v ∧ Own w'' w'.heap.size v (dig (x * y)) ∧ Kp w' w'') := htm
  rw [nz_dig xs hwx] at hno
  obtain ⟨a, hA⟩ : ∃ a, a = val xs := ⟨_, rfl⟩
  obtain ⟨N, hN⟩ : ∃ N, N = xs.length := ⟨_, rfl⟩
  rw [← hA] at hno ha hK ⊢
  rw [← hN] at hno ⊢
  obtain ⟨R, hR⟩ : ∃ R, R = a ^ m := ⟨_, rfl⟩
  rw [← hR] at hK ⊢
  have hO1 := own1 w
  have hk1 : Kp w (w.alloc (.cells #[.int .u32 1] 38)) := (Kp.refl w).alloc _
  have h1 := hno _ hk1
  have HR : Hid (R = a ^ m ∧ len32 R ≤ 16777216 ∧ 2 ≤ a) := ⟨hR, hK, ha⟩
  clear htm hno hx hwx lx hA hN hR hK ha
  go_enter Tryd.func79, Tryd.ntmps79
  go_wp2_with fail
  refine h1.mono ?_; rintro e w1 ⟨v1, rfl, hOx, hk2⟩
  have HO : Hid (Own w1 w.heap.size (.slice (some ⟨w.heap.size, 0, none⟩) 1 1) (dig 1) ∧ Own w1 w.heap.size v1 (dig a) ∧ Kp w w1) := ⟨by rw [dig_one]; exact hO1.kp hk2, hOx.mono hk1.size, hk1.trans hk2⟩
  clear h1 hOx hk2 hO1 hk1
  go_wp2
  go_loopw [1, 5, 6] (fun nn pp xx wr => ∃ (k P X : Nat) (v u : Value), nn = .int .i64 (k : Int) ∧ v = pp ∧ u = xx ∧ Own wr w.heap.size v (dig P) ∧ Own wr w.heap.size u (dig X) ∧ P * X ^ k = R ∧ 1 ≤ P ∧ 2 ≤ X ∧ Kp w wr ∧ k ≤ m) (fun nn _ _ _ => (intOf nn).toNat)
  case atStart => exact ⟨m, 1, a, _, _, rfl, rfl, rfl, HO.out.1, HO.out.2.1, by rw [Nat.one_mul]; exact HR.out.1.symm, Nat.le_refl _, HR.out.2.2, HO.out.2.2, Nat.le_refl _⟩
  case round =>
    clear HO
    obtain ⟨k, P, X, v, u, rfl, rfl, rfl, hOp, hOx, hPX, hP, hX, hkp, hkm⟩ := hrel
    by_cases ck : k = 0
    · subst ck
      rw [Nat.pow_zero, Nat.mul_one] at hPX
      subst hPX
      clear HT HR hP hX hOx
      go_wp2
      exact bodyPost_ret (v := v) (by simp [results, Tryd.results79, go_sem] <;> simp only [*]) rfl ⟨_, rfl, hOp, hkp⟩
    · have t1 : (0 : Int) < (k : Int) := by omega
      have hlR := HR.out.2.1
      have hXk : X ≤ X ^ k := by
        have := Nat.pow_le_pow_right (by omega : 0 < X) (by omega : 1 ≤ k)
        rw [Nat.pow_one] at this; exact this
      have hXk1 : 1 ≤ X ^ k := Nat.pow_pos (by omega)
      have hPR : P ≤ R := by rw [← hPX]; exact Nat.le_mul_of_pos_right _ hXk1
      have hXR : X ≤ R := by rw [← hPX]; exact Nat.le_trans hXk (Nat.le_mul_of_pos_left _ hP)
      have lP : len32 P ≤ 16777216 := Nat.le_trans (len32_mono hPR) hlR
      have lX : len32 X ≤ 16777216 := Nat.le_trans (len32_mono hXR) hlR
      obtain ⟨h, hh⟩ : ∃ h, h = k / 2 := ⟨_, rfl⟩
      have fh : (k : Int) / 2 = (h : Int) := by omega
      have hhb : h ≤ 1048576 := by omega
      obtain ⟨p1, c1, rfl, hAp, _⟩ := hOp.arr
      obtain ⟨p2, c2, rfl, hAx, _⟩ := hOx.arr
      have hX2 : X * X = X ^ 2 := by rw [Nat.pow_succ, Nat.pow_one]
      have hXX : 2 ≤ X * X := Nat.le_trans hX (Nat.le_mul_of_pos_left _ (by omega))
      have hhk : h < k := by omega
      have hsq := fun w' (k' : Kp wr w') => HT.out X X p2 p2 c2 c2 w' lX lX (hAx.grown k') (hAx.grown k')
      obtain ⟨DX, hDX⟩ : ∃ DX, DX = (dig X).length := ⟨_, rfl⟩
      rcases (by omega : k % 2 = 0 ∨ k % 2 = 1) with ce | ce
      · have fm : (k : Int) % 2 = 0 := by omega
        have hPX2 : P * (X * X) ^ h = R := by rw [hX2, ← Nat.pow_mul, show 2 * h = k from by omega]; exact hPX
        rw [← hDX] at hsq
        obtain ⟨DP, hDP⟩ : ∃ DP, DP = (dig P).length := ⟨_, rfl⟩
        have hOp2 : Own wr w.heap.size (.slice p1 DP c1) (dig P) := by rw [hDP]; exact hOp
        have hOx2 : Own wr w.heap.size (.slice p2 DX c2) (dig X) := by rw [hDX]; exact hOx
        rw [← hDX, ← hDP]
        clear hOp hOx hDX hDP HR hXk hXk1 hPR hXR lP lX hAp hAx hlR HT hPX
        have hne : h ≠ 0 := by omega
        clear hh
        by_cases c0 : h = 0
        · exact absurd c0 hne
        · have t2 : (0 : Int) < (h : Int) := by omega
          have h2 := hsq wr (Kp.refl _)
          clear hsq hX2
          go_wp2_with fail
          refine h2.mono ?_; rintro e w3 ⟨v3, rfl, hO3, hk3⟩
          have hO4 : Own w3 w.heap.size v3 (dig (X * X)) := hO3.mono hkp.size
          have hO5 := hOp2.kp hk3
          have hk5 := hkp.trans hk3
          clear hO3 hk3 hkp hOp2 hOx2 h2
          go_wp2
          exact ⟨⟨h, P, X * X, _, _, by go_num, rfl, rfl, hO5, hO4, hPX2, hP, hXX, hk5, by omega⟩, by simp [intOf]; omega⟩
      · have fm : (k : Int) % 2 = 1 := by omega
        have hPX2 : (P * X) * (X * X) ^ h = R := by
          rw [hX2, ← Nat.pow_mul, Nat.mul_assoc, Nat.mul_comm X, ← Nat.pow_succ, show (2 * h).succ = k from by omega]; exact hPX
        have h2 := HT.out P X p1 p2 c1 c2 wr lP lX hAp hAx
        rw [← hDX] at hsq h2
        obtain ⟨DP, hDP⟩ : ∃ DP, DP = (dig P).length := ⟨_, rfl⟩
        rw [← hDP] at h2
        have hOx2 : Own wr w.heap.size (.slice p2 DX c2) (dig X) := by rw [hDX]; exact hOx
        rw [← hDX, ← hDP]
        have hPX1 : 1 ≤ P * X := Nat.mul_pos hP (by omega)
        clear hh
        clear hOp hOx hDX hDP HR hXk hXk1 hPR hXR lP lX hAp hAx hlR HT hPX
        go_wp2_with fail
        refine h2.mono ?_; rintro e w3 ⟨v3, rfl, hO3, hk3⟩
        have h4 := hsq w3 hk3
        have hO4 : Own w3 w.heap.size v3 (dig (P * X)) := hO3.mono hkp.size
        have hO5 := hOx2.kp hk3
        have hk5 := hkp.trans hk3
        clear hO3 hk3 hkp hOx2 h2 hsq hX2
        by_cases c0 : h = 0
        · have t2 : ¬ ((0 : Int) < (h : Int)) := by omega
          clear h4
          go_wp2
          exact ⟨⟨h, P * X, X, _, _, by go_num, rfl, rfl, hO4, hO5, by rw [← hPX2, c0, Nat.pow_zero, Nat.pow_zero], hPX1, hX, hk5, by omega⟩, by simp [intOf]; omega⟩
        · have t2 : (0 : Int) < (h : Int) := by omega
          go_wp2_with fail
          refine h4.mono ?_; rintro e w4 ⟨v4, rfl, hO6, hk6⟩
          have hO7 : Own w4 w.heap.size v4 (dig (X * X)) := hO6.mono hk5.size
          have hO8 := hO4.kp hk6
          have hk7 := hk5.trans hk6
          clear hO6 hk6 hk5 hO4 hO5 h4
          go_wp2
          exact ⟨⟨h, P * X, X * X, _, _, by go_num, rfl, rfl, hO8, hO7, hPX2, hPX1, hXX, hk7, by omega⟩, by simp [intOf]; omega⟩
set_option maxRecDepth 20000 in
set_option maxHeartbeats 1000000 in
theorem rpow_ (p : Option Addr) (c : Nat) (xs : List Int) (w : World) (n : Int) (hx : Arr w p xs) (hwx : Wd xs) (lx : xs.length ≤ 16777216) :
    Calls Tryd.prog 58 #[.slice p xs.length c, .int .i64 n] w fun e w' => ∃ v, e = .returned (.tuple #[v, .int .i64 (powN (val xs) n).2]) ∧ Own w' w.heap.size v (powN (val xs) n).1 ∧ Kp w w' := by
  have h2 := long_ p c xs w hx (by omega)
  have h4 := rlen_ p c xs w hx hwx (by omega)
  have h5 := rnorm_ p c xs w hx (by omega)
  have h6 := fun (m : Nat) => rpower_ p c m xs w hx hwx lx
  have e1 := tl_len xs hwx
  have lS := tl_le xs
  rw [nz_dig xs hwx] at h5
  obtain ⟨a, ha⟩ : ∃ a, a = val xs := ⟨_, rfl⟩
  rw [← ha] at h4 h5 h6 e1
  obtain ⟨N, hN⟩ : ∃ N, N = xs.length := ⟨_, rfl⟩
  obtain ⟨S, hS⟩ : ∃ S, S = tl xs := ⟨_, rfl⟩
  rw [← hN] at h2 h4 h5 h6
  rw [← hS] at h2 e1 lS
  rw [← hN, ← ha]
  have lS2 : S ≤ 16777216 := by omega
  clear hx hwx lx hN hS ha lS
  by_cases c0 : n < 0
  · have e3 : powN a n = ([], 1) := by unfold powN; rw [if_pos c0]
    rw [e3]
    clear h2 h4 h5 h6 e1 e3 lS2
    go_enter Tryd.func58, Tryd.ntmps58
    go_wp2
    exact bodyPost_ret (v := .tuple #[.slice none 0 0, .int .i64 1]) (by simp [results, Tryd.results58, go_sem] <;> simp only [*]) rfl ⟨_, rfl, Own.nil _ _, Kp.refl _⟩
  obtain ⟨m, rfl⟩ := Int.eq_ofNat_of_zero_le (by omega : 0 ≤ n)
  by_cases c1 : 16384 < S
  · have e3 : powN a (m : Int) = ([], 2) := by unfold powN; rw [if_neg c0, if_pos (by omega)]
    rw [e3]
    rw [decide_eq_true c1] at h2
    clear h4 h5 h6 e1 e3 c1 lS2
    go_enter Tryd.func58, Tryd.ntmps58
    go_wp2_with fail
    refine h2.mono ?_; rintro e w' ⟨rfl, hw'⟩; obtain rfl := hw'.symm
    go_wp2
    exact bodyPost_ret (v := .tuple #[.slice none 0 0, .int .i64 2]) (by simp [results, Tryd.results58, go_sem] <;> simp only [*]) rfl ⟨_, rfl, Own.nil _ _, Kp.refl _⟩
  rw [decide_eq_false c1] at h2
  have e0 : powN a (m : Int) = if 16384 < len32 (a ^ m) then ([], 2) else (dig (a ^ m), 0) := by unfold powN; rw [if_neg c0, if_neg (by omega), Int.toNat_natCast]
  rw [e0]
  clear e0 c0
  have t0 : ¬ ((m : Int) < 0) := by omega
  by_cases c2 : m = 0
  · subst c2
    have e3 : ¬ 16384 < len32 (a ^ 0) := by rw [Nat.pow_zero, len32_one]; omega
    rw [if_neg e3, Nat.pow_zero, dig_one]
    have hO1 := own1 w
    have hk1 : Kp w (w.alloc (.cells #[.int .u32 1] 38)) := (Kp.refl w).alloc _
    obtain ⟨L0, hL0⟩ : ∃ L0, L0 = blen a := ⟨_, rfl⟩
    rw [← hL0] at h4
    clear h5 h6 e1 e3 c1 lS2 hL0
    go_enter Tryd.func58, Tryd.ntmps58
    go_wp2_with fail
    refine h2.mono ?_; rintro e w' ⟨rfl, hw'⟩; obtain rfl := hw'.symm
    go_wp2_with fail
    refine h4.mono ?_; rintro e w' ⟨rfl, hw'⟩; obtain rfl := hw'.symm
    go_wp2
    exact bodyPost_ret (v := .tuple #[.slice (some ⟨w.heap.size, 0, none⟩) 1 1, .int .i64 0]) (by simp [results, Tryd.results58, go_sem] <;> simp only [*]) rfl ⟨_, rfl, hO1, hk1⟩
  have t2 : ((m : Int) == 0) = false := by simp; omega
  obtain ⟨L, hL⟩ : ∃ L, L = blen a := ⟨_, rfl⟩
  rw [← hL] at h4
  have hLb := blen_len a 16384 (by omega)
  rw [← hL] at hLb
  by_cases c3 : L ≤ 1
  · have e3 := pow_small a m (by omega) (by omega)
    have e4 : ¬ 16384 < len32 a := by omega
    rw [e3, if_neg e4]
    have t3 : (L : Int) < 2 := by omega
    clear h6 e3 e4 c1 c2 hL e1 hLb lS2 c3
    go_enter Tryd.func58, Tryd.ntmps58
    go_wp2_with fail
    refine h2.mono ?_; rintro e w' ⟨rfl, hw'⟩; obtain rfl := hw'.symm
    go_wp2_with fail
    refine h4.mono ?_; rintro e w' ⟨rfl, hw'⟩; obtain rfl := hw'.symm
    go_wp2_with fail
    refine h5.mono ?_; rintro e w1 ⟨v, rfl, hO, hk⟩
    go_wp2
    exact bodyPost_ret (v := .tuple #[v, .int .i64 0]) (by simp [results, Tryd.results58, go_sem] <;> simp only [*]) rfl ⟨_, rfl, hO, hk⟩
  have t3 : ¬ ((L : Int) < 2) := by omega
  obtain ⟨q, hq⟩ : ∃ q, q = 524288 / (L - 1) := ⟨_, rfl⟩
  obtain ⟨K, hK⟩ : ∃ K, K = L - 1 := ⟨_, rfl⟩
  have hqK : (524288 : Int).tdiv (K : Int) = (q : Int) := by
    rw [hq, ← hK]
    exact tdiv_nat 524288 K
  have f1 : (L : Int) - 1 = (K : Int) := by omega
  have f2 : ¬ ((K : Int) = 0) := by omega
  have f3 : ((K : Int) == 0) = false := by simp; omega
  have hK9 : (K : Int) < 9223372036854775808 := by omega
  have hq9 : q ≤ 524288 := by rw [hq]; exact Nat.div_le_self _ _
  have hq8 : (q : Int) < 9223372036854775808 := by omega
  have HF : Hid (wrap64 (q : Int) = (q : Int) ∧ IntKind.i64.wrap (q : Int) = (q : Int) ∧ wrap64 (K : Int) = (K : Int) ∧ IntKind.i64.wrap (K : Int) = (K : Int)) := ⟨w64 (q : Int) (Int.natCast_nonneg _) hq8, wi64 (q : Int) (Int.natCast_nonneg _) hq8, w64 (K : Int) (Int.natCast_nonneg _) hK9, wi64 (K : Int) (Int.natCast_nonneg _) hK9⟩
  clear hq8 hK9
  by_cases c4 : q < m
  · have c5 : 16384 < len32 (a ^ m) := pow_long a m 16384 (by omega) (by rw [← hL]; exact div_long8 L m q hq (by omega) c4)
    rw [if_pos c5]
    have t4 : (q : Int) < (m : Int) := by omega
    obtain ⟨f6, f7, f4, f5⟩ := HF.out
    clear h5 h6 c1 c2 c3 c4 c5 hL e1 hq hLb lS2 hK HF hq9
    go_enter Tryd.func58, Tryd.ntmps58
    go_wp2_with fail
    refine h2.mono ?_; rintro e w' ⟨rfl, hw'⟩; obtain rfl := hw'.symm
    go_wp2_with fail
    refine h4.mono ?_; rintro e w' ⟨rfl, hw'⟩; obtain rfl := hw'.symm
    go_wp2
    exact bodyPost_ret (v := .tuple #[.slice none 0 0, .int .i64 2]) (by simp [results, Tryd.results58, go_sem] <;> simp only [*]) rfl ⟨_, rfl, Own.nil _ _, Kp.refl _⟩
  have t4 : ¬ ((q : Int) < (m : Int)) := by omega
  have hbd := pow_bound a m 32768 (by rw [← hL]; exact div_short L m q hq (by omega) (by omega))
  have h7 := h6 m (two_le a (by omega)) (by omega) (by omega)
  have hlen : (dig (a ^ m)).length ≤ 1099511627776 := by
    have : (dig (a ^ m)).length = len32 (a ^ m) := rfl
    omega
  obtain ⟨f6, f7, f4, f5⟩ := HF.out
  obtain ⟨Z, hZ⟩ : ∃ Z, Z = a ^ m := ⟨_, rfl⟩
  rw [← hZ] at h7 hlen ⊢
  have HL : Hid ((dig Z).length ≤ 1099511627776) := hlen
  clear h5 h6 c1 c2 c3 c4 hL e1 hq hLb lS2 hK hq9 hbd hlen hZ HF
  by_cases c5 : 16384 < len32 Z
  · rw [if_pos c5]
    have HC : Hid (16384 < len32 Z) := c5
    clear c5
    go_enter Tryd.func58, Tryd.ntmps58
    go_wp2_with fail
    refine h2.mono ?_; rintro e w' ⟨rfl, hw'⟩; obtain rfl := hw'.symm
    go_wp2_with fail
    refine h4.mono ?_; rintro e w' ⟨rfl, hw'⟩; obtain rfl := hw'.symm
    go_wp2_with fail
    refine h7.mono ?_; rintro e w1 ⟨v, rfl, hO, hk⟩
    obtain ⟨p1, cc, rfl, hA, _⟩ := hO.arr
    have hf := fit_ p1 cc (dig Z) w1 hA HL.out
    rw [tl_dig, if_pos HC.out] at hf
    obtain ⟨D, hD⟩ : ∃ D, D = (dig Z).length := ⟨_, rfl⟩
    rw [← hD] at hf ⊢
    clear hO hA hD h7 HL HC f4 f5 f6 f7
    go_wp2_with fail
    refine hf.mono ?_; rintro e w2 ⟨rfl, hw2⟩; obtain rfl := hw2.symm
    go_wp2
    exact bodyPost_ret (v := .tuple #[.slice none 0 0, .int .i64 2]) (by simp [results, Tryd.results58, go_sem] <;> simp only [*]) rfl ⟨_, rfl, Own.nil _ _, hk⟩
  · rw [if_neg c5]
    have HC : Hid (¬ 16384 < len32 Z) := c5
    clear c5
    go_enter Tryd.func58, Tryd.ntmps58
    go_wp2_with fail
    refine h2.mono ?_; rintro e w' ⟨rfl, hw'⟩; obtain rfl := hw'.symm
    go_wp2_with fail
    refine h4.mono ?_; rintro e w' ⟨rfl, hw'⟩; obtain rfl := hw'.symm
    go_wp2_with fail
    refine h7.mono ?_; rintro e w1 ⟨v, rfl, hO, hk⟩
    obtain ⟨p1, cc, rfl, hA, _⟩ := hO.arr
    have hf := fit_ p1 cc (dig Z) w1 hA HL.out
    rw [tl_dig, if_neg HC.out] at hf
    obtain ⟨D, hD⟩ : ∃ D, D = (dig Z).length := ⟨_, rfl⟩
    have hO' : Own w1 w.heap.size (.slice p1 D cc) (dig Z) := by rw [hD]; exact hO
    rw [← hD] at hf ⊢
    clear hO hA hD h7 HL HC f4 f5 f6 f7
    go_wp2_with fail
    refine hf.mono ?_; rintro e w2 ⟨rfl, hw2⟩; obtain rfl := hw2.symm
    go_wp2
    exact bodyPost_ret (v := .tuple #[.slice p1 D cc, .int .i64 0]) (by simp [results, Tryd.results58, go_sem] <;> simp only [*]) rfl ⟨_, rfl, hO', hk⟩
end Go.Proofs.YtjblehmafjcncaaDoor
