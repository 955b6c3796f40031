import Derived.Test.YtakcpoapokacgabDoorProg
import Derived.Test.YtakcpoapokacgabDoorA
import Derived.Test.YtakcpoapokacgabDoorA2
import Derived.Test.YtakcpoapokacgabDoorA3
import Derived.Test.YtakcpoapokacgabDoorA4
import Derived.Test.YtakcpoapokacgabDoorMN
import Derived.Test.YtakcpoapokacgabDoorMV
import Derived.Test.YtakcpoapokacgabDoorMP
import Derived.Test.YtakcpoapokacgabDoorMD
import Derived.Test.YtakcpoapokacgabDoorMS
import Derived.Test.YtakcpoapokacgabDoorMC
import Derived.Test.YtakcpoapokacgabDoorT1
import Derived.Test.YtakcpoapokacgabDoorT2
import Derived.Test.YtakcpoapokacgabDoorSM
import Derived.Test.YtakcpoapokacgabDoorMM
import Derived.Test.YtakcpoapokacgabDoorMPw
import Derived.Test.YtakcpoapokacgabDoorRN
import Derived.Test.YtakcpoapokacgabDoorRT
import Derived.Test.YtakcpoapokacgabDoorNSm
import Derived.WalkKit
import Derived.ProofKit
import Derived.RowKit3
import Derived.WalkSpells
import Derived.StillTactics
import Derived.Deep.QuietTactic
import Derived.BigQuiet
import Derived.Below
import Derived.Deep.OwnRows
import Derived.OwnWalk
namespace Go.Proofs.YtakcpoapokacgabDoor
open Go.RowKit
set_option maxRecDepth 20000 in
set_option maxHeartbeats 1000000 in
theorem rpower_ (p : Option Addr) (c m : Nat) (xs : List Int) (w : World) (hx : Arr w p xs) (hwx : Wd xs) (lx : xs.length ≤ 16777216) (ha : 2 ≤ val xs) (hK : len32 (val xs ^ m) ≤ 16777216) (hm9 : m ≤ 1048576) :
    Calls Tryd.prog 72 #[.slice p xs.length c, .int .i64 (m : Int)] w fun e w' => ∃ v, e = .returned v ∧ Own w' w.heap.size v (dig (val xs ^ m)) ∧ Kp w w' := by
  have hno := fun w' (k : Kp w w') => rnorm_ p c xs w' (hx.grown k) (by omega)
  have htm : ∀ (x y : Nat) (p1 p2 : Option Addr) (c1 c2 : Nat) (w' : World), len32 x ≤ 16777216 → len32 y ≤ 16777216 → Arr w' p1 (dig x) → Arr w' p2 (dig y) →
      Calls Tryd.prog 71 #[.slice p1 (dig x).length c1, .slice p2 (dig y).length c2] w' fun e w'' => ∃ v, e = .returned v ∧ Own w'' w'.heap.size v (dig (x * y)) ∧ Kp w' w'' := fun x y p1 p2 c1 c2 w' hx hy h1 h2 => by
    have := rtimes_ p1 p2 c1 c2 (dig x) (dig y) w' h1 h2 (Wd_dig _) (Wd_dig _) hx hy
    rw [val_dig, val_dig] at this
    exact this
  have HT : Hid (∀ (x y : Nat) (p1 p2 : Option Addr) (c1 c2 : Nat) (w' : World), len32 x ≤ 16777216 → len32 y ≤ 16777216 → Arr w' p1 (dig x) → Arr w' p2 (dig y) →
      Calls Tryd.prog 71 #[.slice p1 (dig x).length c1, .slice p2 (dig y).length c2] w' fun e w'' => ∃ v, e = .returned v ∧ Own w'' w'.heap.size v (dig (x * y)) ∧ Kp w' w'') := htm
  rw [nz_dig xs hwx] at hno
  obtain ⟨a, hA⟩ : ∃ a, a = val xs := ⟨_, rfl⟩
  obtain ⟨N, hN⟩ : ∃ N, N = xs.length := ⟨_, rfl⟩
  rw [← hA] at hno ha hK ⊢
  rw [← hN] at hno ⊢
  obtain ⟨R, hR⟩ : ∃ R, R = a ^ m := ⟨_, rfl⟩
  rw [← hR] at hK ⊢
  have hO1 := own1 w
  have hk1 : Kp w (w.alloc (.cells #[.int .u32 1] 37)) := (Kp.refl w).alloc _
  have h1 := hno _ hk1
  have HR : Hid (R = a ^ m ∧ len32 R ≤ 16777216 ∧ 2 ≤ a) := ⟨hR, hK, ha⟩
  clear htm hno hx hwx lx hA hN hR hK ha
  go_enter Tryd.func72, Tryd.ntmps72
  go_wp2_with fail
  refine h1.mono ?_; rintro e w1 ⟨v1, rfl, hOx, hk2⟩
  have HO : Hid (Own w1 w.heap.size (.slice (some ⟨w.heap.size, 0, none⟩) 1 1) (dig 1) ∧ Own w1 w.heap.size v1 (dig a) ∧ Kp w w1) := ⟨by rw [dig_one]; exact hO1.kp hk2, hOx.mono hk1.size, hk1.trans hk2⟩
  clear h1 hOx hk2 hO1 hk1
  go_wp2
  go_loopw [1, 5, 6] (fun nn pp xx wr => ∃ (k P X : Nat) (v u : Value), nn = .int .i64 (k : Int) ∧ v = pp ∧ u = xx ∧ Own wr w.heap.size v (dig P) ∧ Own wr w.heap.size u (dig X) ∧ P * X ^ k = R ∧ 1 ≤ P ∧ 2 ≤ X ∧ Kp w wr ∧ k ≤ m) (fun nn _ _ _ => (intOf nn).toNat)
  case atStart => exact ⟨m, 1, a, _, _, rfl, rfl, rfl, HO.out.1, HO.out.2.1, by rw [Nat.one_mul]; exact HR.out.1.symm, Nat.le_refl _, HR.out.2.2, HO.out.2.2, Nat.le_refl _⟩
  case round =>
    clear HO
    obtain ⟨k, P, X, v, u, rfl, rfl, rfl, hOp, hOx, hPX, hP, hX, hkp, hkm⟩ := hrel
    by_cases ck : k = 0
    · subst ck
      rw [Nat.pow_zero, Nat.mul_one] at hPX
      subst hPX
      clear HT HR hP hX hOx
      go_wp2
      exact bodyPost_ret (v := v) (by simp [results, Tryd.results72, go_sem] <;> simp only [*]) rfl ⟨_, rfl, hOp, hkp⟩
    · have t1 : (0 : Int) < (k : Int) := by omega
      have hlR := HR.out.2.1
      have hXk : X ≤ X ^ k := by
        have := Nat.pow_le_pow_right (by omega : 0 < X) (by omega : 1 ≤ k)
        rw [Nat.pow_one] at this; exact this
      have hXk1 : 1 ≤ X ^ k := Nat.pow_pos (by omega)
      have hPR : P ≤ R := by rw [← hPX]; exact Nat.le_mul_of_pos_right _ hXk1
      have hXR : X ≤ R := by rw [← hPX]; exact Nat.le_trans hXk (Nat.le_mul_of_pos_left _ hP)
      have lP : len32 P ≤ 16777216 := Nat.le_trans (len32_mono hPR) hlR
      have lX : len32 X ≤ 16777216 := Nat.le_trans (len32_mono hXR) hlR
      obtain ⟨h, hh⟩ : ∃ h, h = k / 2 := ⟨_, rfl⟩
      have fh : (k : Int) / 2 = (h : Int) := by omega
      have hhb : h ≤ 1048576 := by omega
      obtain ⟨p1, c1, rfl, hAp, _⟩ := hOp.arr
      obtain ⟨p2, c2, rfl, hAx, _⟩ := hOx.arr
      have hX2 : X * X = X ^ 2 := by rw [Nat.pow_succ, Nat.pow_one]
      have hXX : 2 ≤ X * X := Nat.le_trans hX (Nat.le_mul_of_pos_left _ (by omega))
      have hhk : h < k := by omega
      have hsq := fun w' (k' : Kp wr w') => HT.out X X p2 p2 c2 c2 w' lX lX (hAx.grown k') (hAx.grown k')
      obtain ⟨DX, hDX⟩ : ∃ DX, DX = (dig X).length := ⟨_, rfl⟩
      rcases (by omega : k % 2 = 0 ∨ k % 2 = 1) with ce | ce
      · have fm : (k : Int) % 2 = 0 := by omega
        have hPX2 : P * (X * X) ^ h = R := by rw [hX2, ← Nat.pow_mul, show 2 * h = k from by omega]; exact hPX
        rw [← hDX] at hsq
        obtain ⟨DP, hDP⟩ : ∃ DP, DP = (dig P).length := ⟨_, rfl⟩
        have hOp2 : Own wr w.heap.size (.slice p1 DP c1) (dig P) := by rw [hDP]; exact hOp
        have hOx2 : Own wr w.heap.size (.slice p2 DX c2) (dig X) := by rw [hDX]; exact hOx
        rw [← hDX, ← hDP]
        clear hOp hOx hDX hDP HR hXk hXk1 hPR hXR lP lX hAp hAx hlR HT hPX
        have hne : h ≠ 0 := by omega
        clear hh
        by_cases c0 : h = 0
        · exact absurd c0 hne
        · have t2 : (0 : Int) < (h : Int) := by omega
          have h2 := hsq wr (Kp.refl _)
          clear hsq hX2
          go_wp2_with fail
          refine h2.mono ?_; rintro e w3 ⟨v3, rfl, hO3, hk3⟩
          have hO4 : Own w3 w.heap.size v3 (dig (X * X)) := hO3.mono hkp.size
          have hO5 := hOp2.kp hk3
          have hk5 := hkp.trans hk3
          clear hO3 hk3 hkp hOp2 hOx2 h2
          go_wp2
          exact ⟨⟨h, P, X * X, _, _, by go_num, rfl, rfl, hO5, hO4, hPX2, hP, hXX, hk5, by omega⟩, by simp [intOf]; omega⟩
      · have fm : (k : Int) % 2 = 1 := by omega
        have hPX2 : (P * X) * (X * X) ^ h = R := by
          rw [hX2, ← Nat.pow_mul, Nat.mul_assoc, Nat.mul_comm X, ← Nat.pow_succ, show (2 * h).succ = k from by omega]; exact hPX
        have h2 := HT.out P X p1 p2 c1 c2 wr lP lX hAp hAx
        rw [← hDX] at hsq h2
        obtain ⟨DP, hDP⟩ : ∃ DP, DP = (dig P).length := ⟨_, rfl⟩
        rw [← hDP] at h2
        have hOx2 : Own wr w.heap.size (.slice p2 DX c2) (dig X) := by rw [hDX]; exact hOx
        rw [← hDX, ← hDP]
        have hPX1 : 1 ≤ P * X := Nat.mul_pos hP (by omega)
        clear hh
        clear hOp hOx hDX hDP HR hXk hXk1 hPR hXR lP lX hAp hAx hlR HT hPX
        go_wp2_with fail
        refine h2.mono ?_; rintro e w3 ⟨v3, rfl, hO3, hk3⟩
        have h4 := hsq w3 hk3
        have hO4 : Own w3 w.heap.size v3 (dig (P * X)) := hO3.mono hkp.size
        have hO5 := hOx2.kp hk3
        have hk5 := hkp.trans hk3
        clear hO3 hk3 hkp hOx2 h2 hsq hX2
        by_cases c0 : h = 0
        · have t2 : ¬ ((0 : Int) < (h : Int)) := by omega
          clear h4
          go_wp2
          exact ⟨⟨h, P * X, X, _, _, by go_num, rfl, rfl, hO4, hO5, by rw [← hPX2, c0, Nat.pow_zero, Nat.pow_zero], hPX1, hX, hk5, by omega⟩, by simp [intOf]; omega⟩
        · have t2 : (0 : Int) < (h : Int) := by omega
          go_wp2_with fail
          refine h4.mono ?_; rintro e w4 ⟨v4, rfl, hO6, hk6⟩
          have hO7 : Own w4 w.heap.size v4 (dig (X * X)) := hO6.mono hk5.size
          have hO8 := hO4.kp hk6
          have hk7 := hk5.trans hk6
          clear hO6 hk6 hk5 hO4 hO5 h4
          go_wp2
          exact ⟨⟨h, P * X, X * X, _, _, by go_num, rfl, rfl, hO8, hO7, hPX2, hPX1, hXX, hk7, by omega⟩, by simp [intOf]; omega⟩
end Go.Proofs.YtakcpoapokacgabDoor
