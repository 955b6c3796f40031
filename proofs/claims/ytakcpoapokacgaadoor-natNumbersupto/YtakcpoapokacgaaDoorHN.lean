import Derived.Test.YtakcpoapokacgaaDoorProg
import Derived.Test.YtakcpoapokacgaaDoorA
import Derived.Test.YtakcpoapokacgaaDoorA2
import Derived.Test.YtakcpoapokacgaaDoorA3
import Derived.Test.YtakcpoapokacgaaDoorA4
import Derived.Test.YtakcpoapokacgaaDoorMN
import Derived.Test.YtakcpoapokacgaaDoorMV
import Derived.Test.YtakcpoapokacgaaDoorMP
import Derived.Test.YtakcpoapokacgaaDoorMD
import Derived.Test.YtakcpoapokacgaaDoorMS
import Derived.Test.YtakcpoapokacgaaDoorMC
import Derived.Test.YtakcpoapokacgaaDoorT1
import Derived.Test.YtakcpoapokacgaaDoorT2
import Derived.Test.YtakcpoapokacgaaDoorSM
import Derived.Test.YtakcpoapokacgaaDoorA5
import Derived.Test.YtakcpoapokacgaaDoorA6
import Derived.Test.YtakcpoapokacgaaDoorHB
import Derived.Test.YtakcpoapokacgaaDoorMM
import Derived.Test.YtakcpoapokacgaaDoorMW
import Derived.Test.YtakcpoapokacgaaDoorMZ
import Derived.Test.YtakcpoapokacgaaDoorTZ
import Derived.Test.YtakcpoapokacgaaDoorRC
import Derived.Test.YtakcpoapokacgaaDoorNC
import Derived.Test.YtakcpoapokacgaaDoorLN
import Derived.Test.YtakcpoapokacgaaDoorW4
import Derived.Test.YtakcpoapokacgaaDoorWC
import Derived.Test.YtakcpoapokacgaaDoorNSm
import Derived.Test.YtakcpoapokacgaaDoorZE
import Derived.Test.YtakcpoapokacgaaDoorRZ
import Derived.Test.YtakcpoapokacgaaDoorHB2
import Derived.Test.YtakcpoapokacgaaDoorHL
import Derived.Test.YtakcpoapokacgaaDoorHE2
import Derived.Test.YtakcpoapokacgaaDoorKA0
import Derived.Test.YtakcpoapokacgaaDoorKW0
import Derived.Test.YtakcpoapokacgaaDoorKA1
import Derived.Test.YtakcpoapokacgaaDoorKW1
import Derived.Test.YtakcpoapokacgaaDoorKA2
import Derived.Test.YtakcpoapokacgaaDoorKW2
import Derived.Test.YtakcpoapokacgaaDoorKA3
import Derived.Test.YtakcpoapokacgaaDoorKW3
import Derived.Test.YtakcpoapokacgaaDoorKA4
import Derived.Test.YtakcpoapokacgaaDoorKW4
import Derived.Test.YtakcpoapokacgaaDoorKA5
import Derived.Test.YtakcpoapokacgaaDoorKW5
import Derived.WalkKit
import Derived.ProofKit
import Derived.RowKit3
import Derived.WalkSpells
import Derived.StillTactics
import Derived.Deep.QuietTactic
import Derived.BigQuiet
import Derived.Below
import Derived.Deep.OwnRows
import Derived.OwnWalk
namespace Go.Proofs.YtakcpoapokacgaaDoor
open Go.RowKit
set_option maxRecDepth 20000 in
set_option maxHeartbeats 1000000 in
theorem numbers_ (p q : Option Addr) (c d : Nat) (xs ys : List Int) (x : Nat) (hx64 : x < 18446744073709551616) (w : World) (hT : Tab w) (hx : Arr w p xs) (hy : Arr w q ys) (hwx : Wd xs) (hwy : Wd ys) (lx : xs.length ≤ 1048576) (ly : ys.length ≤ 1048576) :
    Calls Tryd.prog 3 #[.slice p xs.length c, .slice q ys.length d, .int .u64 (x : Int)] w fun e w' => e = .returned (.bool true) ∧ Kp w w' := by
  have hx2 : (dig x).length ≤ 2 := by
    have e : (dig x).length = len32 x := rfl
    by_cases g : len32 x ≤ 2
    · omega
    · have := len32_lt x 2 (by omega)
      omega
  have h0 := fun w' (k : Kp w w') => held2_ 0 x 0 F0 (ask2_norm x 0) (want2_norm x 0) p q c d xs ys w' (hT.grown k) (hx.grown k) (hy.grown k) hwx hwy lx ly (fun us vs h _ => ⟨Nat.le_trans (by simp only [F0, nz_length]; exact Nat.le_trans (tl_le us) h) (by decide), by simp [F0]⟩)
  have h1 := fun w' (k : Kp w w') => held2_ 1 x 0 (F1 x) (ask2_small x hx64 0) (want2_small x hx64 0) p q c d xs ys w' (hT.grown k) (hx.grown k) (hy.grown k) hwx hwy lx ly (fun us vs _ _ => ⟨Nat.le_trans hx2 (by decide), by simp [F1]⟩)
  have h2 := fun w' (k : Kp w w') => held2_ 2 x 0 F2 (ask2_word x 0) (want2_word x 0) p q c d xs ys w' (hT.grown k) (hx.grown k) (hy.grown k) hwx hwy lx ly (fun us vs _ _ => ⟨by simp [F2], by simp [F2]⟩)
  have h3 := fun w' (k : Kp w w') => held2_ 3 x 0 F3 (ask2_cmp x 0) (want2_cmp x 0) p q c d xs ys w' (hT.grown k) (hx.grown k) (hy.grown k) hwx hwy lx ly (fun us vs _ _ => ⟨by simp [F3], by simp [F3]⟩)
  have h4 := fun w' (k : Kp w w') => held2_ 3 x 0 F3 (ask2_cmp x 0) (want2_cmp x 0) q p d c ys xs w' (hT.grown k) (hy.grown k) (hx.grown k) hwy hwx ly lx (fun us vs _ _ => ⟨by simp [F3], by simp [F3]⟩)
  have h5 := fun w' (k : Kp w w') => held2_ 4 x 0 F4 (ask2_bits x 0) (want2_bits x 0) p q c d xs ys w' (hT.grown k) (hx.grown k) (hy.grown k) hwx hwy lx ly (fun us vs _ _ => ⟨by simp [F4], by simp [F4]⟩)
  have h6 := fun w' (k : Kp w w') => held2_ 5 x 0 F5 (ask2_zeros x 0) (want2_zeros x 0) p q c d xs ys w' (hT.grown k) (hx.grown k) (hy.grown k) hwx hwy lx ly (fun us vs _ _ => ⟨by simp [F5], by simp [F5]⟩)
  obtain ⟨N, hN⟩ : ∃ N, N = xs.length := ⟨_, rfl⟩
  obtain ⟨M, hM⟩ : ∃ M, M = ys.length := ⟨_, rfl⟩
  rw [← hN, ← hM] at h0
  rw [← hN, ← hM] at h1
  rw [← hN, ← hM] at h2
  rw [← hN, ← hM] at h3
  rw [← hN, ← hM] at h4
  rw [← hN, ← hM] at h5
  rw [← hN, ← hM] at h6
  rw [← hN, ← hM]
  have K : Kp w w := Kp.refl w
  clear hT hx hy hwx hwy lx ly hN hM hx2 hx64
  go_enter Tryd.func3, Tryd.ntmps3
  go_wp2_with fail
  refine (h0 _ K).mono ?_; rintro e w1 ⟨rfl, k1⟩
  replace K := K.trans k1
  clear h0 k1
  go_wp2_with fail
  refine (h1 _ K).mono ?_; rintro e w2 ⟨rfl, k2⟩
  replace K := K.trans k2
  clear h1 k2
  go_wp2_with fail
  refine (h2 _ K).mono ?_; rintro e w3 ⟨rfl, k3⟩
  replace K := K.trans k3
  clear h2 k3
  go_wp2_with fail
  refine (h3 _ K).mono ?_; rintro e w4 ⟨rfl, k4⟩
  replace K := K.trans k4
  clear h3 k4
  go_wp2_with fail
  refine (h4 _ K).mono ?_; rintro e w5 ⟨rfl, k5⟩
  replace K := K.trans k5
  clear h4 k5
  go_wp2_with fail
  refine (h5 _ K).mono ?_; rintro e w6 ⟨rfl, k6⟩
  replace K := K.trans k6
  clear h5 k6
  go_wp2_with fail
  refine (h6 _ K).mono ?_; rintro e w7 ⟨rfl, k7⟩
  replace K := K.trans k7
  clear h6 k7
  go_wp2
  exact bodyPost_ret (v := .bool true) (by simp [results, Tryd.results3, go_sem] <;> simp only [*]) rfl ⟨rfl, K⟩
end Go.Proofs.YtakcpoapokacgaaDoor
