import Derived.Test.YtakcpoapokacgaaDoorProg
import Derived.Test.YtakcpoapokacgaaDoorA
import Derived.Test.YtakcpoapokacgaaDoorA2
import Derived.Test.YtakcpoapokacgaaDoorA3
import Derived.Test.YtakcpoapokacgaaDoorA4
import Derived.Test.YtakcpoapokacgaaDoorMN
import Derived.Test.YtakcpoapokacgaaDoorMV
import Derived.Test.YtakcpoapokacgaaDoorMP
import Derived.Test.YtakcpoapokacgaaDoorMD
import Derived.Test.YtakcpoapokacgaaDoorMS
import Derived.Test.YtakcpoapokacgaaDoorMC
import Derived.Test.YtakcpoapokacgaaDoorT1
import Derived.Test.YtakcpoapokacgaaDoorT2
import Derived.Test.YtakcpoapokacgaaDoorSM
import Derived.Test.YtakcpoapokacgaaDoorMM
import Derived.Test.YtakcpoapokacgaaDoorLN
import Derived.Test.YtakcpoapokacgaaDoorRT
import Derived.WalkKit
import Derived.ProofKit
import Derived.RowKit3
import Derived.WalkSpells
import Derived.StillTactics
import Derived.Deep.QuietTactic
import Derived.BigQuiet
import Derived.Below
import Derived.Deep.OwnRows
import Derived.OwnWalk
namespace Go.Proofs.YtakcpoapokacgaaDoor
open Go.RowKit
set_option maxRecDepth 20000 in
set_option maxHeartbeats 1000000 in
theorem rmul_ (p q : Option Addr) (c d : Nat) (xs ys : List Int) (w : World) (hx : Arr w p xs) (hy : Arr w q ys) (hwx : Wd xs) (hwy : Wd ys) (lx : xs.length ≤ 16777216) (ly : ys.length ≤ 16777216) :
    Calls Tryd.prog 50 #[.slice p xs.length c, .slice q ys.length d] w fun e w' => ∃ v, e = .returned (.tuple #[v, .int .i64 (mulN (val xs) (val ys)).2]) ∧ Own w' w.heap.size v (mulN (val xs) (val ys)).1 ∧ Kp w w' := by
  have h1 := long_ p c xs w hx (by omega)
  have h2 := long_ q d ys w hy (by omega)
  have h3 := rlen_ p c xs w hx hwx (by omega)
  have h4 := rlen_ q d ys w hy hwy (by omega)
  have h5 := rtimes_ p q c d xs ys w hx hy hwx hwy lx ly
  have e1 := tl_len xs hwx
  have e2 := tl_len ys hwy
  have lS := tl_le xs
  have lT := tl_le ys
  obtain ⟨a, ha⟩ : ∃ a, a = val xs := ⟨_, rfl⟩
  obtain ⟨b, hb'⟩ : ∃ b, b = val ys := ⟨_, rfl⟩
  rw [← ha] at e1 h3
  rw [← hb'] at e2 h4
  rw [← ha, ← hb'] at h5
  obtain ⟨N, hN⟩ : ∃ N, N = xs.length := ⟨_, rfl⟩
  obtain ⟨M, hM⟩ : ∃ M, M = ys.length := ⟨_, rfl⟩
  obtain ⟨S, hS⟩ : ∃ S, S = tl xs := ⟨_, rfl⟩
  obtain ⟨T, hT⟩ : ∃ T, T = tl ys := ⟨_, rfl⟩
  rw [← hN] at h1 h3 h5
  rw [← hM] at h2 h4 h5
  rw [← hS] at h1 e1 lS
  rw [← hT] at h2 e2 lT
  rw [← hN, ← hM, ← ha, ← hb']
  have lS2 : S ≤ 16777216 := by omega
  have lT2 : T ≤ 16777216 := by omega
  clear hx hy hwx hwy lx ly hN hM hS hT ha hb' lS lT
  by_cases c1 : 16384 < S
  · rw [decide_eq_true c1] at h1
    have e3 : mulN a b = ([], 2) := by unfold mulN; rw [if_pos (Or.inl (by omega))]
    rw [e3]
    clear h2 h3 h4 h5 c1 e1 e2 e3 lS2 lT2
    go_enter Tryd.func50, Tryd.ntmps50
    go_wp2_with fail
    refine h1.mono ?_; rintro e w' ⟨rfl, hw'⟩; obtain rfl := hw'.symm
    go_wp2
    exact bodyPost_ret (v := .tuple #[.slice none 0 0, .int .i64 2]) (by simp [results, Tryd.results50, go_sem] <;> simp only [*]) rfl ⟨_, rfl, Own.nil _ _, Kp.refl _⟩
  rw [decide_eq_false c1] at h1
  by_cases c2 : 16384 < T
  · rw [decide_eq_true c2] at h2
    have e3 : mulN a b = ([], 2) := by unfold mulN; rw [if_pos (Or.inr (by omega))]
    rw [e3]
    clear h3 h4 h5 c1 c2 e1 e2 e3 lS2 lT2
    go_enter Tryd.func50, Tryd.ntmps50
    go_wp2_with fail
    refine h1.mono ?_; rintro e w' ⟨rfl, hw'⟩; obtain rfl := hw'.symm
    go_wp2_with fail
    refine h2.mono ?_; rintro e w' ⟨rfl, hw'⟩; obtain rfl := hw'.symm
    go_wp2
    exact bodyPost_ret (v := .tuple #[.slice none 0 0, .int .i64 2]) (by simp [results, Tryd.results50, go_sem] <;> simp only [*]) rfl ⟨_, rfl, Own.nil _ _, Kp.refl _⟩
  rw [decide_eq_false c2] at h2
  have e0 : mulN a b = if 16384 < len32 (a * b) then ([], 2) else (dig (a * b), 0) := by unfold mulN; rw [if_neg (by omega)]
  have b1 := blen_len a 16384 (by omega)
  have b2 := blen_len b 16384 (by omega)
  have c6 := mul_bits a b 16384 (by omega) (by omega)
  obtain ⟨A1, hA1⟩ : ∃ A1, A1 = blen a := ⟨_, rfl⟩
  obtain ⟨B1, hB1⟩ : ∃ B1, B1 = blen b := ⟨_, rfl⟩
  rw [← hA1] at h3 b1 c6
  rw [← hB1] at h4 b2 c6
  by_cases c5 : 524289 < A1 + B1
  · rw [e0, if_pos (c6 (by omega))]
    have t1 : (524289 : Int) < (A1 : Int) + (B1 : Int) := by omega
    clear h5 c1 c2 e1 e2 e0 c5 c6 hA1 hB1
    go_enter Tryd.func50, Tryd.ntmps50
    go_wp2_with fail
    refine h1.mono ?_; rintro e w' ⟨rfl, hw'⟩; obtain rfl := hw'.symm
    go_wp2_with fail
    refine h2.mono ?_; rintro e w' ⟨rfl, hw'⟩; obtain rfl := hw'.symm
    go_wp2_with fail
    refine h3.mono ?_; rintro e w' ⟨rfl, hw'⟩; obtain rfl := hw'.symm
    go_wp2_with fail
    refine h4.mono ?_; rintro e w' ⟨rfl, hw'⟩; obtain rfl := hw'.symm
    go_wp2
    exact bodyPost_ret (v := .tuple #[.slice none 0 0, .int .i64 2]) (by simp [results, Tryd.results50, go_sem] <;> simp only [*]) rfl ⟨_, rfl, Own.nil _ _, Kp.refl _⟩
  have t1 : ¬ ((524289 : Int) < (A1 : Int) + (B1 : Int)) := by omega
  obtain ⟨K, hK⟩ : ∃ K, K = a * b := ⟨_, rfl⟩
  have hlen : (dig K).length ≤ 1099511627776 := by
    have : len32 K ≤ 16777216 + 16777216 := by rw [hK]; exact mul_len a b 16777216 (by omega) (by omega)
    exact Nat.le_trans this (by decide)
  rw [e0, ← hK]
  rw [← hK] at h5
  clear c1 c2 e0 hK e1 e2 c5 c6 hA1 hB1
  by_cases c3 : 16384 < len32 K
  · rw [if_pos c3]
    go_enter Tryd.func50, Tryd.ntmps50
    go_wp2_with fail
    refine h1.mono ?_; rintro e w' ⟨rfl, hw'⟩; obtain rfl := hw'.symm
    go_wp2_with fail
    refine h2.mono ?_; rintro e w' ⟨rfl, hw'⟩; obtain rfl := hw'.symm
    go_wp2_with fail
    refine h3.mono ?_; rintro e w' ⟨rfl, hw'⟩; obtain rfl := hw'.symm
    go_wp2_with fail
    refine h4.mono ?_; rintro e w' ⟨rfl, hw'⟩; obtain rfl := hw'.symm
    go_wp2_with fail
    refine h5.mono ?_; rintro e w1 ⟨v, rfl, hO, hkp⟩
    obtain ⟨p1, cc, rfl, hA, _⟩ := hO.arr
    have hf := fit_ p1 cc (dig K) w1 hA hlen
    rw [tl_dig, if_pos c3] at hf
    obtain ⟨D, hD⟩ : ∃ D, D = (dig K).length := ⟨_, rfl⟩
    have hO' : Own w1 w.heap.size (.slice p1 D cc) (dig K) := by rw [hD]; exact hO
    rw [← hD] at hf ⊢
    clear hA hlen h1 h2 h3 h4 h5 hD c3 hO
    go_wp2_with fail
    refine hf.mono ?_; rintro e w2 ⟨rfl, hw2⟩; obtain rfl := hw2.symm
    go_wp2
    exact bodyPost_ret (v := .tuple #[.slice none 0 0, .int .i64 2]) (by simp [results, Tryd.results50, go_sem] <;> simp only [*]) rfl ⟨_, rfl, Own.nil _ _, hkp⟩
  · rw [if_neg c3]
    go_enter Tryd.func50, Tryd.ntmps50
    go_wp2_with fail
    refine h1.mono ?_; rintro e w' ⟨rfl, hw'⟩; obtain rfl := hw'.symm
    go_wp2_with fail
    refine h2.mono ?_; rintro e w' ⟨rfl, hw'⟩; obtain rfl := hw'.symm
    go_wp2_with fail
    refine h3.mono ?_; rintro e w' ⟨rfl, hw'⟩; obtain rfl := hw'.symm
    go_wp2_with fail
    refine h4.mono ?_; rintro e w' ⟨rfl, hw'⟩; obtain rfl := hw'.symm
    go_wp2_with fail
    refine h5.mono ?_; rintro e w1 ⟨v, rfl, hO, hkp⟩
    obtain ⟨p1, cc, rfl, hA, _⟩ := hO.arr
    have hf := fit_ p1 cc (dig K) w1 hA hlen
    rw [tl_dig, if_neg c3] at hf
    obtain ⟨D, hD⟩ : ∃ D, D = (dig K).length := ⟨_, rfl⟩
    have hO' : Own w1 w.heap.size (.slice p1 D cc) (dig K) := by rw [hD]; exact hO
    rw [← hD] at hf ⊢
    clear hA hlen h1 h2 h3 h4 h5 hD c3 hO
    go_wp2_with fail
    refine hf.mono ?_; rintro e w2 ⟨rfl, hw2⟩; obtain rfl := hw2.symm
    go_wp2
    exact bodyPost_ret (v := .tuple #[.slice p1 D cc, .int .i64 0]) (by simp [results, Tryd.results50, go_sem] <;> simp only [*]) rfl ⟨_, rfl, hO', hkp⟩

end Go.Proofs.YtakcpoapokacgaaDoor
