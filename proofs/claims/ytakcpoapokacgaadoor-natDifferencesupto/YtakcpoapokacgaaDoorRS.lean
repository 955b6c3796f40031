import Derived.Test.YtakcpoapokacgaaDoorProg
import Derived.Test.YtakcpoapokacgaaDoorA
import Derived.Test.YtakcpoapokacgaaDoorA2
import Derived.Test.YtakcpoapokacgaaDoorA3
import Derived.Test.YtakcpoapokacgaaDoorA4
import Derived.Test.YtakcpoapokacgaaDoorMN
import Derived.Test.YtakcpoapokacgaaDoorMV
import Derived.Test.YtakcpoapokacgaaDoorMP
import Derived.Test.YtakcpoapokacgaaDoorMD
import Derived.Test.YtakcpoapokacgaaDoorMS
import Derived.Test.YtakcpoapokacgaaDoorMC
import Derived.Test.YtakcpoapokacgaaDoorT1
import Derived.Test.YtakcpoapokacgaaDoorT2
import Derived.Test.YtakcpoapokacgaaDoorSM
import Derived.Test.YtakcpoapokacgaaDoorRC
import Derived.Test.YtakcpoapokacgaaDoorRM
import Derived.Test.YtakcpoapokacgaaDoorRN
import Derived.WalkKit
import Derived.ProofKit
import Derived.RowKit3
import Derived.WalkSpells
import Derived.StillTactics
import Derived.Deep.QuietTactic
import Derived.BigQuiet
import Derived.Below
import Derived.Deep.OwnRows
import Derived.OwnWalk
namespace Go.Proofs.YtakcpoapokacgaaDoor
open Go.RowKit
set_option maxRecDepth 20000 in
set_option maxHeartbeats 1000000 in
theorem rsub_ (p q : Option Addr) (c d : Nat) (xs ys : List Int) (w : World) (hx : Arr w p xs) (hy : Arr w q ys) (hwx : Wd xs) (hwy : Wd ys) (lx : xs.length < 1099511627775) (ly : ys.length < 1099511627775) :
    Calls Tryd.prog 49 #[.slice p xs.length c, .slice q ys.length d] w fun e w' => ∃ v, e = .returned (.tuple #[v, .int .i64 (subN (val xs) (val ys)).2]) ∧ Own w' w.heap.size v (subN (val xs) (val ys)).1 ∧ Kp w w' := by
  have h3 := rcmp_ p q c d xs ys w hx hy hwx hwy (by omega) (by omega)
  have h1 := fun w' (k : Kp w w') => long_ p c xs w' (hx.grown k) (by omega)
  have h2 := fun w' (k : Kp w w') => long_ q d ys w' (hy.grown k) (by omega)
  have h4 := fun w' (k : Kp w w') => rnorm_ q d ys w' (hy.grown k) (by omega)
  have lS := tl_le xs
  have lT := tl_le ys
  have hb : val ys ≤ val xs → tl ys ≤ tl xs := tl_mono ys xs hwy hwx
  have h5 : val ys ≤ val xs → ∀ w' q' d', Kp w w' → Arr w' q' (nz ys) → Calls Tryd.prog 73 #[.slice p xs.length c, .slice q' (nz ys).length d'] w' fun e w'' => ∃ v, e = .returned v ∧ Own w'' w'.heap.size v (dig (val xs - val ys)) ∧ Kp w' w'' := fun hle w' q' d' k ha => by
    have := rminus_ p q' c d' xs (nz ys) w' (hx.grown k) ha hwx (hwy.take _) (by omega) (by rw [nz_length]; have := hb hle; omega) (by rw [val_nz]; exact hle)
    rw [val_nz] at this
    exact this
  have e1 := tl_len xs hwx
  have e2 := tl_len ys hwy
  obtain ⟨zs, hzs⟩ : ∃ zs, zs = nz ys := ⟨_, rfl⟩
  rw [← hzs] at h4 h5
  obtain ⟨N, hN⟩ : ∃ N, N = xs.length := ⟨_, rfl⟩
  obtain ⟨M, hM⟩ : ∃ M, M = ys.length := ⟨_, rfl⟩
  obtain ⟨S, hS⟩ : ∃ S, S = tl xs := ⟨_, rfl⟩
  obtain ⟨T, hT⟩ : ∃ T, T = tl ys := ⟨_, rfl⟩
  obtain ⟨a, ha⟩ : ∃ a, a = val xs := ⟨_, rfl⟩
  obtain ⟨b, hb'⟩ : ∃ b, b = val ys := ⟨_, rfl⟩
  rw [← hN, ← hM, ← ha, ← hb'] at h3
  rw [← hN, ← hS] at h1
  rw [← hM, ← hT] at h2
  rw [← hM] at h4
  rw [← hN, ← ha, ← hb'] at h5
  rw [← hS, ← hT, ← ha, ← hb'] at hb
  rw [← hS, ← ha] at e1
  rw [← hT, ← hb'] at e2
  have hDl : (dig (a - b)).length ≤ S := by
    have : len32 (a - b) ≤ len32 a := len32_mono (by omega)
    rw [e1]; exact this
  have hS2 : S ≤ 1099511627776 := by omega
  rw [← hN, ← hM, ← ha, ← hb']
  clear hx hy hwx hwy lx ly hN hM hS hT lS lT ha hb' hzs
  by_cases c1 : a < b
  · rw [cmpN_lt c1] at h3
    have e3 : subN a b = ([], 1) := by unfold subN; rw [if_pos c1]
    rw [e3]
    clear h1 h2 h4 h5 c1 e1 e2 e3 hb hDl hS2
    go_enter Tryd.func49, Tryd.ntmps49
    go_wp2_with fail
    refine h3.mono ?_; rintro e w1 ⟨rfl, k1⟩
    go_wp2
    exact bodyPost_ret (v := .tuple #[.slice none 0 0, .int .i64 1]) (by simp [results, Tryd.results49, go_sem] <;> simp only [*]) rfl ⟨_, rfl, Own.nil _ _, k1⟩
  have t1 : ¬ (cmpN a b < 0) := by
    unfold cmpN; rw [if_neg c1]; split <;> omega
  obtain ⟨R, hR⟩ : ∃ R, R = cmpN a b := ⟨_, rfl⟩
  rw [← hR] at h3 t1
  by_cases c2 : 16384 < S
  · rw [decide_eq_true c2] at h1
    have e3 : subN a b = ([], 2) := by unfold subN; rw [if_neg c1, if_pos (by omega)]
    rw [e3]
    clear h2 h4 h5 c1 c2 e1 e2 e3 hR hb hDl hS2
    go_enter Tryd.func49, Tryd.ntmps49
    go_wp2_with fail
    refine h3.mono ?_; rintro e w1 ⟨rfl, k1⟩
    go_wp2_with fail
    refine (h1 _ k1).mono ?_; rintro e w' ⟨rfl, rfl⟩
    go_wp2
    exact bodyPost_ret (v := .tuple #[.slice none 0 0, .int .i64 2]) (by simp [results, Tryd.results49, go_sem] <;> simp only [*]) rfl ⟨_, rfl, Own.nil _ _, k1⟩
  have hTS := hb (by omega)
  have c3 : ¬ 16384 < T := by omega
  rw [decide_eq_false c2] at h1
  rw [decide_eq_false c3] at h2
  have e3 : subN a b = (dig (a - b), 0) := by unfold subN; rw [if_neg c1, if_neg (by omega)]
  rw [e3]
  have h6 := h5 (by omega)
  have hDl2 : ¬ 16384 < tl (dig (a - b)) := by rw [tl_dig]; have : len32 (a - b) = (dig (a - b)).length := rfl; omega
  obtain ⟨D, hD⟩ : ∃ D, D = dig (a - b) := ⟨_, rfl⟩
  rw [← hD] at h6 hDl hDl2 ⊢
  clear h5 c1 c2 c3 e1 e2 e3 hR hb hTS hD
  go_enter Tryd.func49, Tryd.ntmps49
  go_wp2_with fail
  refine h3.mono ?_; rintro e w1 ⟨rfl, k1⟩
  go_wp2_with fail
  refine (h1 _ k1).mono ?_; rintro e w' ⟨rfl, rfl⟩
  go_wp2_with fail
  refine (h2 _ k1).mono ?_; rintro e w' ⟨rfl, rfl⟩
  go_wp2_with fail
  refine (h4 _ k1).mono ?_; rintro e w2 ⟨v2, rfl, hO2, k2⟩
  obtain ⟨p2, c2, rfl, hA2, _⟩ := hO2.arr
  have h7 := h6 w2 p2 c2 (k1.trans k2) hA2
  obtain ⟨L2, hL2⟩ : ∃ L2, L2 = zs.length := ⟨_, rfl⟩
  rw [← hL2] at h7 ⊢
  clear h6 hO2 hA2 hL2 h1 h2 h3 h4
  go_wp2_with fail
  refine h7.mono ?_; rintro e w3 ⟨v3, rfl, hO3, k3⟩
  obtain ⟨p3, c3, rfl, hA3, _⟩ := hO3.arr
  have hf := fit_ p3 c3 D w3 hA3 (by omega)
  rw [if_neg hDl2] at hf
  obtain ⟨L3, hL3⟩ : ∃ L3, L3 = D.length := ⟨_, rfl⟩
  have hO' : Own w3 w.heap.size (.slice p3 L3 c3) D := by rw [hL3]; exact hO3.mono (k1.trans k2).size
  rw [← hL3] at hf ⊢
  have K : Kp w w3 := (k1.trans k2).trans k3
  clear h7 hO3 hA3 hL3 hDl2 hDl hS2 k1 k2 k3
  go_wp2_with fail
  refine hf.mono ?_; rintro e w4 ⟨rfl, rfl⟩
  go_wp2
  exact bodyPost_ret (v := .tuple #[.slice p3 L3 c3, .int .i64 0]) (by simp [results, Tryd.results49, go_sem] <;> simp only [*]) rfl ⟨_, rfl, hO', K⟩
end Go.Proofs.YtakcpoapokacgaaDoor
