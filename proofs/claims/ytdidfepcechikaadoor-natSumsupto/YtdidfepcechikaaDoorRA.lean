import Derived.Test.YtdidfepcechikaaDoorProg
import Derived.Test.YtdidfepcechikaaDoorA
import Derived.Test.YtdidfepcechikaaDoorA2
import Derived.Test.YtdidfepcechikaaDoorA3
import Derived.Test.YtdidfepcechikaaDoorMN
import Derived.Test.YtdidfepcechikaaDoorMV
import Derived.Test.YtdidfepcechikaaDoorMP
import Derived.Test.YtdidfepcechikaaDoorMD
import Derived.Test.YtdidfepcechikaaDoorT2
import Derived.Test.YtdidfepcechikaaDoorSM
import Derived.Test.YtdidfepcechikaaDoorRN
import Derived.Test.YtdidfepcechikaaDoorRP
import Derived.WalkKit
import Derived.ProofKit
import Derived.RowKit3
import Derived.WalkSpells
import Derived.StillTactics
import Derived.Deep.QuietTactic
import Derived.BigQuiet
import Derived.Below
import Derived.Deep.OwnRows
import Derived.OwnWalk
namespace Go.Proofs.YtdidfepcechikaaDoor
open Go.RowKit
set_option maxRecDepth 20000 in
set_option maxHeartbeats 1000000 in
theorem radd_ (p q : Option Addr) (c d : Nat) (xs ys : List Int) (w : World) (hx : Arr w p xs) (hy : Arr w q ys) (hwx : Wd xs) (hwy : Wd ys) (lx : xs.length < 1099511627776) (ly : ys.length < 1099511627776) :
    Calls Tryd.prog 79 #[.slice p xs.length c, .slice q ys.length d] w fun e w' => ∃ v, e = .returned (.tuple #[v, .int .i64 (addN (val xs) (val ys)).2]) ∧ Own w' w.heap.size v (addN (val xs) (val ys)).1 ∧ Kp w w' := by
  have h1 := long_ p c xs w hx (by omega)
  have h2 := long_ q d ys w hy (by omega)
  have h3 := rplus_ p q c d xs ys w hx hy hwx hwy lx ly
  rw [tl_len xs hwx] at h1
  rw [tl_len ys hwy] at h2
  obtain ⟨N, hN⟩ : ∃ N, N = xs.length := ⟨_, rfl⟩
  obtain ⟨M, hM⟩ : ∃ M, M = ys.length := ⟨_, rfl⟩
  rw [← hN] at h1 h3 ⊢
  rw [← hM] at h2 h3 ⊢
  by_cases c1 : 16384 < len32 (val xs)
  · rw [decide_eq_true c1] at h1
    have e1 : addN (val xs) (val ys) = ([], 2) := by unfold addN; rw [if_pos (Or.inl c1)]
    rw [e1]
    clear hx hy hwx hwy lx ly hN hM h3 h2 c1 e1
    go_enter Tryd.func79, Tryd.ntmps79
    go_wp2_with (first | (go_at_call 75; refine (h1).mono ?_; rintro e w' ⟨rfl, rfl⟩))
    exact bodyPost_ret (v := .tuple #[.slice none 0 0, .int .i64 2]) (by simp [results, Tryd.results79, go_sem] <;> simp only [*]) rfl ⟨_, rfl, Own.nil _ _, Kp.refl _⟩
  rw [decide_eq_false c1] at h1
  by_cases c2 : 16384 < len32 (val ys)
  · rw [decide_eq_true c2] at h2
    have e1 : addN (val xs) (val ys) = ([], 2) := by unfold addN; rw [if_pos (Or.inr c2)]
    rw [e1]
    clear hx hy hwx hwy lx ly hN hM h3 c1 c2 e1
    go_enter Tryd.func79, Tryd.ntmps79
    go_wp2_with fail
    refine h1.mono ?_; rintro e w' ⟨rfl, rfl⟩
    go_wp2_with fail
    refine h2.mono ?_; rintro e w' ⟨rfl, rfl⟩
    go_wp2
    exact bodyPost_ret (v := .tuple #[.slice none 0 0, .int .i64 2]) (by simp [results, Tryd.results79, go_sem] <;> simp only [*]) rfl ⟨_, rfl, Own.nil _ _, Kp.refl _⟩
  rw [decide_eq_false c2] at h2
  have e0 : addN (val xs) (val ys) = if 16384 < len32 (val xs + val ys) then ([], 2) else (dig (val xs + val ys), 0) := by unfold addN; rw [if_neg (by omega)]
  obtain ⟨K, hK⟩ : ∃ K, K = val xs + val ys := ⟨_, rfl⟩
  rw [e0, ← hK]
  rw [← hK] at h3
  clear hx hy hwx hwy hN hM c1 c2 e0 hK
  by_cases c3 : 16384 < len32 K
  · rw [if_pos c3]
    go_enter Tryd.func79, Tryd.ntmps79
    go_wp2_with fail
    refine h1.mono ?_; rintro e w' ⟨rfl, rfl⟩
    go_wp2_with fail
    refine h2.mono ?_; rintro e w' ⟨rfl, rfl⟩
    go_wp2_with fail
    refine h3.mono ?_; rintro e w1 ⟨v, L, rfl, hO, hW, hv, hLl, hkp⟩
    rw [nz_dig L hW, hv] at hO
    have hlen : (dig K).length ≤ 1099511627776 := by
      rw [← hv, ← nz_dig L hW, nz_length]
      exact Nat.le_trans (tl_le L) hLl
    obtain ⟨p1, cc, rfl, hA, _⟩ := hO.arr
    have hf := fit_ p1 cc (dig K) w1 hA hlen
    rw [tl_dig, if_pos c3] at hf
    obtain ⟨D, hD⟩ : ∃ D, D = (dig K).length := ⟨_, rfl⟩
    have hO' : Own w1 w'.heap.size (.slice p1 D cc) (dig K) := by rw [hD]; exact hO
    rw [← hD] at hf ⊢
    clear hA hlen hW hv hLl h1 h2 h3 hD c3 hO
    go_wp2_with fail
    refine hf.mono ?_; rintro e w2 ⟨rfl, rfl⟩
    go_wp2
    exact bodyPost_ret (v := .tuple #[.slice none 0 0, .int .i64 2]) (by simp [results, Tryd.results79, go_sem] <;> simp only [*]) rfl ⟨_, rfl, Own.nil _ _, hkp⟩
  · rw [if_neg c3]
    go_enter Tryd.func79, Tryd.ntmps79
    go_wp2_with fail
    refine h1.mono ?_; rintro e w' ⟨rfl, rfl⟩
    go_wp2_with fail
    refine h2.mono ?_; rintro e w' ⟨rfl, rfl⟩
    go_wp2_with fail
    refine h3.mono ?_; rintro e w1 ⟨v, L, rfl, hO, hW, hv, hLl, hkp⟩
    rw [nz_dig L hW, hv] at hO
    have hlen : (dig K).length ≤ 1099511627776 := by
      rw [← hv, ← nz_dig L hW, nz_length]
      exact Nat.le_trans (tl_le L) hLl
    obtain ⟨p1, cc, rfl, hA, _⟩ := hO.arr
    have hf := fit_ p1 cc (dig K) w1 hA hlen
    rw [tl_dig, if_neg c3] at hf
    obtain ⟨D, hD⟩ : ∃ D, D = (dig K).length := ⟨_, rfl⟩
    have hO' : Own w1 w'.heap.size (.slice p1 D cc) (dig K) := by rw [hD]; exact hO
    rw [← hD] at hf ⊢
    clear hA hlen hW hv hLl h1 h2 h3 hD c3 hO
    go_wp2_with fail
    refine hf.mono ?_; rintro e w2 ⟨rfl, rfl⟩
    go_wp2
    exact bodyPost_ret (v := .tuple #[.slice p1 D cc, .int .i64 0]) (by simp [results, Tryd.results79, go_sem] <;> simp only [*]) rfl ⟨_, rfl, hO', hkp⟩

end Go.Proofs.YtdidfepcechikaaDoor
