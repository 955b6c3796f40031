import Derived.Test.YtjblehmafjcncaaDoorProg
import Derived.Test.YtjblehmafjcncaaDoorKXA0
import Derived.Test.YtjblehmafjcncaaDoorKXM
import Derived.Test.YtjblehmafjcncaaDoorKXT
import Derived.Test.YtjblehmafjcncaaDoorKXN
import Derived.Test.YtjblehmafjcncaaDoorKNC
import Derived.Test.YtjblehmafjcncaaDoorKND
import Derived.WalkKit
import Derived.ProofKit
import Derived.RowKit3
import Derived.WalkSpells
import Derived.StillTactics
import Derived.Deep.QuietTactic
import Derived.BigQuiet
import Derived.Below
import Derived.Deep.OwnRows
import Derived.OwnWalk
namespace Go.Proofs.YtjblehmafjcncaaDoor
open Go.RowKit
set_option maxRecDepth 20000 in
set_option maxHeartbeats 1000000 in
theorem nsub_ (p q : Option Addr) (c d : Nat) (xs ys : List Int) (w : World) (hx : Arr w p xs) (hy : Arr w q ys) (hwx : Wd xs) (hwy : Wd ys) (lx : xs.length < 1099511627775) (ly : ys.length < 1099511627775) (hc : xs.length ≤ c) (hd : ys.length ≤ d) :
    Calls Tryd.prog 46 #[.slice p xs.length c, .slice q ys.length d] w fun e w' => ∃ v, e = .returned (.tuple #[v, .int .i64 (subN (val xs) (val ys)).2]) ∧ Own w' w.heap.size v (subN (val xs) (val ys)).1 ∧ Kp w w' := by
  have h1 := trim_ p c xs w hx (by omega) hc
  have h2 := trim_ q d ys w hy (by omega) hd
  have lS := tl_le xs
  have lT := tl_le ys
  have h3 := ncmp_ p q c d (nz xs) (nz ys) w (hx.take _) (hy.take _) (hwx.take _) (hwy.take _) (by rw [nz_length]; omega) (by rw [nz_length]; omega) (by rw [nz_length]; omega) (by rw [nz_length]; omega)
  have h4 := tooLong_ p (tl xs) c
  rw [nz_length, nz_length, val_nz, val_nz] at h3
  have hb : val ys ≤ val xs → tl ys ≤ tl xs := tl_mono ys xs hwy hwx
  have h5 : val ys ≤ val xs → ∀ w', Kp w w' → Calls Tryd.prog 70 #[.slice p (tl xs) c, .slice q (tl ys) d] w' fun e w'' => ∃ v, e = .returned v ∧ Own w'' w'.heap.size v (dig (val xs - val ys)) ∧ Kp w' w'' := fun hle w' k => by
    have := diff_ p q c d (nz xs) (nz ys) w' ((hx.take _).grown k) ((hy.take _).grown k) (hwx.take _) (hwy.take _) (by rw [nz_length]; omega) (by rw [nz_length, nz_length]; exact hb hle) (by rw [val_nz, val_nz]; exact hle)
    rw [nz_length, nz_length, val_nz, val_nz] at this
    exact this
  have e1 := tl_len xs hwx
  obtain ⟨N, hN⟩ : ∃ N, N = xs.length := ⟨_, rfl⟩
  obtain ⟨M, hM⟩ : ∃ M, M = ys.length := ⟨_, rfl⟩
  obtain ⟨S, hS⟩ : ∃ S, S = tl xs := ⟨_, rfl⟩
  obtain ⟨T, hT⟩ : ∃ T, T = tl ys := ⟨_, rfl⟩
  obtain ⟨a, ha⟩ : ∃ a, a = val xs := ⟨_, rfl⟩
  obtain ⟨b, hb'⟩ : ∃ b, b = val ys := ⟨_, rfl⟩
  rw [← hN, ← hS] at h1
  rw [← hM, ← hT] at h2
  rw [← hS, ← hT, ← ha, ← hb'] at h3 h5
  rw [← hS] at h4 e1
  rw [← ha] at e1
  rw [← hN, ← hM, ← ha, ← hb']
  clear hx hy hwx hwy lx ly hc hd hN hM hS hT lS lT hb ha hb'
  by_cases c1 : a < b
  · rw [cmpN_lt c1] at h3
    have e3 : subN a b = ([], 1) := by unfold subN; rw [if_pos c1]
    rw [e3]
    clear h4 h5 c1 e1 e3
    go_enter Tryd.func46, Tryd.ntmps46
    go_wp2_with fail
    refine h1.mono ?_; rintro e w' ⟨rfl, hw'⟩; obtain rfl := hw'.symm
    go_wp2_with fail
    refine h2.mono ?_; rintro e w' ⟨rfl, hw'⟩; obtain rfl := hw'.symm
    go_wp2_with fail
    refine h3.mono ?_; rintro e w1 ⟨rfl, k1⟩
    go_wp2
    exact bodyPost_ret (v := .tuple #[.slice none 0 0, .int .i64 1]) (by simp [results, Tryd.results46, go_sem] <;> simp only [*]) rfl ⟨_, rfl, Own.nil _ _, k1⟩
  have t1 : ¬ (cmpN a b < 0) := by
    unfold cmpN; rw [if_neg c1]; split <;> omega
  obtain ⟨R, hR⟩ : ∃ R, R = cmpN a b := ⟨_, rfl⟩
  rw [← hR] at h3 t1
  by_cases c2 : 16384 < S
  · rw [decide_eq_true c2] at h4
    have e3 : subN a b = ([], 2) := by unfold subN; rw [if_neg c1, if_pos (by omega)]
    rw [e3]
    clear h5 c1 c2 e1 e3 hR
    go_enter Tryd.func46, Tryd.ntmps46
    go_wp2_with fail
    refine h1.mono ?_; rintro e w' ⟨rfl, hw'⟩; obtain rfl := hw'.symm
    go_wp2_with fail
    refine h2.mono ?_; rintro e w' ⟨rfl, hw'⟩; obtain rfl := hw'.symm
    go_wp2_with fail
    refine h3.mono ?_; rintro e w1 ⟨rfl, k1⟩
    go_wp2_with fail
    refine (h4 _).mono ?_; rintro e w' ⟨rfl, rfl⟩
    go_wp2
    exact bodyPost_ret (v := .tuple #[.slice none 0 0, .int .i64 2]) (by simp [results, Tryd.results46, go_sem] <;> simp only [*]) rfl ⟨_, rfl, Own.nil _ _, k1⟩
  rw [decide_eq_false c2] at h4
  have e3 : subN a b = (dig (a - b), 0) := by unfold subN; rw [if_neg c1, if_neg (by omega)]
  rw [e3]
  have h6 := h5 (by omega)
  clear h5 c1 c2 e1 e3 hR
  go_enter Tryd.func46, Tryd.ntmps46
  go_wp2_with fail
  refine h1.mono ?_; rintro e w' ⟨rfl, hw'⟩; obtain rfl := hw'.symm
  go_wp2_with fail
  refine h2.mono ?_; rintro e w' ⟨rfl, hw'⟩; obtain rfl := hw'.symm
  go_wp2_with fail
  refine h3.mono ?_; rintro e w1 ⟨rfl, k1⟩
  go_wp2_with fail
  refine (h4 _).mono ?_; rintro e w' ⟨rfl, rfl⟩
  go_wp2_with fail
  refine (h6 _ k1).mono ?_; rintro e w2 ⟨v, rfl, hO, k2⟩
  go_wp2
  exact bodyPost_ret (v := .tuple #[v, .int .i64 0]) (by simp [results, Tryd.results46, go_sem] <;> simp only [*]) rfl ⟨_, rfl, hO.mono k1.size, k1.trans k2⟩
end Go.Proofs.YtjblehmafjcncaaDoor
