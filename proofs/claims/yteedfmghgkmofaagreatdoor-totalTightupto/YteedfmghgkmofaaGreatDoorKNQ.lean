import Derived.Test.YteedfmghgkmofaaGreatDoorKBO
namespace Go.Proofs.YteedfmghgkmofaaGreatDoor
open Go.RowKit
set_option maxRecDepth 20000 in
set_option maxHeartbeats 1000000 in
theorem quotient_ (p q : Option Addr) (c d : Nat) (xs ys : List Int) (w : World) (hx : Arr w p xs) (hy : Arr w q ys) (hnx : xs = dig (val xs)) (hny : ys = dig (val ys)) (lx : xs.length ≤ 1048576) (ly : ys.length ≤ 1048576) (hc : xs.length ≤ c) (hd : ys.length ≤ d) (h0 : 0 < val ys) :
    Calls Tryz.prog 145 #[.slice p xs.length c, .slice q ys.length d] w fun e w' => ∃ v, e = .returned v ∧ Two w' w.heap.size (dig (val xs / val ys)) (dig (val xs % val ys)) v ∧ Kp w w' := by
  have hwx : Wd xs := by rw [hnx]; exact Wd_dig _
  have hwy : Wd ys := by rw [hny]; exact Wd_dig _
  have hcm := ncmp_ p q c d xs ys w hx hy hwx hwy (by omega) (by omega) hc hd
  obtain ⟨N, hN⟩ : ∃ N, N = xs.length := ⟨_, rfl⟩
  obtain ⟨M, hM⟩ : ∃ M, M = ys.length := ⟨_, rfl⟩
  have hylast : ys.getD (ys.length - 1) 0 ≠ 0 := by
    rcases last_dig (val ys) with h | h
    · exfalso
      rw [← hny] at h
      rw [h] at h0
      exact absurd h0 (by simp [val])
    · rw [← hny] at h
      exact h
  have hM0 : 0 < M := by
    by_cases e : M = 0
    · exfalso
      have : ys = [] := List.length_eq_zero_iff.1 (by omega)
      rw [this] at h0
      exact absurd h0 (by simp [val])
    · omega
  by_cases ca : val xs < val ys
  · rw [cmpN_lt ca] at hcm
    have hfr := fun w' h => fresh_ p c xs w' (hx.grown h) (by omega)
    have e1 : val xs / val ys = 0 := Nat.div_eq_of_lt ca
    have e2 : val xs % val ys = val xs := Nat.mod_eq_of_lt ca
    rw [e1, e2, dig_zero, ← hnx]
    rw [← hN] at hcm hfr
    rw [← hM] at hcm
    have lN : N ≤ 1048576 := by omega
    have HX : Hid (N = xs.length) := hN
    rw [← hN, ← hM]
    clear hx hy hnx hny lx ly hc hd h0 hwx hwy hylast hM0 ca e1 e2 hN hM
    go_enter Tryz.func145, Tryz.ntmps145
    go_wp2_with fail
    refine hcm.mono ?_
    rintro e w1 ⟨rfl, hk1⟩
    clear hcm
    have hf1 := hfr w1 hk1
    clear hfr
    go_wp2_with fail
    refine hf1.mono ?_
    rintro e w2 ⟨g, rfl, hg, hR, hk2⟩
    have hO : Own w2 w.heap.size (.slice (some ⟨g, 0, none⟩) N N) xs := by
      have h1 := Own.of_row (base := w.heap.size) (k := N) hR (by have := hk1.size; omega) (Nat.le_refl _) HX.out.symm (by unfold maxLen; omega)
      rwa [List.take_of_length_le (by rw [← HX.out]; exact Nat.le_refl _)] at h1
    have HZ : Hid (Two w2 w.heap.size [] xs (.tuple #[.slice none 0 0, .slice (some ⟨g, 0, none⟩) N N]) ∧ Kp w w2) := ⟨⟨none, 0, some ⟨g, 0, none⟩, N, by rw [← HX.out]; rfl, Own.nil _ _, by rw [← HX.out]; exact hO, fun g e => by cases e⟩, hk1.trans hk2⟩
    clear hf1 hg hR hk2 hO hk1
    go_wp2
    exact bodyPost_ret (v := .tuple #[.slice none 0 0, .slice (some ⟨g, 0, none⟩) N N]) (by simp [results, Tryz.results145, go_sem]) rfl ⟨_, rfl, HZ.out.1, HZ.out.2⟩
  · obtain ⟨cc, hcc⟩ : ∃ cc, cc = cmpN (val xs) (val ys) := ⟨_, rfl⟩
    rw [← hcc] at hcm
    have hc0 : ¬ (cc < 0) := by
      rw [hcc]; unfold cmpN; rw [if_neg ca]; split <;> omega
    clear hcc
    by_cases cm : M = 1
    · have hc1 := hy.at (k := 0) (by omega)
      obtain ⟨b', off', rfl, hc'⟩ := hc1
      have e1 := hc' 0 (by omega)
      have wy := hwy 0
      obtain ⟨b, hb⟩ : ∃ b : Nat, (b : Int) = ys.getD 0 0 := ⟨_, Int.toNat_of_nonneg wy.1⟩
      rw [← hb, Nat.add_zero] at e1
      have hv : val ys = b := by
        have h1 := val_take_succ ys 0
        rw [List.take_of_length_le (by omega), ← hb] at h1
        simpa [val] using h1
      rw [hv] at h0 ⊢
      have hbo := fun w' h => byWord_ p c b xs w' (hx.grown h) hwx lx h0 (by omega)
      rw [← hN] at hcm hbo
      rw [← hM, cm] at hcm
      rw [← hN, ← hM, cm]
      clear hx hy hnx hny lx ly hc hd h0 hwx hwy hylast hM0 ca hN hM hc' wy hb hv cm
      go_enter Tryz.func145, Tryz.ntmps145
      go_wp2_with fail
      refine hcm.mono ?_
      rintro e w1 ⟨rfl, hk1⟩
      clear hcm
      have hb1 := hbo w1 hk1
      replace e1 := kkeep hk1 e1
      clear hbo
      go_wp2_with fail
      refine hb1.mono ?_
      rintro e w2 ⟨v, rfl, ⟨p1, c1, p2, c2, rfl, o1, o2, hne⟩, hk2⟩
      obtain ⟨L1, hL1⟩ : ∃ L1, L1 = (dig (val xs / b)).length := ⟨_, rfl⟩
      obtain ⟨L2, hL2⟩ : ∃ L2, L2 = (dig (val xs % b)).length := ⟨_, rfl⟩
      have HZ : Hid (Two w2 w.heap.size (dig (val xs / b)) (dig (val xs % b)) (.tuple #[.slice p1 L1 c1, .slice p2 L2 c2]) ∧ Kp w w2) := ⟨⟨p1, c1, p2, c2, by rw [hL1, hL2], o1.mono hk1.size, o2.mono hk1.size, hne⟩, hk1.trans hk2⟩
      rw [← hL1, ← hL2]
      clear hb1 o1 o2 hne hk2 hk1 e1 hL1 hL2
      go_wp2
      exact bodyPost_ret (v := .tuple #[.slice p1 L1 c1, .slice p2 L2 c2]) (by simp [results, Tryz.results145, go_sem]) rfl ⟨_, rfl, HZ.out.1, HZ.out.2⟩
    · have hle : ys.length ≤ xs.length := by
        have h1 := len32_mono (show val ys ≤ val xs by omega)
        unfold len32 at h1
        rwa [← hnx, ← hny] at h1
      have hbw := fun w' h => byWords_ p q c d xs ys w' (hx.grown h) (hy.grown h) hwx hwy lx hle (by omega) hylast
      rw [← hN, ← hM] at hcm hbw
      rw [← hN, ← hM]
      have t1 : ¬ (M : Int) = 1 := by omega
      clear hx hy hnx hny lx ly hc hd h0 hwx hwy hylast hM0 ca hN hM hle cm
      go_enter Tryz.func145, Tryz.ntmps145
      go_wp2_with fail
      refine hcm.mono ?_
      rintro e w1 ⟨rfl, hk1⟩
      clear hcm
      have hb1 := hbw w1 hk1
      clear hbw
      go_wp2_with fail
      refine hb1.mono ?_
      rintro e w2 ⟨v, rfl, ⟨p1, c1, p2, c2, rfl, o1, o2, hne⟩, hk2⟩
      obtain ⟨L1, hL1⟩ : ∃ L1, L1 = (dig (val xs / val ys)).length := ⟨_, rfl⟩
      obtain ⟨L2, hL2⟩ : ∃ L2, L2 = (dig (val xs % val ys)).length := ⟨_, rfl⟩
      have HZ : Hid (Two w2 w.heap.size (dig (val xs / val ys)) (dig (val xs % val ys)) (.tuple #[.slice p1 L1 c1, .slice p2 L2 c2]) ∧ Kp w w2) := ⟨⟨p1, c1, p2, c2, by rw [hL1, hL2], o1.mono hk1.size, o2.mono hk1.size, hne⟩, hk1.trans hk2⟩
      rw [← hL1, ← hL2]
      clear hb1 o1 o2 hne hk2 hk1 hL1 hL2
      go_wp2
      exact bodyPost_ret (v := .tuple #[.slice p1 L1 c1, .slice p2 L2 c2]) (by simp [results, Tryz.results145, go_sem]) rfl ⟨_, rfl, HZ.out.1, HZ.out.2⟩
set_option maxRecDepth 20000 in
set_option maxHeartbeats 1000000 in
theorem nquo_ (p q : Option Addr) (c d : Nat) (xs ys : List Int) (w : World) (hx : Arr w p xs) (hy : Arr w q ys) (hwx : Wd xs) (hwy : Wd ys) (lx : xs.length ≤ 1048576) (ly : ys.length ≤ 1048576) (hc : xs.length ≤ c) (hd : ys.length ≤ d) :
    Calls Tryz.prog 122 #[.slice p xs.length c, .slice q ys.length d] w fun e w' => (∃ p1 c1 p2 c2, e = .returned (.tuple #[.slice p1 (quoN (val xs) (val ys)).1.length c1, .slice p2 (quoN (val xs) (val ys)).2.1.length c2, .int .i64 (quoN (val xs) (val ys)).2.2]) ∧ Own w' w.heap.size (.slice p1 (quoN (val xs) (val ys)).1.length c1) (quoN (val xs) (val ys)).1 ∧ Own w' w.heap.size (.slice p2 (quoN (val xs) (val ys)).2.1.length c2) (quoN (val xs) (val ys)).2.1 ∧ (∀ g, p1 = some ⟨g, 0, none⟩ → p2 ≠ some ⟨g, 0, none⟩)) ∧ Kp w w' := by
  have h1 := trim_ p c xs w hx (by omega) hc
  have h2 := trim_ q d ys w hy (by omega) hd
  have l1 := tooLong_ p (tl xs) c w
  have l2 := tooLong_ q (tl ys) d w
  have ex : nz xs = dig (val xs) := nz_dig xs hwx
  have ey : nz ys = dig (val ys) := nz_dig ys hwy
  have hAx : Arr w p (nz xs) := hx.take _
  have hAy : Arr w q (nz ys) := hy.take _
  have tx := tl_le xs
  have ty := tl_le ys
  have hqu := fun h0 => quotient_ p q c d (nz xs) (nz ys) w hAx hAy (by rw [val_nz]; exact ex) (by rw [val_nz]; exact ey) (by rw [nz_length]; omega) (by rw [nz_length]; omega) (by rw [nz_length]; omega) (by rw [nz_length]; omega) h0
  rw [nz_length, nz_length, val_nz, val_nz] at hqu
  have hlx : tl xs = len32 (val xs) := tl_len xs hwx
  have hly : tl ys = len32 (val ys) := tl_len ys hwy
  obtain ⟨N, hN⟩ : ∃ N, N = xs.length := ⟨_, rfl⟩
  obtain ⟨M, hM⟩ : ∃ M, M = ys.length := ⟨_, rfl⟩
  obtain ⟨S, hS⟩ : ∃ S, S = tl xs := ⟨_, rfl⟩
  obtain ⟨T, hT⟩ : ∃ T, T = tl ys := ⟨_, rfl⟩
  rw [← hN, ← hS] at h1
  rw [← hM, ← hT] at h2
  rw [← hS] at l1 hlx
  rw [← hT] at l2 hly
  rw [← hS, ← hT] at hqu
  rw [← hN, ← hM]
  have hT0 : T = 0 ↔ val ys = 0 := by
    rw [hly]
    constructor
    · intro e
      unfold len32 at e
      have := List.length_eq_zero_iff.1 e
      have h := val_dig (val ys)
      rw [this] at h
      exact h.symm
    · intro e
      rw [e]
      unfold len32
      rw [dig_zero]; rfl
  clear hx hy hwx hwy lx ly hc hd ex ey hAx hAy tx ty hN hM hS hT
  unfold quoN
  by_cases c0 : val ys = 0
  · have t0 : T = 0 := hT0.2 c0
    subst t0
    simp only [if_pos c0]
    clear hqu hT0 hlx hly c0
    go_enter Tryz.func122, Tryz.ntmps122
    go_wp2_with fail
    refine h1.mono ?_; rintro e w' ⟨rfl, hw'⟩; obtain rfl := hw'.symm; clear h1
    go_wp2_with fail
    refine h2.mono ?_; rintro e w' ⟨rfl, hw'⟩; obtain rfl := hw'.symm; clear h2
    go_wp2
    exact bodyPost_ret (v := .tuple #[.slice none 0 0, .slice none 0 0, .int .i64 1]) (by simp [results, Tryz.results122, go_sem]) rfl ⟨⟨none, 0, none, 0, rfl, Own.nil _ _, Own.nil _ _, fun g e => by cases e⟩, Kp.refl _⟩
  · have t0 : ¬ (T : Int) = 0 := by have := mt hT0.1 c0; omega
    simp only [if_neg c0]
    have hqu2 := hqu (by omega)
    clear hqu hT0
    by_cases cl : 16384 < len32 (val xs) ∨ 16384 < len32 (val ys)
    · simp only [if_pos cl]
      rw [← hlx, ← hly] at cl
      by_cases ca : 16384 < S
      · rw [decide_eq_true ca] at l1
        clear hqu2 hlx hly cl ca c0
        go_enter Tryz.func122, Tryz.ntmps122
        go_wp2_with fail
        refine h1.mono ?_; rintro e w' ⟨rfl, hw'⟩; obtain rfl := hw'.symm; clear h1
        go_wp2_with fail
        refine h2.mono ?_; rintro e w' ⟨rfl, hw'⟩; obtain rfl := hw'.symm; clear h2
        go_wp2_with fail
        refine l1.mono ?_; rintro e w' ⟨rfl, hw'⟩; obtain rfl := hw'.symm; clear l1
        go_wp2
        exact bodyPost_ret (v := .tuple #[.slice none 0 0, .slice none 0 0, .int .i64 2]) (by simp [results, Tryz.results122, go_sem]) rfl ⟨⟨none, 0, none, 0, rfl, Own.nil _ _, Own.nil _ _, fun g e => by cases e⟩, Kp.refl _⟩
      · rw [decide_eq_false ca] at l1
        rw [decide_eq_true (show 16384 < T by omega)] at l2
        clear hqu2 hlx hly cl ca c0
        go_enter Tryz.func122, Tryz.ntmps122
        go_wp2_with fail
        refine h1.mono ?_; rintro e w' ⟨rfl, hw'⟩; obtain rfl := hw'.symm; clear h1
        go_wp2_with fail
        refine h2.mono ?_; rintro e w' ⟨rfl, hw'⟩; obtain rfl := hw'.symm; clear h2
        go_wp2_with fail
        refine l1.mono ?_; rintro e w' ⟨rfl, hw'⟩; obtain rfl := hw'.symm; clear l1
        go_wp2_with fail
        refine l2.mono ?_; rintro e w' ⟨rfl, hw'⟩; obtain rfl := hw'.symm; clear l2
        go_wp2
        exact bodyPost_ret (v := .tuple #[.slice none 0 0, .slice none 0 0, .int .i64 2]) (by simp [results, Tryz.results122, go_sem]) rfl ⟨⟨none, 0, none, 0, rfl, Own.nil _ _, Own.nil _ _, fun g e => by cases e⟩, Kp.refl _⟩
    · simp only [if_neg cl]
      rw [← hlx, ← hly] at cl
      rw [decide_eq_false (show ¬ 16384 < S by omega)] at l1
      rw [decide_eq_false (show ¬ 16384 < T by omega)] at l2
      clear hlx hly cl c0
      go_enter Tryz.func122, Tryz.ntmps122
      go_wp2_with fail
      refine h1.mono ?_; rintro e w' ⟨rfl, hw'⟩; obtain rfl := hw'.symm; clear h1
      go_wp2_with fail
      refine h2.mono ?_; rintro e w' ⟨rfl, hw'⟩; obtain rfl := hw'.symm; clear h2
      go_wp2_with fail
      refine l1.mono ?_; rintro e w' ⟨rfl, hw'⟩; obtain rfl := hw'.symm; clear l1
      go_wp2_with fail
      refine l2.mono ?_; rintro e w' ⟨rfl, hw'⟩; obtain rfl := hw'.symm; clear l2
      go_wp2_with fail
      refine hqu2.mono ?_
      rintro e w2 ⟨v, rfl, ⟨p1, c1, p2, c2, rfl, o1, o2, hne⟩, hk2⟩
      obtain ⟨L1, hL1⟩ : ∃ L1, L1 = (dig (val xs / val ys)).length := ⟨_, rfl⟩
      obtain ⟨L2, hL2⟩ : ∃ L2, L2 = (dig (val xs % val ys)).length := ⟨_, rfl⟩
      have HZ : Hid ((∃ p1' c1' p2' c2', Ending.returned (Value.tuple #[.slice p1 L1 c1, .slice p2 L2 c2, .int .i64 0]) = .returned (.tuple #[.slice p1' (dig (val xs / val ys)).length c1', .slice p2' (dig (val xs % val ys)).length c2', .int .i64 0]) ∧ Own w2 w.heap.size (.slice p1' (dig (val xs / val ys)).length c1') (dig (val xs / val ys)) ∧ Own w2 w.heap.size (.slice p2' (dig (val xs % val ys)).length c2') (dig (val xs % val ys)) ∧ (∀ g, p1' = some ⟨g, 0, none⟩ → p2' ≠ some ⟨g, 0, none⟩)) ∧ Kp w w2) := ⟨⟨p1, c1, p2, c2, by rw [hL1, hL2], o1, o2, hne⟩, hk2⟩
      rw [← hL1, ← hL2]
      clear hqu2 o1 o2 hne hk2 hL1 hL2 t0
      go_wp2
      exact bodyPost_ret (v := .tuple #[.slice p1 L1 c1, .slice p2 L2 c2, .int .i64 0]) (by simp [results, Tryz.results122, go_sem]) rfl HZ.out
end Go.Proofs.YteedfmghgkmofaaGreatDoor
