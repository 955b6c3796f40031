import Derived.Test.YtnjlcfpkhgmjeaaGreatDoorKH2DQ
namespace Go.Proofs.YtnjlcfpkhgmjeaaGreatDoor
open Go.RowKit
set_option maxRecDepth 20000 in
set_option maxHeartbeats 400000 in
theorem isnan_i (x : Int) (w : World) : Calls Tryz.prog 119 #[.int .i64 x] w fun e w' => e = .returned (.bool false) ∧ w' = w := by
  go_enter Tryz.func119, Tryz.ntmps119
  go_wp2
  exact bodyPost_ret (v := .bool false) (by simp [results, Tryz.results119, go_sem] <;> simp only [*]) rfl ⟨rfl, rfl⟩
set_option maxRecDepth 20000 in
set_option maxHeartbeats 400000 in
theorem compare_i (x y : Int) (w : World) : Calls Tryz.prog 104 #[.int .i64 x, .int .i64 y] w fun e w' => e = .returned (.int .i64 (cmpz x y)) ∧ w' = w := by
  rcases (by omega : x < y ∨ y < x ∨ x = y) with c | c | c
  · have ec : cmpz x y = -1 := by unfold cmpz; simp [c]
    rw [ec]; clear ec
    go_enter Tryz.func104, Tryz.ntmps104
    go_wp2_with (first | (go_at_call 119; refine (isnan_i _ _).mono ?_; rintro e w' ⟨rfl, rfl⟩))
    exact bodyPost_ret (v := .int .i64 (-1)) (by simp [results, Tryz.results104, go_sem] <;> simp only [*]) rfl ⟨rfl, rfl⟩
  · have d : ¬ (x < y) := by omega
    have ec : cmpz x y = 1 := by unfold cmpz; simp [c, d]
    rw [ec]; clear ec
    go_enter Tryz.func104, Tryz.ntmps104
    go_wp2_with (first | (go_at_call 119; refine (isnan_i _ _).mono ?_; rintro e w' ⟨rfl, rfl⟩))
    exact bodyPost_ret (v := .int .i64 1) (by simp [results, Tryz.results104, go_sem] <;> simp only [*]) rfl ⟨rfl, rfl⟩
  · subst c
    have d : ¬ (x < x) := by omega
    have ec : cmpz x x = 0 := by unfold cmpz; simp
    rw [ec]; clear ec
    go_enter Tryz.func104, Tryz.ntmps104
    go_wp2_with (first | (go_at_call 119; refine (isnan_i _ _).mono ?_; rintro e w' ⟨rfl, rfl⟩))
    exact bodyPost_ret (v := .int .i64 0) (by simp [results, Tryz.results104, go_sem] <;> simp only [*]) rfl ⟨rfl, rfl⟩
set_option maxRecDepth 20000 in
set_option maxHeartbeats 400000 in
theorem isnan_u (x : Int) (w : World) : Calls Tryz.prog 120 #[.int .u32 x] w fun e w' => e = .returned (.bool false) ∧ w' = w := by
  go_enter Tryz.func120, Tryz.ntmps120
  go_wp2
  exact bodyPost_ret (v := .bool false) (by simp [results, Tryz.results120, go_sem] <;> simp only [*]) rfl ⟨rfl, rfl⟩
set_option maxRecDepth 20000 in
set_option maxHeartbeats 400000 in
theorem compare_u (x y : Int) (w : World) : Calls Tryz.prog 105 #[.int .u32 x, .int .u32 y] w fun e w' => e = .returned (.int .i64 (cmpz x y)) ∧ w' = w := by
  rcases (by omega : x < y ∨ y < x ∨ x = y) with c | c | c
  · have ec : cmpz x y = -1 := by unfold cmpz; simp [c]
    rw [ec]; clear ec
    go_enter Tryz.func105, Tryz.ntmps105
    go_wp2_with (first | (go_at_call 120; refine (isnan_u _ _).mono ?_; rintro e w' ⟨rfl, rfl⟩))
    exact bodyPost_ret (v := .int .i64 (-1)) (by simp [results, Tryz.results105, go_sem] <;> simp only [*]) rfl ⟨rfl, rfl⟩
  · have d : ¬ (x < y) := by omega
    have ec : cmpz x y = 1 := by unfold cmpz; simp [c, d]
    rw [ec]; clear ec
    go_enter Tryz.func105, Tryz.ntmps105
    go_wp2_with (first | (go_at_call 120; refine (isnan_u _ _).mono ?_; rintro e w' ⟨rfl, rfl⟩))
    exact bodyPost_ret (v := .int .i64 1) (by simp [results, Tryz.results105, go_sem] <;> simp only [*]) rfl ⟨rfl, rfl⟩
  · subst c
    have d : ¬ (x < x) := by omega
    have ec : cmpz x x = 0 := by unfold cmpz; simp
    rw [ec]; clear ec
    go_enter Tryz.func105, Tryz.ntmps105
    go_wp2_with (first | (go_at_call 120; refine (isnan_u _ _).mono ?_; rintro e w' ⟨rfl, rfl⟩))
    exact bodyPost_ret (v := .int .i64 0) (by simp [results, Tryz.results105, go_sem] <;> simp only [*]) rfl ⟨rfl, rfl⟩
set_option maxRecDepth 20000 in
set_option maxHeartbeats 1000000 in
theorem ncmp_ (p q : Option Addr) (c d : Nat) (xs ys : List Int) (w : World) (hx : Arr w p xs) (hy : Arr w q ys) (hwx : Wd xs) (hwy : Wd ys) (lx : xs.length ≤ 1099511627776) (ly : ys.length ≤ 1099511627776) (hc : xs.length ≤ c) (hd : ys.length ≤ d) :
    Calls Tryz.prog 66 #[.slice p xs.length c, .slice q ys.length d] w fun e w' => e = .returned (.int .i64 (cmpN (val xs) (val ys))) ∧ Kp w w' := by
  have h1 := trim_ p c xs w hx lx hc
  have h2 := trim_ q d ys w hy ly hd
  have lS := tl_le xs
  have lT := tl_le ys
  have hg : Kp w w := Kp.refl w
  have dne : tl xs ≠ tl ys → cmpz (tl xs : Int) (tl ys : Int) = cmpN (val xs) (val ys) := fun h => by
    rcases (by omega : tl xs < tl ys ∨ tl ys < tl xs) with e | e
    · rw [cmpN_lt (tl_lt_val xs ys hwx hwy e)]; unfold cmpz; rw [if_pos (by omega)]
    · rw [cmpN_gt (tl_lt_val ys xs hwy hwx e)]; unfold cmpz; rw [if_neg (by omega), if_pos (by omega)]
  have deq : tl xs = tl ys → (∀ j, j < tl xs → xs.getD j 0 = ys.getD j 0) → cmpN (val xs) (val ys) = 0 := fun e h => by
    apply cmpN_eq
    rw [← val_tl xs, ← val_tl ys, ← e]
    exact cmp_all xs ys _ h
  have tne : ∀ k, tl xs = tl ys → k < tl xs → xs.getD k 0 ≠ ys.getD k 0 → (∀ j, k < j → j < tl xs → xs.getD j 0 = ys.getD j 0) → cmpz (xs.getD k 0) (ys.getD k 0) = cmpN (val xs) (val ys) := fun k e h1 h2 h3 => by
    rcases (by omega : xs.getD k 0 < ys.getD k 0 ∨ ys.getD k 0 < xs.getD k 0) with f | f
    · rw [cmpN_lt (by rw [← val_tl xs, ← val_tl ys, ← e]; exact cmp_top xs ys hwx k (hwx k).1 f _ h1 h3)]; unfold cmpz; rw [if_pos f]
    · rw [cmpN_gt (by rw [← val_tl xs, ← val_tl ys, ← e]; exact cmp_top ys xs hwy k (hwy k).1 f _ h1 (fun j a b => (h3 j a b).symm))]; unfold cmpz; rw [if_neg (by omega), if_pos f]
  obtain ⟨R, hR⟩ : ∃ R, R = cmpN (val xs) (val ys) := ⟨_, rfl⟩
  obtain ⟨N, hN⟩ : ∃ N, N = xs.length := ⟨_, rfl⟩
  obtain ⟨M, hM⟩ : ∃ M, M = ys.length := ⟨_, rfl⟩
  obtain ⟨S, hS⟩ : ∃ S, S = tl xs := ⟨_, rfl⟩
  obtain ⟨T, hT⟩ : ∃ T, T = tl ys := ⟨_, rfl⟩
  rw [← hS, ← hN] at h1 lS
  rw [← hT, ← hM] at h2 lT
  rw [← hS, ← hT, ← hR] at dne deq tne
  rw [← hN, ← hM, ← hR]
  have HX : Hid (Arr w p xs) := hx
  have HY : Hid (Arr w q ys) := hy
  have HN : Hid (N = xs.length ∧ M = ys.length) := ⟨hN, hM⟩
  have lS2 : S ≤ 1099511627776 := by omega
  clear hx hy hwx hwy lx ly hN hM hS hT hR hc hd
  by_cases cST : S = T
  · subst cST
    have t1 : ((S : Int) != (S : Int)) = false := by simp
    have HD : Hid ((∀ j, j < S → xs.getD j 0 = ys.getD j 0) → R = 0) := deq rfl
    have HL : Hid (∀ k, k < S → xs.getD k 0 ≠ ys.getD k 0 → (∀ j, k < j → j < S → xs.getD j 0 = ys.getD j 0) → cmpz (xs.getD k 0) (ys.getD k 0) = R) := fun k => tne k rfl
    clear dne deq tne
    go_enter Tryz.func66, Tryz.ntmps66
    go_wp2_with fail
    refine h1.mono ?_; rintro e w' ⟨rfl, hw'⟩; obtain rfl := hw'.symm
    go_wp2_with fail
    refine h2.mono ?_; rintro e w' ⟨rfl, hw'⟩; obtain rfl := hw'.symm
    clear h1 h2
    go_wp2
    clear t1
    go_loopw [23] (fun i wr => ∃ (k : Nat), k ≤ S ∧ i = .int .i64 k ∧ Kp w wr ∧ ∀ j, S ≤ j + k → j < S → xs.getD j 0 = ys.getD j 0) (fun i _ => S - (intOf i).toNat)
    case atStart => exact ⟨0, Nat.zero_le _, rfl, hg, fun j _ _ => by omega⟩
    case round =>
      clear hg
      obtain ⟨k, hk, rfl, hg, hs⟩ := hrel
      by_cases ck : k < S
      · obtain ⟨hN, hM⟩ := HN.out
        obtain ⟨m, hm⟩ : ∃ m : Nat, m + k + 1 = S := ⟨S - 1 - k, by omega⟩
        obtain ⟨b, off, rfl, hc⟩ := HX.out.at (k := m) (by omega)
        obtain ⟨b', off', rfl, hc'⟩ := HY.out.at (k := m) (by omega)
        have e1 := kkeep hg (hc m (by omega))
        have e2 := kkeep hg (hc' m (by omega))
        have hm2 : m = S - 1 - k := by omega
        rw [hm2] at e1 e2
        have i0 : (0 : Int) ≤ (S : Int) - 1 - (k : Int) := by omega
        have i1 : (S : Int) - 1 - (k : Int) < (S : Int) := by omega
        have i2 : (k : Int) < (S : Int) := by omega
        have i3 : wrap64 ((S : Int) - 1) = (S : Int) - 1 := by unfold wrap64; omega
        have i5 : (k : Int) ≤ (S : Int) - 1 := by omega
        have i4 : wrap64 ((S : Int) - 1 - (k : Int)) = (S : Int) - 1 - (k : Int) := by unfold wrap64; omega
        have rl := fun h => HL.out m (by omega) h (fun j a b => hs j (by omega) b)
        have re : xs.getD m 0 = ys.getD m 0 → ∀ j, S ≤ j + (k + 1) → j < S → xs.getD j 0 = ys.getD j 0 := fun h j a b => by
          by_cases e : j = m
          · subst e; exact h
          · exact hs j (by omega) b
        obtain ⟨X, hX⟩ : ∃ X, X = xs.getD m 0 := ⟨_, rfl⟩
        obtain ⟨Y, hY⟩ : ∃ Y, Y = ys.getD m 0 := ⟨_, rfl⟩
        rw [hm2] at hX hY
        rw [← hX] at e1
        rw [← hY] at e2
        rw [← hm2] at hX hY
        rw [← hX, ← hY] at rl re
        clear hc hc' HX HY HN HD HL hs hN hM hX hY lS lT
        by_cases cx : X = Y
        · have hs2 := re cx
          subst cx
          have t1 : (X != X) = false := by simp
          clear rl re
          go_wp2
          refine wp_region_kp (by kernel_rfl) (by kernel_rfl) (fun ι _ G hG hall => ?_)
          have c0 : ∀ n, (G n).cell? ⟨b, off + (S - 1 - k), none⟩ = some (.int .u32 X) := fun n => kkeep (hG n) e1
          have c1 : ∀ n, (G n).cell? ⟨b', off' + (S - 1 - k), none⟩ = some (.int .u32 X) := fun n => kkeep (hG n) e2
          repeat (go_big_quiet_step (fail))
          refine wpQuiet_nil ?_
          rintro _ ⟨nq, rfl⟩
          have gq := hG nq
          replace e1 := kkeep gq e1
          replace e2 := kkeep gq e2
          replace hg := hg.trans gq
          clear c0 c1 hall hG gq
          go_wp2
          exact ⟨⟨k + 1, by omega, by go_num, hg, hs2⟩, by simp [intOf]; omega⟩
        · have t1 : (X != Y) = true := by simp [cx]
          have hcm := compare_u X Y
          rw [rl cx] at hcm
          clear rl re cx
          go_wp2
          refine wp_region_kp (by kernel_rfl) (by kernel_rfl) (fun ι _ G hG hall => ?_)
          have c0 : ∀ n, (G n).cell? ⟨b, off + (S - 1 - k), none⟩ = some (.int .u32 X) := fun n => kkeep (hG n) e1
          have c1 : ∀ n, (G n).cell? ⟨b', off' + (S - 1 - k), none⟩ = some (.int .u32 Y) := fun n => kkeep (hG n) e2
          repeat (go_big_quiet_step (fail))
          refine wpQuiet_nil ?_
          rintro _ ⟨nq, rfl⟩
          have gq := hG nq
          replace e1 := kkeep gq e1
          replace e2 := kkeep gq e2
          replace hg := hg.trans gq
          clear c0 c1 hall hG gq
          go_wp2
          go_region_held3 (fun w' => w'.cell? ⟨b, off + (S - 1 - k), none⟩ = some (.int .u32 X) ∧ w'.cell? ⟨b', off' + (S - 1 - k), none⟩ = some (.int .u32 Y)) (exact ⟨e1, e2⟩) (first | (go_at_call 105; refine (hcm _).mono ?_; rintro e w' ⟨rfl, rfl⟩))
          go_wp2
          exact bodyPost_ret (v := .int .i64 R) (by simp [results, Tryz.results66, go_sem] <;> simp only [*]) rfl ⟨rfl, (by repeat (with_reducible (first | assumption | exact Kp.refl _ | apply Kp.drew | apply Kp.alloc | apply Kp.drewN | (refine Kp.trans ?_ (by assumption)))))⟩
      · have hR0 := HD.out (fun j hj => hs j (by omega) hj)
        subst hR0
        have i2 : ¬ ((k : Int) < (S : Int)) := by omega
        clear HX HY HN HD HL hs lS lT hk ck
        go_wp2
        exact bodyPost_ret (v := .int .i64 0) (by simp [results, Tryz.results66, go_sem] <;> simp only [*]) rfl ⟨rfl, hg⟩
  · have t1 : ((S : Int) != (T : Int)) = true := by simp; omega
    have hcm := compare_i (S : Int) (T : Int)
    rw [dne cST] at hcm
    clear dne deq tne HX HY HN cST lS lT
    go_enter Tryz.func66, Tryz.ntmps66
    go_wp2_with fail
    refine h1.mono ?_; rintro e w' ⟨rfl, hw'⟩; obtain rfl := hw'.symm
    go_wp2_with fail
    refine h2.mono ?_; rintro e w' ⟨rfl, hw'⟩; obtain rfl := hw'.symm
    go_wp2_with (first | (go_at_call 104; refine (hcm _).mono ?_; rintro e w' ⟨rfl, rfl⟩))
    exact bodyPost_ret (v := .int .i64 R) (by simp [results, Tryz.results66, go_sem] <;> simp only [*]) rfl ⟨rfl, hg⟩
end Go.Proofs.YtnjlcfpkhgmjeaaGreatDoor
