import Derived.Test.YtjkbapnndoldgaaKXT
namespace Go.Proofs.Ytjkbapnndoldgaa
open Go.RowKit
set_option maxRecDepth 20000 in
set_option maxHeartbeats 1000000 in
theorem rcmp_ (p q : Option Addr) (c d : Nat) (xs ys : List Int) (w : World) (hx : Arr w p xs) (hy : Arr w q ys) (hwx : Wd xs) (hwy : Wd ys) (lx : xs.length ≤ 1099511627776) (ly : ys.length ≤ 1099511627776) :
    Calls Try.prog 95 #[.slice p xs.length c, .slice q ys.length d] w fun e w' => e = .returned (.int .i64 (cmpN (val xs) (val ys))) ∧ Kp w w' := by
  have h1 := words_ p c xs w hx lx
  have h2 := words_ q d ys w hy ly
  have lS := tl_le xs
  have lT := tl_le ys
  have hg : Kp w w := Kp.refl w
  have dlt := fun h => cmpN_lt (tl_lt_val xs ys hwx hwy h)
  have dgt := fun h => cmpN_gt (tl_lt_val ys xs hwy hwx h)
  have deq : tl xs = tl ys → (∀ j, j < tl xs → xs.getD j 0 = ys.getD j 0) → cmpN (val xs) (val ys) = 0 := fun e h => by
    apply cmpN_eq
    rw [← val_tl xs, ← val_tl ys, ← e]
    exact cmp_all xs ys _ h
  have tlt : ∀ k, tl xs = tl ys → k < tl xs → xs.getD k 0 < ys.getD k 0 → (∀ j, k < j → j < tl xs → xs.getD j 0 = ys.getD j 0) → cmpN (val xs) (val ys) = -1 := fun k e h1 h2 h3 => by
    apply cmpN_lt
    rw [← val_tl xs, ← val_tl ys, ← e]
    exact cmp_top xs ys hwx k (hwx k).1 h2 _ h1 h3
  have tgt : ∀ k, tl xs = tl ys → k < tl xs → ys.getD k 0 < xs.getD k 0 → (∀ j, k < j → j < tl xs → xs.getD j 0 = ys.getD j 0) → cmpN (val xs) (val ys) = 1 := fun k e h1 h2 h3 => by
    apply cmpN_gt
    rw [← val_tl xs, ← val_tl ys, ← e]
    exact cmp_top ys xs hwy k (hwy k).1 h2 _ h1 (fun j a b => (h3 j a b).symm)
  obtain ⟨R, hR⟩ : ∃ R, R = cmpN (val xs) (val ys) := ⟨_, rfl⟩
  obtain ⟨N, hN⟩ : ∃ N, N = xs.length := ⟨_, rfl⟩
  obtain ⟨M, hM⟩ : ∃ M, M = ys.length := ⟨_, rfl⟩
  obtain ⟨S, hS⟩ : ∃ S, S = tl xs := ⟨_, rfl⟩
  obtain ⟨T, hT⟩ : ∃ T, T = tl ys := ⟨_, rfl⟩
  rw [← hS, ← hN] at h1 lS
  rw [← hT, ← hM] at h2 lT
  rw [← hS, ← hT, ← hR] at dlt dgt deq tlt tgt
  rw [← hN, ← hM, ← hR]
  have HX : Hid (Arr w p xs) := hx
  have HY : Hid (Arr w q ys) := hy
  have HN : Hid (N = xs.length ∧ M = ys.length) := ⟨hN, hM⟩
  have lS2 : S ≤ 1099511627776 := by omega
  clear hx hy hwx hwy lx ly hN hM hS hT hR
  rcases Nat.lt_trichotomy S T with cST | cST | cST
  · rw [dlt cST]
    have t1 : (S : Int) < (T : Int) := by omega
    clear dlt dgt deq tlt tgt HX HY HN cST lS lT
    go_enter Try.func95, Try.ntmps95
    go_wp2_with fail
    refine h1.mono ?_; rintro e w' ⟨rfl, hw'⟩; obtain rfl := hw'.symm
    go_wp2_with fail
    refine h2.mono ?_; rintro e w' ⟨rfl, hw'⟩; obtain rfl := hw'.symm
    go_wp2
    exact bodyPost_ret (v := .int .i64 (-1)) (by simp [results, Try.results95, go_sem] <;> simp only [*]) rfl ⟨rfl, hg⟩
  · subst cST
    have t1 : ¬ ((S : Int) < (S : Int)) := by omega
    have HD : Hid ((∀ j, j < S → xs.getD j 0 = ys.getD j 0) → R = 0) := deq rfl
    have HL : Hid (∀ k, k < S → xs.getD k 0 < ys.getD k 0 → (∀ j, k < j → j < S → xs.getD j 0 = ys.getD j 0) → R = -1) := fun k => tlt k rfl
    have HR : Hid (∀ k, k < S → ys.getD k 0 < xs.getD k 0 → (∀ j, k < j → j < S → xs.getD j 0 = ys.getD j 0) → R = 1) := fun k => tgt k rfl
    clear dlt dgt deq tlt tgt
    go_enter Try.func95, Try.ntmps95
    go_wp2_with fail
    refine h1.mono ?_; rintro e w' ⟨rfl, hw'⟩; obtain rfl := hw'.symm
    go_wp2_with fail
    refine h2.mono ?_; rintro e w' ⟨rfl, hw'⟩; obtain rfl := hw'.symm
    clear h1 h2
    go_wp2
    clear t1
    go_loopw [7] (fun i wr => ∃ (k : Nat) (z : Int), k ≤ S ∧ z = (k : Int) - 1 ∧ i = .int .i64 z ∧ Kp w wr ∧ ∀ j, k ≤ j → j < S → xs.getD j 0 = ys.getD j 0) (fun i _ => (intOf i + 1).toNat)
    case atStart => exact ⟨S, _, Nat.le_refl _, rfl, by go_num, hg, fun j _ _ => by omega⟩
    case round =>
      clear hg
      obtain ⟨k, z, hk, hz, rfl, hg, hs⟩ := hrel
      rcases k with _ | k
      · have hR0 := HD.out (fun j hj => hs j (Nat.zero_le _) hj)
        subst hR0
        have hz0 : z = -1 := by omega
        subst hz0
        clear hz HX HY HN HD HL HR hs hk lS lT
        go_wp2
        exact bodyPost_ret (v := .int .i64 (0)) (by simp [results, Try.results95, go_sem] <;> simp only [*]) rfl ⟨rfl, hg⟩
      · have hz0 : z = (k : Int) := by omega
        subst hz0
        obtain ⟨hN, hM⟩ := HN.out
        obtain ⟨b, off, rfl, hc⟩ := HX.out.at (k := k) (by omega)
        obtain ⟨b', off', rfl, hc'⟩ := HY.out.at (k := k) (by omega)
        have e1 := kkeep hg (hc k (by omega))
        have e2 := kkeep hg (hc' k (by omega))
        have i0 : (0 : Int) ≤ (k : Int) := by omega
        have i1 : (k : Int) < (N : Int) := by omega
        have i2 : (k : Int) < (M : Int) := by omega
        have rl := fun h => HL.out k (by omega) h (fun j a b => hs j (by omega) b)
        have rg := fun h => HR.out k (by omega) h (fun j a b => hs j (by omega) b)
        have re : xs.getD k 0 = ys.getD k 0 → ∀ j, k ≤ j → j < S → xs.getD j 0 = ys.getD j 0 := fun h j a b => by
          by_cases e : j = k
          · subst e; exact h
          · exact hs j (by omega) b
        obtain ⟨X, hX⟩ : ∃ X, X = xs.getD k 0 := ⟨_, rfl⟩
        obtain ⟨Y, hY⟩ : ∃ Y, Y = ys.getD k 0 := ⟨_, rfl⟩
        rw [← hX] at e1 rl rg re
        rw [← hY] at e2 rl rg re
        have hk2 : k ≤ S := by omega
        clear hc hc' HX HY HN HD HL HR hs hN hM hX hY hz hk lS lT
        rcases (by omega : X < Y ∨ Y < X ∨ X = Y) with cx | cx | cx
        · have hR1 := rl cx
          subst hR1
          clear rl rg re
          go_wp2
          refine wp_region_kp (by kernel_rfl) (by kernel_rfl) (fun ι _ G hG hall => ?_)
          have c0 : ∀ n, (G n).cell? ⟨b, off + k, none⟩ = some (.int .u32 X) := fun n => kkeep (hG n) e1
          have c1 : ∀ n, (G n).cell? ⟨b', off' + k, none⟩ = some (.int .u32 Y) := fun n => kkeep (hG n) e2
          repeat (go_big_quiet_step (fail))
          refine wpQuiet_nil ?_
          rintro _ ⟨nq, rfl⟩
          have gq := hG nq
          replace e1 := kkeep gq e1
          replace e2 := kkeep gq e2
          replace hg := hg.trans gq
          clear c0 c1 hall hG gq
          go_wp2
          exact bodyPost_ret (v := .int .i64 (-1)) (by simp [results, Try.results95, go_sem] <;> simp only [*]) rfl ⟨rfl, hg⟩
        · have hR1 := rg cx
          subst hR1
          have cy : ¬ (X < Y) := by omega
          clear rl rg re
          go_wp2
          refine wp_region_kp (by kernel_rfl) (by kernel_rfl) (fun ι _ G hG hall => ?_)
          have c0 : ∀ n, (G n).cell? ⟨b, off + k, none⟩ = some (.int .u32 X) := fun n => kkeep (hG n) e1
          have c1 : ∀ n, (G n).cell? ⟨b', off' + k, none⟩ = some (.int .u32 Y) := fun n => kkeep (hG n) e2
          repeat (go_big_quiet_step (fail))
          refine wpQuiet_nil ?_
          rintro _ ⟨nq, rfl⟩
          have gq := hG nq
          replace e1 := kkeep gq e1
          replace e2 := kkeep gq e2
          replace hg := hg.trans gq
          clear c0 c1 hall hG gq
          go_wp2
          refine wp_region_kp (by kernel_rfl) (by kernel_rfl) (fun ι2 _ G2 hG hall => ?_)
          have c0 : ∀ n, (G2 n).cell? ⟨b, off + k, none⟩ = some (.int .u32 X) := fun n => kkeep (hG n) e1
          have c1 : ∀ n, (G2 n).cell? ⟨b', off' + k, none⟩ = some (.int .u32 Y) := fun n => kkeep (hG n) e2
          repeat (go_big_quiet_step (fail))
          refine wpQuiet_nil ?_
          rintro _ ⟨nq2, rfl⟩
          have gq := hG nq2
          replace e1 := kkeep gq e1
          replace e2 := kkeep gq e2
          replace hg := hg.trans gq
          clear c0 c1 hall hG gq
          go_wp2
          exact bodyPost_ret (v := .int .i64 (1)) (by simp [results, Try.results95, go_sem] <;> simp only [*]) rfl ⟨rfl, hg⟩
        · have hs2 := re cx
          subst cx
          have cy : ¬ (X < X) := by omega
          clear rl rg re
          go_wp2
          refine wp_region_kp (by kernel_rfl) (by kernel_rfl) (fun ι _ G hG hall => ?_)
          have c0 : ∀ n, (G n).cell? ⟨b, off + k, none⟩ = some (.int .u32 X) := fun n => kkeep (hG n) e1
          have c1 : ∀ n, (G n).cell? ⟨b', off' + k, none⟩ = some (.int .u32 X) := fun n => kkeep (hG n) e2
          repeat (go_big_quiet_step (fail))
          refine wpQuiet_nil ?_
          rintro _ ⟨nq, rfl⟩
          have gq := hG nq
          replace e1 := kkeep gq e1
          replace e2 := kkeep gq e2
          replace hg := hg.trans gq
          clear c0 c1 hall hG gq
          go_wp2
          refine wp_region_kp (by kernel_rfl) (by kernel_rfl) (fun ι2 _ G2 hG hall => ?_)
          have c0 : ∀ n, (G2 n).cell? ⟨b, off + k, none⟩ = some (.int .u32 X) := fun n => kkeep (hG n) e1
          have c1 : ∀ n, (G2 n).cell? ⟨b', off' + k, none⟩ = some (.int .u32 X) := fun n => kkeep (hG n) e2
          repeat (go_big_quiet_step (fail))
          refine wpQuiet_nil ?_
          rintro _ ⟨nq2, rfl⟩
          have gq := hG nq2
          replace e1 := kkeep gq e1
          replace e2 := kkeep gq e2
          replace hg := hg.trans gq
          clear c0 c1 hall hG gq
          go_wp2
          exact ⟨⟨k, _, hk2, rfl, by go_num, hg, hs2⟩, by simp [intOf]⟩
  · rw [dgt cST]
    have t1 : ¬ ((S : Int) < (T : Int)) := by omega
    have t2 : (T : Int) < (S : Int) := by omega
    clear dlt dgt deq tlt tgt HX HY HN cST lS lT
    go_enter Try.func95, Try.ntmps95
    go_wp2_with fail
    refine h1.mono ?_; rintro e w' ⟨rfl, hw'⟩; obtain rfl := hw'.symm
    go_wp2_with fail
    refine h2.mono ?_; rintro e w' ⟨rfl, hw'⟩; obtain rfl := hw'.symm
    go_wp2
    exact bodyPost_ret (v := .int .i64 (1)) (by simp [results, Try.results95, go_sem] <;> simp only [*]) rfl ⟨rfl, hg⟩
end Go.Proofs.Ytjkbapnndoldgaa
