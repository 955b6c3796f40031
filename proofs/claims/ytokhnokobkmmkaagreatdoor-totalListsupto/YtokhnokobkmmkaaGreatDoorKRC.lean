import Derived.Test.YtokhnokobkmmkaaGreatDoorKTO
namespace Go.Proofs.YtokhnokobkmmkaaGreatDoor
open Go.RowKit
set_option maxRecDepth 20000 in
set_option maxHeartbeats 1000000 in
theorem rcmp_ (p q : Option Addr) (c d : Nat) (xs ys : List Int) (w : World) (hx : Arr w p xs) (hy : Arr w q ys) (hwx : Wd xs) (hwy : Wd ys) (lx : xs.length ≤ 1099511627776) (ly : ys.length ≤ 1099511627776) :
    Calls Tryz.prog 84 #[.slice p xs.length c, .slice q ys.length d] w fun e w' => e = .returned (.int .i64 (cmpN (val xs) (val ys))) ∧ Kp w w' := by
  have h1 := words_ p c xs w hx lx
  have h2 := words_ q d ys w hy ly
  have lS := tl_le xs
  have lT := tl_le ys
  have hg : Kp w w := Kp.refl w
  have dlt := fun h => cmpN_lt (tl_lt_val xs ys hwx hwy h)
  have dgt := fun h => cmpN_gt (tl_lt_val ys xs hwy hwx h)
  have deq : tl xs = tl ys → (∀ j, j < tl xs → xs.getD j 0 = ys.getD j 0) → cmpN (val xs) (val ys) = 0 := fun e h => by
    apply cmpN_eq
    rw [← val_tl xs, ← val_tl ys, ← e]
    exact cmp_all xs ys _ h
  have tlt : ∀ k, tl xs = tl ys → k < tl xs → xs.getD k 0 < ys.getD k 0 → (∀ j, k < j → j < tl xs → xs.getD j 0 = ys.getD j 0) → cmpN (val xs) (val ys) = -1 := fun k e h1 h2 h3 => by
    apply cmpN_lt
    rw [← val_tl xs, ← val_tl ys, ← e]
    exact cmp_top xs ys hwx k (hwx k).1 h2 _ h1 h3
  have tgt : ∀ k, tl xs = tl ys → k < tl xs → ys.getD k 0 < xs.getD k 0 → (∀ j, k < j → j < tl xs → xs.getD j 0 = ys.getD j 0) → cmpN (val xs) (val ys) = 1 := fun k e h1 h2 h3 => by
    apply cmpN_gt
    rw [← val_tl xs, ← val_tl ys, ← e]
    exact cmp_top ys xs hwy k (hwy k).1 h2 _ h1 (fun j a b => (h3 j a b).symm)
  obtain ⟨R, hR⟩ : ∃ R, R = cmpN (val xs) (val ys) := ⟨_, rfl⟩
  obtain ⟨N, hN⟩ : ∃ N, N = xs.length := ⟨_, rfl⟩
  obtain ⟨M, hM⟩ : ∃ M, M = ys.length := ⟨_, rfl⟩
  obtain ⟨S, hS⟩ : ∃ S, S = tl xs := ⟨_, rfl⟩
  obtain ⟨T, hT⟩ : ∃ T, T = tl ys := ⟨_, rfl⟩
  rw [← hS, ← hN] at h1 lS
  rw [← hT, ← hM] at h2 lT
  rw [← hS, ← hT, ← hR] at dlt dgt deq tlt tgt
  rw [← hN, ← hM, ← hR]
  have HX : Hid (Arr w p xs) := hx
  have HY : Hid (Arr w q ys) := hy
  have HN : Hid (N = xs.length ∧ M = ys.length) := ⟨hN, hM⟩
  have lS2 : S ≤ 1099511627776 := by omega
  clear hx hy hwx hwy lx ly hN hM hS hT hR
  rcases Nat.lt_trichotomy S T with cST | cST | cST
  · rw [dlt cST]
    have t1 : (S : Int) < (T : Int) := by omega
    clear dlt dgt deq tlt tgt HX HY HN cST lS lT
    go_enter Tryz.func84, Tryz.ntmps84
    go_wp2_with fail
    refine h1.mono ?_; rintro e w' ⟨rfl, hw'⟩; obtain rfl := hw'.symm
    go_wp2_with fail
    refine h2.mono ?_; rintro e w' ⟨rfl, hw'⟩; obtain rfl := hw'.symm
    go_wp2
    exact bodyPost_ret (v := .int .i64 (-1)) (by simp [results, Tryz.results84, go_sem] <;> simp only [*]) rfl ⟨rfl, hg⟩
  · subst cST
    have t1 : ¬ ((S : Int) < (S : Int)) := by omega
    have HD : Hid ((∀ j, j < S → xs.getD j 0 = ys.getD j 0) → R = 0) := deq rfl
    have HL : Hid (∀ k, k < S → xs.getD k 0 < ys.getD k 0 → (∀ j, k < j → j < S → xs.getD j 0 = ys.getD j 0) → R = -1) := fun k => tlt k rfl
    have HR : Hid (∀ k, k < S → ys.getD k 0 < xs.getD k 0 → (∀ j, k < j → j < S → xs.getD j 0 = ys.getD j 0) → R = 1) := fun k => tgt k rfl
    clear dlt dgt deq tlt tgt
    go_enter Tryz.func84, Tryz.ntmps84
    go_wp2_with fail
    refine h1.mono ?_; rintro e w' ⟨rfl, hw'⟩; obtain rfl := hw'.symm
    go_wp2_with fail
    refine h2.mono ?_; rintro e w' ⟨rfl, hw'⟩; obtain rfl := hw'.symm
    clear h1 h2
    go_wp2
    clear t1
    go_loopw [7] (fun i wr => ∃ (k : Nat) (z : Int), k ≤ S ∧ z = (k : Int) - 1 ∧ i = .int .i64 z ∧ Kp w wr ∧ ∀ j, k ≤ j → j < S → xs.getD j 0 = ys.getD j 0) (fun i _ => (intOf i + 1).toNat)
    case atStart => exact ⟨S, _, Nat.le_refl _, rfl, by go_num, hg, fun j _ _ => by omega⟩
    case round =>
      clear hg
      obtain ⟨k, z, hk, hz, rfl, hg, hs⟩ := hrel
      rcases k with _ | k
      · have hR0 := HD.out (fun j hj => hs j (Nat.zero_le _) hj)
        subst hR0
        have hz0 : z = -1 := by omega
        subst hz0
        clear hz HX HY HN HD HL HR hs hk lS lT
        go_wp2
        exact bodyPost_ret (v := .int .i64 (0)) (by simp [results, Tryz.results84, go_sem] <;> simp only [*]) rfl ⟨rfl, hg⟩
      · have hz0 : z = (k : Int) := by omega
        subst hz0
        obtain ⟨hN, hM⟩ := HN.out
        obtain ⟨b, off, rfl, hc⟩ := HX.out.at (k := k) (by omega)
        obtain ⟨b', off', rfl, hc'⟩ := HY.out.at (k := k) (by omega)
        have e1 := kkeep hg (hc k (by omega))
        have e2 := kkeep hg (hc' k (by omega))
        have i0 : (0 : Int) ≤ (k : Int) := by omega
        have i1 : (k : Int) < (N : Int) := by omega
        have i2 : (k : Int) < (M : Int) := by omega
        have rl := fun h => HL.out k (by omega) h (fun j a b => hs j (by omega) b)
        have rg := fun h => HR.out k (by omega) h (fun j a b => hs j (by omega) b)
        have re : xs.getD k 0 = ys.getD k 0 → ∀ j, k ≤ j → j < S → xs.getD j 0 = ys.getD j 0 := fun h j a b => by
          by_cases e : j = k
          · subst e; exact h
          · exact hs j (by omega) b
        obtain ⟨X, hX⟩ : ∃ X, X = xs.getD k 0 := ⟨_, rfl⟩
        obtain ⟨Y, hY⟩ : ∃ Y, Y = ys.getD k 0 := ⟨_, rfl⟩
        rw [← hX] at e1 rl rg re
        rw [← hY] at e2 rl rg re
        have hk2 : k ≤ S := by omega
        clear hc hc' HX HY HN HD HL HR hs hN hM hX hY hz hk lS lT
        rcases (by omega : X < Y ∨ Y < X ∨ X = Y) with cx | cx | cx
        · have hR1 := rl cx
          subst hR1
          clear rl rg re
          go_wp2
          refine wp_region_kp (by kernel_rfl) (by kernel_rfl) (fun ι _ G hG hall => ?_)
          have c0 : ∀ n, (G n).cell? ⟨b, off + k, none⟩ = some (.int .u32 X) := fun n => kkeep (hG n) e1
          have c1 : ∀ n, (G n).cell? ⟨b', off' + k, none⟩ = some (.int .u32 Y) := fun n => kkeep (hG n) e2
          repeat (go_big_quiet_step (fail))
          refine wpQuiet_nil ?_
          rintro _ ⟨nq, rfl⟩
          have gq := hG nq
          replace e1 := kkeep gq e1
          replace e2 := kkeep gq e2
          replace hg := hg.trans gq
          clear c0 c1 hall hG gq
          go_wp2
          exact bodyPost_ret (v := .int .i64 (-1)) (by simp [results, Tryz.results84, go_sem] <;> simp only [*]) rfl ⟨rfl, hg⟩
        · have hR1 := rg cx
          subst hR1
          have cy : ¬ (X < Y) := by omega
          clear rl rg re
          go_wp2
          refine wp_region_kp (by kernel_rfl) (by kernel_rfl) (fun ι _ G hG hall => ?_)
          have c0 : ∀ n, (G n).cell? ⟨b, off + k, none⟩ = some (.int .u32 X) := fun n => kkeep (hG n) e1
          have c1 : ∀ n, (G n).cell? ⟨b', off' + k, none⟩ = some (.int .u32 Y) := fun n => kkeep (hG n) e2
          repeat (go_big_quiet_step (fail))
          refine wpQuiet_nil ?_
          rintro _ ⟨nq, rfl⟩
          have gq := hG nq
          replace e1 := kkeep gq e1
          replace e2 := kkeep gq e2
          replace hg := hg.trans gq
          clear c0 c1 hall hG gq
          go_wp2
          refine wp_region_kp (by kernel_rfl) (by kernel_rfl) (fun ι2 _ G2 hG hall => ?_)
          have c0 : ∀ n, (G2 n).cell? ⟨b, off + k, none⟩ = some (.int .u32 X) := fun n => kkeep (hG n) e1
          have c1 : ∀ n, (G2 n).cell? ⟨b', off' + k, none⟩ = some (.int .u32 Y) := fun n => kkeep (hG n) e2
          repeat (go_big_quiet_step (fail))
          refine wpQuiet_nil ?_
          rintro _ ⟨nq2, rfl⟩
          have gq := hG nq2
          replace e1 := kkeep gq e1
          replace e2 := kkeep gq e2
          replace hg := hg.trans gq
          clear c0 c1 hall hG gq
          go_wp2
          exact bodyPost_ret (v := .int .i64 (1)) (by simp [results, Tryz.results84, go_sem] <;> simp only [*]) rfl ⟨rfl, hg⟩
        · have hs2 := re cx
          subst cx
          have cy : ¬ (X < X) := by omega
          clear rl rg re
          go_wp2
          refine wp_region_kp (by kernel_rfl) (by kernel_rfl) (fun ι _ G hG hall => ?_)
          have c0 : ∀ n, (G n).cell? ⟨b, off + k, none⟩ = some (.int .u32 X) := fun n => kkeep (hG n) e1
          have c1 : ∀ n, (G n).cell? ⟨b', off' + k, none⟩ = some (.int .u32 X) := fun n => kkeep (hG n) e2
          repeat (go_big_quiet_step (fail))
          refine wpQuiet_nil ?_
          rintro _ ⟨nq, rfl⟩
          have gq := hG nq
          replace e1 := kkeep gq e1
          replace e2 := kkeep gq e2
          replace hg := hg.trans gq
          clear c0 c1 hall hG gq
          go_wp2
          refine wp_region_kp (by kernel_rfl) (by kernel_rfl) (fun ι2 _ G2 hG hall => ?_)
          have c0 : ∀ n, (G2 n).cell? ⟨b, off + k, none⟩ = some (.int .u32 X) := fun n => kkeep (hG n) e1
          have c1 : ∀ n, (G2 n).cell? ⟨b', off' + k, none⟩ = some (.int .u32 X) := fun n => kkeep (hG n) e2
          repeat (go_big_quiet_step (fail))
          refine wpQuiet_nil ?_
          rintro _ ⟨nq2, rfl⟩
          have gq := hG nq2
          replace e1 := kkeep gq e1
          replace e2 := kkeep gq e2
          replace hg := hg.trans gq
          clear c0 c1 hall hG gq
          go_wp2
          exact ⟨⟨k, _, hk2, rfl, by go_num, hg, hs2⟩, by simp [intOf]⟩
  · rw [dgt cST]
    have t1 : ¬ ((S : Int) < (T : Int)) := by omega
    have t2 : (T : Int) < (S : Int) := by omega
    clear dlt dgt deq tlt tgt HX HY HN cST lS lT
    go_enter Tryz.func84, Tryz.ntmps84
    go_wp2_with fail
    refine h1.mono ?_; rintro e w' ⟨rfl, hw'⟩; obtain rfl := hw'.symm
    go_wp2_with fail
    refine h2.mono ?_; rintro e w' ⟨rfl, hw'⟩; obtain rfl := hw'.symm
    go_wp2
    exact bodyPost_ret (v := .int .i64 (1)) (by simp [results, Tryz.results84, go_sem] <;> simp only [*]) rfl ⟨rfl, hg⟩
set_option maxRecDepth 20000 in
set_option maxHeartbeats 3000000 in
theorem rplus_ (p q : Option Addr) (c d : Nat) (xs ys : List Int) (w : World) (hx : Arr w p xs) (hy : Arr w q ys) (hwx : Wd xs) (hwy : Wd ys) (lx : xs.length < 1099511627776) (ly : ys.length < 1099511627776) :
    Calls Tryz.prog 94 #[.slice p xs.length c, .slice q ys.length d] w fun e w' => ∃ v L, e = .returned v ∧ Own w' w.heap.size v (nz L) ∧ Wd L ∧ val L = val xs + val ys ∧ L.length ≤ 1099511627776 ∧ Kp w w' := by
  obtain ⟨N, hN⟩ : ∃ N, N = xs.length := ⟨_, rfl⟩
  obtain ⟨M, hM⟩ : ∃ M, M = ys.length := ⟨_, rfl⟩
  rw [← hN] at lx ⊢
  rw [← hM] at ly ⊢
  have HX : Hid (Arr w p xs) := hx
  have HY : Hid (Arr w q ys) := hy
  have HW : Hid (Wd xs ∧ Wd ys) := ⟨hwx, hwy⟩
  have HN : Hid (N = xs.length ∧ M = ys.length ∧ N < 1099511627776 ∧ M < 1099511627776) := ⟨hN, hM, lx, ly⟩
  obtain ⟨i0, hi0, hi1, hi2, hi3⟩ := inf32p
  clear hN hM hx hy hwx hwy lx ly
  go_enter Tryz.func94, Tryz.ntmps94
  go_wp2
  go_loopw [5, 6, 7] (fun a cc i wr => ∃ (v : Value) (k C : Nat) (L : List Int), v = a ∧ cc = .int .u64 C ∧ i = .int .i64 k ∧ Own wr w.heap.size v L ∧ Kp w wr ∧ L.length = k ∧ Wd L ∧ C ≤ 1 ∧ val L + C * 4294967296 ^ k = val (xs.take k) + val (ys.take k) ∧ k ≤ max N M) (fun _ _ i _ => max N M - (intOf i).toNat)
  case atStart => exact ⟨_, 0, 0, [], rfl, rfl, rfl, Own.nil _ _, Kp.refl _, rfl, Wd.nil, by omega, by simp [val], by omega⟩
  case round =>
    obtain ⟨v, k, C, L, rfl, rfl, rfl, hown, hkp, hL, hw, hC, hv, hk⟩ := hrel
    obtain ⟨hN, hM, lx, ly⟩ := HN.out
    by_cases ca : k < N
    · by_cases cb : k < M
      · skip
        obtain ⟨b, off, rfl, hc⟩ := HX.out.at (k := k) (by omega)
        have e1 := kkeep hkp (hc k (by omega))
        obtain ⟨b', off', rfl, hc'⟩ := HY.out.at (k := k) (by omega)
        have e2 := kkeep hkp (hc' k (by omega))
        have wx := HW.out.1 k
        have wy := HW.out.2 k
        obtain ⟨S, hS⟩ : ∃ S : Nat, S = C + (xs.getD k 0).toNat + (ys.getD k 0).toNat := ⟨_, rfl⟩
        have hst := plus_step L xs ys k C S hL hS hv
        obtain ⟨X, hX⟩ : ∃ X, X = xs.getD k 0 := ⟨_, rfl⟩
        obtain ⟨Y, hY⟩ : ∃ Y, Y = ys.getD k 0 := ⟨_, rfl⟩
        rw [← hX, ← hY] at hS
        rw [← hX] at wx e1
        rw [← hY] at wy e2
        have f1 : IntKind.u64.wrap X = X := by rw [IntKind.wrap_u64]; omega
        have f2 : IntKind.u64.wrap Y = Y := by rw [IntKind.wrap_u64]; omega
        have f3 : IntKind.u64.wrap ((C : Int) + X) = (C : Int) + X := by rw [IntKind.wrap_u64]; omega
        have f4 : IntKind.u64.wrap ((C : Int) + X + Y) = (S : Int) := by rw [IntKind.wrap_u64]; omega
        have f5 := and32 S (by omega)
        obtain ⟨Z, hZ⟩ : ∃ Z : Int, Z = ((S % 4294967296 : Nat) : Int) := ⟨_, rfl⟩
        rw [← hZ] at f5 hst
        have f6 : IntKind.u32.wrap Z = Z := by rw [IntKind.wrap_u32]; omega
        have f7 : (S : Int) / 4294967296 = ((S / 4294967296 : Nat) : Int) := by omega
        have hC' : S / 4294967296 ≤ 1 := by omega
        obtain ⟨C', hC2⟩ : ∃ C' : Nat, C' = S / 4294967296 := ⟨_, rfl⟩
        rw [← hC2] at f7 hst hC'
        have hWL : Wd (L ++ [Z]) := hw.append (Wd.one (by omega))
        have hob := own_block hown
        have hown' : wr.ownsRow w.heap.size 110 1 v k (L.map (Value.int .u32)) := by rw [← hL]; exact hown
        have hsz := hkp.size
        have hkb : k < 1099511627776 := by omega
        clear hc hc' HX HY HW HN hN hM hX hY hS hv hZ hC2 hown wx wy hw hC
        go_wp2_with (first | (at_builtin; refine wpList_append_own _ rfl _ _ 26 rfl w.heap.size 110 i0 (.int .u32 0) 1 4 Tryz.underlying26 hi0 hi1 hi2 hi3 rfl (by decide) _ _ _ rfl (hown'.alloc _) ⟨wr.heap.size, 0, none⟩ 1 1 [.int .u32 Z] rfl rfl ?c1 ?c2 ?c3 ?c4 ?c5 ?_))
        case c1 =>
          intro j' u hj'
          match j', hj' with
          | 0, hj' => simp at hj'; subst hj'; simp [Addr.add]
        case c2 => intro u hu; simp at hu; subst hu; rfl
        case c3 => unfold maxLen; omega
        case c4 => omega
        case c5 => simp; omega
        intro v' w1 hown2 hgrow _
        have hO : Own w1 w.heap.size v' (L ++ [Z]) := by refine Own.push ?_; rw [hL]; exact hown2
        have hK2 : Kp w w1 := (hkp.alloc _).grown hgrow hob
        clear hown2 hgrow hown' hkp hob hsz
        go_wp2
        exact ⟨⟨_, k + 1, C', _, rfl, by go_num, by go_num, hO, hK2, by simp [hL], hWL, hC', hst, by omega⟩, by simp [intOf]; omega⟩
      · skip
        obtain ⟨b, off, rfl, hc⟩ := HX.out.at (k := k) (by omega)
        have e1 := kkeep hkp (hc k (by omega))
        have wx := HW.out.1 k
        have wy := HW.out.2 k
        have hy0 : ys.getD k 0 = 0 := getD_out ys k (by omega)
        obtain ⟨S, hS⟩ : ∃ S : Nat, S = C + (xs.getD k 0).toNat + (ys.getD k 0).toNat := ⟨_, rfl⟩
        have hst := plus_step L xs ys k C S hL hS hv
        obtain ⟨X, hX⟩ : ∃ X, X = xs.getD k 0 := ⟨_, rfl⟩
        obtain ⟨Y, hY⟩ : ∃ Y, Y = ys.getD k 0 := ⟨_, rfl⟩
        rw [← hX, ← hY] at hS
        rw [← hX] at wx e1
        rw [← hY] at wy hy0
        have f1 : IntKind.u64.wrap X = X := by rw [IntKind.wrap_u64]; omega
        have f2 : IntKind.u64.wrap Y = Y := by rw [IntKind.wrap_u64]; omega
        have f3 : IntKind.u64.wrap ((C : Int) + X) = (S : Int) := by rw [IntKind.wrap_u64]; omega
        have f5 := and32 S (by omega)
        obtain ⟨Z, hZ⟩ : ∃ Z : Int, Z = ((S % 4294967296 : Nat) : Int) := ⟨_, rfl⟩
        rw [← hZ] at f5 hst
        have f6 : IntKind.u32.wrap Z = Z := by rw [IntKind.wrap_u32]; omega
        have f7 : (S : Int) / 4294967296 = ((S / 4294967296 : Nat) : Int) := by omega
        have hC' : S / 4294967296 ≤ 1 := by omega
        obtain ⟨C', hC2⟩ : ∃ C' : Nat, C' = S / 4294967296 := ⟨_, rfl⟩
        rw [← hC2] at f7 hst hC'
        have hWL : Wd (L ++ [Z]) := hw.append (Wd.one (by omega))
        have hob := own_block hown
        have hown' : wr.ownsRow w.heap.size 110 1 v k (L.map (Value.int .u32)) := by rw [← hL]; exact hown
        have hsz := hkp.size
        have hkb : k < 1099511627776 := by omega
        clear hc HX HY HW HN hN hM hX hY hS hv hZ hC2 hown wx wy hw hC hy0
        go_wp2_with (first | (at_builtin; refine wpList_append_own _ rfl _ _ 26 rfl w.heap.size 110 i0 (.int .u32 0) 1 4 Tryz.underlying26 hi0 hi1 hi2 hi3 rfl (by decide) _ _ _ rfl (hown'.alloc _) ⟨wr.heap.size, 0, none⟩ 1 1 [.int .u32 Z] rfl rfl ?c1 ?c2 ?c3 ?c4 ?c5 ?_))
        case c1 =>
          intro j' u hj'
          match j', hj' with
          | 0, hj' => simp at hj'; subst hj'; simp [Addr.add]
        case c2 => intro u hu; simp at hu; subst hu; rfl
        case c3 => unfold maxLen; omega
        case c4 => omega
        case c5 => simp; omega
        intro v' w1 hown2 hgrow _
        have hO : Own w1 w.heap.size v' (L ++ [Z]) := by refine Own.push ?_; rw [hL]; exact hown2
        have hK2 : Kp w w1 := (hkp.alloc _).grown hgrow hob
        clear hown2 hgrow hown' hkp hob hsz
        go_wp2
        exact ⟨⟨_, k + 1, C', _, rfl, by go_num, by go_num, hO, hK2, by simp [hL], hWL, hC', hst, by omega⟩, by simp [intOf]; omega⟩
    · by_cases cb : k < M
      · skip
        obtain ⟨b', off', rfl, hc'⟩ := HY.out.at (k := k) (by omega)
        have e2 := kkeep hkp (hc' k (by omega))
        have wx := HW.out.1 k
        have wy := HW.out.2 k
        have hx0 : xs.getD k 0 = 0 := getD_out xs k (by omega)
        obtain ⟨S, hS⟩ : ∃ S : Nat, S = C + (xs.getD k 0).toNat + (ys.getD k 0).toNat := ⟨_, rfl⟩
        have hst := plus_step L xs ys k C S hL hS hv
        obtain ⟨X, hX⟩ : ∃ X, X = xs.getD k 0 := ⟨_, rfl⟩
        obtain ⟨Y, hY⟩ : ∃ Y, Y = ys.getD k 0 := ⟨_, rfl⟩
        rw [← hX, ← hY] at hS
        rw [← hX] at wx hx0
        rw [← hY] at wy e2
        have f1 : IntKind.u64.wrap X = X := by rw [IntKind.wrap_u64]; omega
        have f2 : IntKind.u64.wrap Y = Y := by rw [IntKind.wrap_u64]; omega
        have f3 : IntKind.u64.wrap ((C : Int) + Y) = (S : Int) := by rw [IntKind.wrap_u64]; omega
        have f5 := and32 S (by omega)
        obtain ⟨Z, hZ⟩ : ∃ Z : Int, Z = ((S % 4294967296 : Nat) : Int) := ⟨_, rfl⟩
        rw [← hZ] at f5 hst
        have f6 : IntKind.u32.wrap Z = Z := by rw [IntKind.wrap_u32]; omega
        have f7 : (S : Int) / 4294967296 = ((S / 4294967296 : Nat) : Int) := by omega
        have hC' : S / 4294967296 ≤ 1 := by omega
        obtain ⟨C', hC2⟩ : ∃ C' : Nat, C' = S / 4294967296 := ⟨_, rfl⟩
        rw [← hC2] at f7 hst hC'
        have hWL : Wd (L ++ [Z]) := hw.append (Wd.one (by omega))
        have hob := own_block hown
        have hown' : wr.ownsRow w.heap.size 110 1 v k (L.map (Value.int .u32)) := by rw [← hL]; exact hown
        have hsz := hkp.size
        have hkb : k < 1099511627776 := by omega
        clear hc' HX HY HW HN hN hM hX hY hS hv hZ hC2 hown wx wy hw hC hx0
        go_wp2_with (first | (at_builtin; refine wpList_append_own _ rfl _ _ 26 rfl w.heap.size 110 i0 (.int .u32 0) 1 4 Tryz.underlying26 hi0 hi1 hi2 hi3 rfl (by decide) _ _ _ rfl (hown'.alloc _) ⟨wr.heap.size, 0, none⟩ 1 1 [.int .u32 Z] rfl rfl ?c1 ?c2 ?c3 ?c4 ?c5 ?_))
        case c1 =>
          intro j' u hj'
          match j', hj' with
          | 0, hj' => simp at hj'; subst hj'; simp [Addr.add]
        case c2 => intro u hu; simp at hu; subst hu; rfl
        case c3 => unfold maxLen; omega
        case c4 => omega
        case c5 => simp; omega
        intro v' w1 hown2 hgrow _
        have hO : Own w1 w.heap.size v' (L ++ [Z]) := by refine Own.push ?_; rw [hL]; exact hown2
        have hK2 : Kp w w1 := (hkp.alloc _).grown hgrow hob
        clear hown2 hgrow hown' hkp hob hsz
        go_wp2
        exact ⟨⟨_, k + 1, C', _, rfl, by go_num, by go_num, hO, hK2, by simp [hL], hWL, hC', hst, by omega⟩, by simp [intOf]; omega⟩
      · have hv2 : val (L ++ [(C : Int)]) = val xs + val ys := by
          rw [List.take_of_length_le (by omega), List.take_of_length_le (by omega)] at hv
          rw [val_append, hL]
          simp only [val, Int.toNat_natCast, Nat.mul_zero, Nat.add_zero]
          rw [Nat.mul_comm]; exact hv
        have hWL : Wd (L ++ [(C : Int)]) := hw.append (Wd.one (by omega))
        have hob := own_block hown
        have hown' : wr.ownsRow w.heap.size 110 1 v k (L.map (Value.int .u32)) := by rw [← hL]; exact hown
        have hsz := hkp.size
        have f6 : IntKind.u32.wrap (C : Int) = (C : Int) := by rw [IntKind.wrap_u32]; omega
        have hkb : k < 1099511627776 := by omega
        clear HX HY HW HN hN hM hv hown hw hC
        go_wp2_with (first | (at_builtin; refine wpList_append_own _ rfl _ _ 26 rfl w.heap.size 110 i0 (.int .u32 0) 1 4 Tryz.underlying26 hi0 hi1 hi2 hi3 rfl (by decide) _ _ _ rfl (hown'.alloc _) ⟨wr.heap.size, 0, none⟩ 1 1 [.int .u32 (C : Int)] rfl rfl ?c1 ?c2 ?c3 ?c4 ?c5 ?_))
        case c1 =>
          intro j' u hj'
          match j', hj' with
          | 0, hj' => simp at hj'; subst hj'; simp [Addr.add]
        case c2 => intro u hu; simp at hu; subst hu; rfl
        case c3 => unfold maxLen; omega
        case c4 => omega
        case c5 => simp; omega
        intro v' w1 hown2 hgrow _
        have hO : Own w1 w.heap.size v' (L ++ [(C : Int)]) := by refine Own.push ?_; rw [hL]; exact hown2
        have hK2 : Kp w w1 := (hkp.alloc _).grown hgrow hob
        have hll : (L ++ [(C : Int)]).length ≤ 1099511627776 := by simp [hL]; omega
        clear hown2 hgrow hown' hkp hob hsz
        obtain ⟨p', c', rfl, hA, _⟩ := hO.arr
        have hno := rnorm_ p' c' (L ++ [(C : Int)]) w1 hA hll
        obtain ⟨LL, hLL⟩ : ∃ LL, LL = L ++ [(C : Int)] := ⟨_, rfl⟩
        rw [← hLL] at hno hv2 hWL hA hll
        have hl2 : (L ++ [(C : Int)]).length = LL.length := by rw [hLL]
        clear hO hLL
        go_wp2_with fail
        refine hno.mono ?_
        rintro e w2 ⟨v2, rfl, hO2, hk2⟩
        clear hno hA f6
        go_wp2
        exact bodyPost_ret (v := v2) (by simp [results, Tryz.results94, go_sem] <;> simp only [*]) rfl ⟨v2, LL, rfl, hO2.mono hK2.size, hWL, hv2, hll, hK2.trans hk2⟩
end Go.Proofs.YtokhnokobkmmkaaGreatDoor
