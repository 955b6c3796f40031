import Derived.Test.YthdnajcgdngmcaaGreatDoorKBW
namespace Go.Proofs.YthdnajcgdngmcaaGreatDoor
open Go.RowKit
set_option maxRecDepth 20000 in
set_option maxHeartbeats 400000 in
theorem div32_ (hi lo b : Nat) (h0 : 0 < b) (h1 : hi < b) (h2 : b < 4294967296) (h3 : lo < 4294967296) (w : World) : Calls Tryz.prog 213 #[.int .u32 (hi : Int), .int .u32 (lo : Int), .int .u32 (b : Int)] w fun e w' => e = .returned (.tuple #[.int .u32 (((hi * 4294967296 + lo) / b : Nat) : Int), .int .u32 (((hi * 4294967296 + lo) % b : Nat) : Int)]) ∧ w' = w.drew := by
  obtain ⟨d1, d2, d3⟩ := div_word hi lo b h0 h1
  obtain ⟨hd, hhd⟩ : ∃ hd, hd = hi * 4294967296 + lo := ⟨_, rfl⟩
  rw [← hhd] at d2 d3 ⊢
  obtain ⟨q0, hq0⟩ : ∃ q0, q0 = hd / b := ⟨_, rfl⟩
  obtain ⟨r0, hr0⟩ : ∃ r0, r0 = hd % b := ⟨_, rfl⟩
  have fq : (hd : Int) / (b : Int) = (q0 : Int) := by rw [hq0]; exact (Int.natCast_ediv hd b).symm
  have fr : (hd : Int) % (b : Int) = (r0 : Int) := by rw [hr0]; exact (Int.natCast_emod hd b).symm
  have fq2 : Int.tdiv (hd : Int) (b : Int) = (q0 : Int) := by rw [hq0]; rfl
  have fr2 : Int.tmod (hd : Int) (b : Int) = (r0 : Int) := by rw [hr0]; rfl
  rw [← hr0] at d2
  rw [← hq0] at d3
  rw [← hq0, ← hr0]
  have hq32 := d3 h3
  have fq3 : IntKind.u64.wrap (q0 : Int) = (q0 : Int) := by rw [IntKind.wrap_u64]; omega
  have fr3 : IntKind.u64.wrap (r0 : Int) = (r0 : Int) := by rw [IntKind.wrap_u64]; omega
  have fq4 : IntKind.u32.wrap (q0 : Int) = (q0 : Int) := by rw [IntKind.wrap_u32]; omega
  have fr4 : IntKind.u32.wrap (r0 : Int) = (r0 : Int) := by rw [IntKind.wrap_u32]; omega
  obtain ⟨S, hS⟩ : ∃ S, S = hi * 4294967296 := ⟨_, rfl⟩
  have f1 : IntKind.u64.wrap (hi : Int) = (hi : Int) := by rw [IntKind.wrap_u64]; omega
  have f2 : IntKind.u64.wrap (lo : Int) = (lo : Int) := by rw [IntKind.wrap_u64]; omega
  have f2b : IntKind.u64.wrap (b : Int) = (b : Int) := by rw [IntKind.wrap_u64]; omega
  have f3 : IntKind.u64.wrap ((hi : Int) * 4294967296) = (S : Int) := by rw [IntKind.wrap_u64]; omega
  have f4 : bits BinOp.or IntKind.u64 (S : Int) (lo : Int) = (hd : Int) := by
    rw [hS, bits_or_u64_nat (hi * 4294967296) lo (by omega) (by omega)]
    have e2 : hi * 4294967296 ||| lo = hd := by
      rw [Nat.or_comm, hhd]
      have := or_low lo hi 32 (by omega)
      rw [show (2 : Nat) ^ 32 = 4294967296 from rfl] at this
      omega
    rw [e2]
  have t0 : ¬ b = 0 := by omega
  have t1 : ¬ ((b : Int) ≤ (hi : Int)) := by omega
  clear d1 d2 d3 hhd hq0 hr0 hq32 hS h0 h1 h2 h3
  go_enter Tryz.func213, Tryz.ntmps213
  go_wp2
  go_region
  clear fq fr fq2 fr2 fq3 fr3 fq4 fr4 f1 f2 f2b f3 f4 t0 t1
  go_wp2
  exact bodyPost_ret (v := .tuple #[.int .u32 (q0 : Int), .int .u32 (r0 : Int)]) (by simp [results, Tryz.results213, go_sem]) rfl ⟨rfl, rfl⟩
set_option maxRecDepth 20000 in
set_option maxHeartbeats 1000000 in
theorem byWord_ (p : Option Addr) (c b : Nat) (xs : List Int) (w : World) (hx : Arr w p xs) (hwx : Wd xs) (lx : xs.length ≤ 1048576) (hb0 : 0 < b) (hb1 : b < 4294967296) :
    Calls Tryz.prog 207 #[.slice p xs.length c, .int .u32 (b : Int)] w fun e w' => ∃ v, e = .returned v ∧ Two w' w.heap.size (dig (val xs / b)) (dig (val xs % b)) v ∧ Kp w w' := by
  obtain ⟨N, hN⟩ : ∃ N, N = xs.length := ⟨_, rfl⟩
  rw [← hN]
  have lN : N ≤ 1048576 := by omega
  have hmk := mk32 N (by omega)
  obtain ⟨gq, hgq⟩ : ∃ gq, gq = w.heap.size := ⟨_, rfl⟩
  have hrq : Rw (w.alloc (.cells (madeCells #[.int .u32 0] N) 80)) w.heap.size N (List.replicate N 0) := World.rowIs.congr (World.rowIs_made w (.int .u32 0) N 80) (fun j _ => by rw [rep0_getD])
  rw [← hgq] at hrq
  have HS : Hid (Rw (w.alloc (.cells (madeCells #[.int .u32 0] N) 80)) gq N (List.replicate N 0) ∧ Kp w (w.alloc (.cells (madeCells #[.int .u32 0] N) 80)) ∧ w.heap.size ≤ gq) := ⟨hrq, (Kp.refl w).alloc _, by omega⟩
  have HX : Hid (Arr w p xs ∧ Wd xs ∧ N = xs.length ∧ 0 < b ∧ b < 4294967296) := ⟨hx, hwx, hN, hb0, hb1⟩
  clear hx hwx lx hb0 hb1 hN hrq
  go_enter Tryz.func207, Tryz.ntmps207
  go_wp2
  rw [← hgq]
  clear hgq
  go_loopw [6, 14] (fun rr ii wr => ∃ (k rest : Nat) (qs : List Int), rr = .int .u32 (rest : Int) ∧ ii = .int .i64 k ∧ k ≤ N ∧ rest < b ∧ Rw wr gq N qs ∧ qs.length = N ∧ Wd qs ∧ (∀ j, j < N - k → qs.getD j 0 = 0) ∧ val qs * b + rest * 4294967296 ^ (N - k) + val (xs.take (N - k)) = val xs ∧ Kp w wr) (fun _ i _ => N - (intOf i).toNat)
  case atStart =>
    obtain ⟨hrq, hk, hg⟩ := HS.out
    obtain ⟨hx, hwx, hN, hb0, hb1⟩ := HX.out
    refine ⟨0, 0, List.replicate N 0, rfl, rfl, Nat.zero_le _, hb0, hrq, by simp, fun j => by rw [rep0_getD]; omega, fun j _ => rep0_getD N j, ?_, hk⟩
    rw [val_zeros _ (fun j => rep0_getD N j), Nat.zero_mul, Nat.zero_mul, Nat.zero_add, Nat.sub_zero, List.take_of_length_le (by omega)]
  case round =>
    obtain ⟨k, rest, qs, rfl, rfl, hk, hrb, hrq, hql, hwq, hq0, hval, hkp⟩ := hrel
    obtain ⟨_, _, hgw⟩ := HS.out
    obtain ⟨hx, hwx, hN, hb0, hb1⟩ := HX.out
    by_cases ck : k < N
    · obtain ⟨r, hr⟩ : ∃ r, r = N - 1 - k := ⟨_, rfl⟩
      have hr1 : N - k = r + 1 := by omega
      rw [hr1] at hval
      obtain ⟨b', off', rfl, hc'⟩ := hx.at (k := r) (by omega)
      have e1 := kkeep hkp (hc' r (by omega))
      have hbg : b' ≠ gq := by have := cell_lt (hc' r (by omega)); omega
      have wx := hwx r
      obtain ⟨x, hx9⟩ : ∃ x : Nat, (x : Int) = xs.getD r 0 := ⟨_, Int.toNat_of_nonneg wx.1⟩
      rw [← hx9] at e1
      obtain ⟨d1, d2, d3⟩ := div_word rest x b hb0 hrb
      have hdv := div32_ rest x b hb0 hrb hb1 (by omega)
      obtain ⟨D, hD⟩ : ∃ D, D = (rest * 4294967296 + x) / b := ⟨_, rfl⟩
      obtain ⟨R, hR⟩ : ∃ R, R = (rest * 4294967296 + x) % b := ⟨_, rfl⟩
      rw [← hD, ← hR] at hdv d1
      rw [← hR] at d2
      rw [← hD] at d3
      have hD32 := d3 (by omega)
      have hst := bw_step qs xs b r D rest R x _ (by omega) (hq0 r (by omega)) (by rw [← hx9]; rfl) d1 hval
      have hrN : r < N := by omega
      have e3 := World.rowIs.cell hrq (i := r) hrN
      have e4 := World.rowIs.frozen hrq r
      have hRq : Rw (wr.drew.setCell ⟨gq, r, none⟩ (.int .u32 (D : Int))) gq N (qs.set r (D : Int)) := by
        have h : Rw wr.drew gq N qs := hrq
        exact h.set r (D : Int) (by omega)
      have hKp : Kp w (wr.drew.setCell ⟨gq, r, none⟩ (.int .u32 (D : Int))) := (hkp.drew).setCell hgw _
      have hw2 : Wd (qs.set r (D : Int)) := hwq.set r D (by omega)
      have hl2 : (qs.set r (D : Int)).length = N := by rw [List.length_set]; exact hql
      have hr2 : N - (k + 1) = r := by omega
      have hz2 : ∀ j, j < N - (k + 1) → (qs.set r (D : Int)).getD j 0 = 0 := fun j hj => by
        have e2 : (qs.set r (D : Int)).getD j 0 = qs.getD j 0 := by simp [List.getD, show ¬ r = j from by omega]
        rw [e2, hq0 j (by omega)]
      have HF : Hid (R < b ∧ Rw (wr.drew.setCell ⟨gq, r, none⟩ (.int .u32 (D : Int))) gq N (qs.set r (D : Int)) ∧ (qs.set r (D : Int)).length = N ∧ Wd (qs.set r (D : Int)) ∧ (∀ j, j < N - (k + 1) → (qs.set r (D : Int)).getD j 0 = 0) ∧ val (qs.set r (D : Int)) * b + R * 4294967296 ^ (N - (k + 1)) + val (xs.take (N - (k + 1))) = val xs ∧ Kp w (wr.drew.setCell ⟨gq, r, none⟩ (.int .u32 (D : Int)))) := ⟨d2, hRq, hl2, hw2, hz2, by rw [hr2]; exact hst, hKp⟩
      have fr : IntKind.i64.wrap ((N : Int) - 1 - (k : Int)) = (r : Int) := by rw [IntKind.wrap_i64]; omega
      have fr1 : (N : Int) - 1 - (k : Int) = (r : Int) := by omega
      have i0 : (k : Int) < (N : Int) := by omega
      have i1 : (r : Int) < (N : Int) := by omega
      have hkN : k + 1 ≤ N := by omega
      clear HX HS hx hwx hN hb0 hb1 hk hrb hrq hql hwq hq0 hval hkp hgw hr hr1 hc' wx hx9 d1 d2 d3 hD hR hD32 hst hRq hKp hw2 hl2 hr2 hz2 hmk
      go_wp2_with (first | (go_at_call 213; refine (hdv _).mono ?_; rintro e w' ⟨rfl, hw'⟩; obtain rfl := hw'.symm))
      obtain ⟨a1, a2, a3, a4, a5, a6, a7⟩ := HF.out
      exact ⟨⟨k + 1, R, qs.set r (D : Int), rfl, by go_num, hkN, a1, a2, a3, a4, a5, a6, a7⟩, by simp [intOf]; omega⟩
    · have hkN : k = N := by omega
      subst hkN
      rw [Nat.sub_self, Nat.pow_zero, Nat.mul_one, List.take_zero, show val ([] : List Int) = 0 from rfl, Nat.add_zero] at hval
      obtain ⟨he1, he2⟩ := bw_end _ _ _ _ hval hrb
      have htr := trim_ (some ⟨gq, 0, none⟩) k qs wr (hrq.all hql) (by omega) (by omega)
      have hsm := nsmall_ rest (by omega)
      rw [hql] at htr
      have hOq : ∀ w', Kp wr w' → Own w' w.heap.size (.slice (some ⟨gq, 0, none⟩) (tl qs) k) (dig (val xs / b)) := fun w' h => by
        have h1 := Own.of_row (base := w.heap.size) (k := tl qs) (hrq.grown h) hgw (by have := tl_le qs; omega) hql (by unfold maxLen; omega)
        have h2 : qs.take (tl qs) = dig (val xs / b) := by rw [← he1, ← nz_dig qs hwq]; rfl
        rw [h2] at h1
        exact h1
      have htl : tl qs = (dig (val xs / b)).length := by rw [← he1, tl_len qs hwq]; rfl
      have hgql : gq < wr.heap.size := World.rowIs.lt hrq
      obtain ⟨T, hT⟩ : ∃ T, T = tl qs := ⟨_, rfl⟩
      rw [← hT] at htr hOq htl
      have i2 : ¬ ((k : Int) < (k : Int)) := by omega
      have f1 : IntKind.u64.wrap (rest : Int) = (rest : Int) := by rw [IntKind.wrap_u64]; omega
      have HF : Hid ((∀ w', Kp wr w' → Own w' w.heap.size (.slice (some ⟨gq, 0, none⟩) T k) (dig (val xs / b))) ∧ T = (dig (val xs / b)).length ∧ gq < wr.heap.size ∧ Kp w wr ∧ rest = val xs % b) := ⟨hOq, htl, hgql, hkp, he2⟩
      clear HX HS hx hwx hN hb0 hb1 hk hrb hrq hql hwq hq0 hval hkp hgw ck he1 he2 hOq htl hgql hT hmk
      go_wp2_with (first | (go_at_call 162; refine htr.mono ?_; rintro e w' ⟨rfl, hw'⟩; obtain rfl := hw'.symm))
      refine (hsm _).mono ?_
      rintro e w' ⟨vr, rfl, hOr, hkr⟩
      obtain ⟨hOq, htl, hgql, hkp, he2⟩ := HF.out
      rw [he2] at hOr
      have hKf : Kp w w' := hkp.trans hkr
      have hTwo : Two w' w.heap.size (dig (val xs / b)) (dig (val xs % b)) (.tuple #[.slice (some ⟨gq, 0, none⟩) T k, vr]) := by
        obtain ⟨pr, cr, rfl, hor⟩ := hOr.len
        refine ⟨some ⟨gq, 0, none⟩, k, pr, cr, by rw [htl], by rw [← htl]; exact hOq w' hkr, hOr.mono hkp.size, fun g e e2 => ?_⟩
        cases e
        rw [e2] at hOr
        have h1 := hOr.above.1
        omega
      have HZ : Hid (Two w' w.heap.size (dig (val xs / b)) (dig (val xs % b)) (.tuple #[.slice (some ⟨gq, 0, none⟩) T k, vr]) ∧ Kp w w') := ⟨hTwo, hKf⟩
      clear HF hOq htl hgql hkp hKf hTwo hOr hkr htr hsm f1 he2
      go_wp2
      exact bodyPost_ret (v := .tuple #[.slice (some ⟨gq, 0, none⟩) T k, vr]) (by simp [results, Tryz.results207, go_sem]) rfl ⟨_, rfl, HZ.out.1, HZ.out.2⟩
set_option maxRecDepth 20000 in
set_option maxHeartbeats 400000 in
theorem isnan_i (x : Int) (w : World) : Calls Tryz.prog 217 #[.int .i64 x] w fun e w' => e = .returned (.bool false) ∧ w' = w := by
  go_enter Tryz.func217, Tryz.ntmps217
  go_wp2
  exact bodyPost_ret (v := .bool false) (by simp [results, Tryz.results217, go_sem] <;> simp only [*]) rfl ⟨rfl, rfl⟩
set_option maxRecDepth 20000 in
set_option maxHeartbeats 400000 in
theorem compare_i (x y : Int) (w : World) : Calls Tryz.prog 210 #[.int .i64 x, .int .i64 y] w fun e w' => e = .returned (.int .i64 (cmpz x y)) ∧ w' = w := by
  rcases (by omega : x < y ∨ y < x ∨ x = y) with c | c | c
  · have ec : cmpz x y = -1 := by unfold cmpz; simp [c]
    rw [ec]; clear ec
    go_enter Tryz.func210, Tryz.ntmps210
    go_wp2_with (first | (go_at_call 217; refine (isnan_i _ _).mono ?_; rintro e w' ⟨rfl, rfl⟩))
    exact bodyPost_ret (v := .int .i64 (-1)) (by simp [results, Tryz.results210, go_sem] <;> simp only [*]) rfl ⟨rfl, rfl⟩
  · have d : ¬ (x < y) := by omega
    have ec : cmpz x y = 1 := by unfold cmpz; simp [c, d]
    rw [ec]; clear ec
    go_enter Tryz.func210, Tryz.ntmps210
    go_wp2_with (first | (go_at_call 217; refine (isnan_i _ _).mono ?_; rintro e w' ⟨rfl, rfl⟩))
    exact bodyPost_ret (v := .int .i64 1) (by simp [results, Tryz.results210, go_sem] <;> simp only [*]) rfl ⟨rfl, rfl⟩
  · subst c
    have d : ¬ (x < x) := by omega
    have ec : cmpz x x = 0 := by unfold cmpz; simp
    rw [ec]; clear ec
    go_enter Tryz.func210, Tryz.ntmps210
    go_wp2_with (first | (go_at_call 217; refine (isnan_i _ _).mono ?_; rintro e w' ⟨rfl, rfl⟩))
    exact bodyPost_ret (v := .int .i64 0) (by simp [results, Tryz.results210, go_sem] <;> simp only [*]) rfl ⟨rfl, rfl⟩
set_option maxRecDepth 20000 in
set_option maxHeartbeats 400000 in
theorem isnan_u (x : Int) (w : World) : Calls Tryz.prog 218 #[.int .u32 x] w fun e w' => e = .returned (.bool false) ∧ w' = w := by
  go_enter Tryz.func218, Tryz.ntmps218
  go_wp2
  exact bodyPost_ret (v := .bool false) (by simp [results, Tryz.results218, go_sem] <;> simp only [*]) rfl ⟨rfl, rfl⟩
set_option maxRecDepth 20000 in
set_option maxHeartbeats 400000 in
theorem compare_u (x y : Int) (w : World) : Calls Tryz.prog 211 #[.int .u32 x, .int .u32 y] w fun e w' => e = .returned (.int .i64 (cmpz x y)) ∧ w' = w := by
  rcases (by omega : x < y ∨ y < x ∨ x = y) with c | c | c
  · have ec : cmpz x y = -1 := by unfold cmpz; simp [c]
    rw [ec]; clear ec
    go_enter Tryz.func211, Tryz.ntmps211
    go_wp2_with (first | (go_at_call 218; refine (isnan_u _ _).mono ?_; rintro e w' ⟨rfl, rfl⟩))
    exact bodyPost_ret (v := .int .i64 (-1)) (by simp [results, Tryz.results211, go_sem] <;> simp only [*]) rfl ⟨rfl, rfl⟩
  · have d : ¬ (x < y) := by omega
    have ec : cmpz x y = 1 := by unfold cmpz; simp [c, d]
    rw [ec]; clear ec
    go_enter Tryz.func211, Tryz.ntmps211
    go_wp2_with (first | (go_at_call 218; refine (isnan_u _ _).mono ?_; rintro e w' ⟨rfl, rfl⟩))
    exact bodyPost_ret (v := .int .i64 1) (by simp [results, Tryz.results211, go_sem] <;> simp only [*]) rfl ⟨rfl, rfl⟩
  · subst c
    have d : ¬ (x < x) := by omega
    have ec : cmpz x x = 0 := by unfold cmpz; simp
    rw [ec]; clear ec
    go_enter Tryz.func211, Tryz.ntmps211
    go_wp2_with (first | (go_at_call 218; refine (isnan_u _ _).mono ?_; rintro e w' ⟨rfl, rfl⟩))
    exact bodyPost_ret (v := .int .i64 0) (by simp [results, Tryz.results211, go_sem] <;> simp only [*]) rfl ⟨rfl, rfl⟩
set_option maxRecDepth 20000 in
set_option maxHeartbeats 1000000 in
theorem ncmp_ (p q : Option Addr) (c d : Nat) (xs ys : List Int) (w : World) (hx : Arr w p xs) (hy : Arr w q ys) (hwx : Wd xs) (hwy : Wd ys) (lx : xs.length ≤ 1099511627776) (ly : ys.length ≤ 1099511627776) (hc : xs.length ≤ c) (hd : ys.length ≤ d) :
    Calls Tryz.prog 203 #[.slice p xs.length c, .slice q ys.length d] w fun e w' => e = .returned (.int .i64 (cmpN (val xs) (val ys))) ∧ Kp w w' := by
  have h1 := trim_ p c xs w hx lx hc
  have h2 := trim_ q d ys w hy ly hd
  have lS := tl_le xs
  have lT := tl_le ys
  have hg : Kp w w := Kp.refl w
  have dne : tl xs ≠ tl ys → cmpz (tl xs : Int) (tl ys : Int) = cmpN (val xs) (val ys) := fun h => by
    rcases (by omega : tl xs < tl ys ∨ tl ys < tl xs) with e | e
    · rw [cmpN_lt (tl_lt_val xs ys hwx hwy e)]; unfold cmpz; rw [if_pos (by omega)]
    · rw [cmpN_gt (tl_lt_val ys xs hwy hwx e)]; unfold cmpz; rw [if_neg (by omega), if_pos (by omega)]
  have deq : tl xs = tl ys → (∀ j, j < tl xs → xs.getD j 0 = ys.getD j 0) → cmpN (val xs) (val ys) = 0 := fun e h => by
    apply cmpN_eq
    rw [← val_tl xs, ← val_tl ys, ← e]
    exact cmp_all xs ys _ h
  have tne : ∀ k, tl xs = tl ys → k < tl xs → xs.getD k 0 ≠ ys.getD k 0 → (∀ j, k < j → j < tl xs → xs.getD j 0 = ys.getD j 0) → cmpz (xs.getD k 0) (ys.getD k 0) = cmpN (val xs) (val ys) := fun k e h1 h2 h3 => by
    rcases (by omega : xs.getD k 0 < ys.getD k 0 ∨ ys.getD k 0 < xs.getD k 0) with f | f
    · rw [cmpN_lt (by rw [← val_tl xs, ← val_tl ys, ← e]; exact cmp_top xs ys hwx k (hwx k).1 f _ h1 h3)]; unfold cmpz; rw [if_pos f]
    · rw [cmpN_gt (by rw [← val_tl xs, ← val_tl ys, ← e]; exact cmp_top ys xs hwy k (hwy k).1 f _ h1 (fun j a b => (h3 j a b).symm))]; unfold cmpz; rw [if_neg (by omega), if_pos f]
  obtain ⟨R, hR⟩ : ∃ R, R = cmpN (val xs) (val ys) := ⟨_, rfl⟩
  obtain ⟨N, hN⟩ : ∃ N, N = xs.length := ⟨_, rfl⟩
  obtain ⟨M, hM⟩ : ∃ M, M = ys.length := ⟨_, rfl⟩
  obtain ⟨S, hS⟩ : ∃ S, S = tl xs := ⟨_, rfl⟩
  obtain ⟨T, hT⟩ : ∃ T, T = tl ys := ⟨_, rfl⟩
  rw [← hS, ← hN] at h1 lS
  rw [← hT, ← hM] at h2 lT
  rw [← hS, ← hT, ← hR] at dne deq tne
  rw [← hN, ← hM, ← hR]
  have HX : Hid (Arr w p xs) := hx
  have HY : Hid (Arr w q ys) := hy
  have HN : Hid (N = xs.length ∧ M = ys.length) := ⟨hN, hM⟩
  have lS2 : S ≤ 1099511627776 := by omega
  clear hx hy hwx hwy lx ly hN hM hS hT hR hc hd
  by_cases cST : S = T
  · subst cST
    have t1 : ((S : Int) != (S : Int)) = false := by simp
    have HD : Hid ((∀ j, j < S → xs.getD j 0 = ys.getD j 0) → R = 0) := deq rfl
    have HL : Hid (∀ k, k < S → xs.getD k 0 ≠ ys.getD k 0 → (∀ j, k < j → j < S → xs.getD j 0 = ys.getD j 0) → cmpz (xs.getD k 0) (ys.getD k 0) = R) := fun k => tne k rfl
    clear dne deq tne
    go_enter Tryz.func203, Tryz.ntmps203
    go_wp2_with fail
    refine h1.mono ?_; rintro e w' ⟨rfl, hw'⟩; obtain rfl := hw'.symm
    go_wp2_with fail
    refine h2.mono ?_; rintro e w' ⟨rfl, hw'⟩; obtain rfl := hw'.symm
    clear h1 h2
    go_wp2
    clear t1
    go_loopw [23] (fun i wr => ∃ (k : Nat), k ≤ S ∧ i = .int .i64 k ∧ Kp w wr ∧ ∀ j, S ≤ j + k → j < S → xs.getD j 0 = ys.getD j 0) (fun i _ => S - (intOf i).toNat)
    case atStart => exact ⟨0, Nat.zero_le _, rfl, hg, fun j _ _ => by omega⟩
    case round =>
      clear hg
      obtain ⟨k, hk, rfl, hg, hs⟩ := hrel
      by_cases ck : k < S
      · obtain ⟨hN, hM⟩ := HN.out
        obtain ⟨m, hm⟩ : ∃ m : Nat, m + k + 1 = S := ⟨S - 1 - k, by omega⟩
        obtain ⟨b, off, rfl, hc⟩ := HX.out.at (k := m) (by omega)
        obtain ⟨b', off', rfl, hc'⟩ := HY.out.at (k := m) (by omega)
        have e1 := kkeep hg (hc m (by omega))
        have e2 := kkeep hg (hc' m (by omega))
        have hm2 : m = S - 1 - k := by omega
        rw [hm2] at e1 e2
        have i0 : (0 : Int) ≤ (S : Int) - 1 - (k : Int) := by omega
        have i1 : (S : Int) - 1 - (k : Int) < (S : Int) := by omega
        have i2 : (k : Int) < (S : Int) := by omega
        have i3 : wrap64 ((S : Int) - 1) = (S : Int) - 1 := by unfold wrap64; omega
        have i5 : (k : Int) ≤ (S : Int) - 1 := by omega
        have i4 : wrap64 ((S : Int) - 1 - (k : Int)) = (S : Int) - 1 - (k : Int) := by unfold wrap64; omega
        have rl := fun h => HL.out m (by omega) h (fun j a b => hs j (by omega) b)
        have re : xs.getD m 0 = ys.getD m 0 → ∀ j, S ≤ j + (k + 1) → j < S → xs.getD j 0 = ys.getD j 0 := fun h j a b => by
          by_cases e : j = m
          · subst e; exact h
          · exact hs j (by omega) b
        obtain ⟨X, hX⟩ : ∃ X, X = xs.getD m 0 := ⟨_, rfl⟩
        obtain ⟨Y, hY⟩ : ∃ Y, Y = ys.getD m 0 := ⟨_, rfl⟩
        rw [hm2] at hX hY
        rw [← hX] at e1
        rw [← hY] at e2
        rw [← hm2] at hX hY
        rw [← hX, ← hY] at rl re
        clear hc hc' HX HY HN HD HL hs hN hM hX hY lS lT
        by_cases cx : X = Y
        · have hs2 := re cx
          subst cx
          have t1 : (X != X) = false := by simp
          clear rl re
          go_wp2
          refine wp_region_kp (by kernel_rfl) (by kernel_rfl) (fun ι _ G hG hall => ?_)
          have c0 : ∀ n, (G n).cell? ⟨b, off + (S - 1 - k), none⟩ = some (.int .u32 X) := fun n => kkeep (hG n) e1
          have c1 : ∀ n, (G n).cell? ⟨b', off' + (S - 1 - k), none⟩ = some (.int .u32 X) := fun n => kkeep (hG n) e2
          repeat (go_big_quiet_step (fail))
          refine wpQuiet_nil ?_
          rintro _ ⟨nq, rfl⟩
          have gq := hG nq
          replace e1 := kkeep gq e1
          replace e2 := kkeep gq e2
          replace hg := hg.trans gq
          clear c0 c1 hall hG gq
          go_wp2
          exact ⟨⟨k + 1, by omega, by go_num, hg, hs2⟩, by simp [intOf]; omega⟩
        · have t1 : (X != Y) = true := by simp [cx]
          have hcm := compare_u X Y
          rw [rl cx] at hcm
          clear rl re cx
          go_wp2
          refine wp_region_kp (by kernel_rfl) (by kernel_rfl) (fun ι _ G hG hall => ?_)
          have c0 : ∀ n, (G n).cell? ⟨b, off + (S - 1 - k), none⟩ = some (.int .u32 X) := fun n => kkeep (hG n) e1
          have c1 : ∀ n, (G n).cell? ⟨b', off' + (S - 1 - k), none⟩ = some (.int .u32 Y) := fun n => kkeep (hG n) e2
          repeat (go_big_quiet_step (fail))
          refine wpQuiet_nil ?_
          rintro _ ⟨nq, rfl⟩
          have gq := hG nq
          replace e1 := kkeep gq e1
          replace e2 := kkeep gq e2
          replace hg := hg.trans gq
          clear c0 c1 hall hG gq
          go_wp2
          go_region_held3 (fun w' => w'.cell? ⟨b, off + (S - 1 - k), none⟩ = some (.int .u32 X) ∧ w'.cell? ⟨b', off' + (S - 1 - k), none⟩ = some (.int .u32 Y)) (exact ⟨e1, e2⟩) (first | (go_at_call 211; refine (hcm _).mono ?_; rintro e w' ⟨rfl, rfl⟩))
          go_wp2
          exact bodyPost_ret (v := .int .i64 R) (by simp [results, Tryz.results203, go_sem] <;> simp only [*]) rfl ⟨rfl, (by repeat (with_reducible (first | assumption | exact Kp.refl _ | apply Kp.drew | apply Kp.alloc | apply Kp.drewN | (refine Kp.trans ?_ (by assumption)))))⟩
      · have hR0 := HD.out (fun j hj => hs j (by omega) hj)
        subst hR0
        have i2 : ¬ ((k : Int) < (S : Int)) := by omega
        clear HX HY HN HD HL hs lS lT hk ck
        go_wp2
        exact bodyPost_ret (v := .int .i64 0) (by simp [results, Tryz.results203, go_sem] <;> simp only [*]) rfl ⟨rfl, hg⟩
  · have t1 : ((S : Int) != (T : Int)) = true := by simp; omega
    have hcm := compare_i (S : Int) (T : Int)
    rw [dne cST] at hcm
    clear dne deq tne HX HY HN cST lS lT
    go_enter Tryz.func203, Tryz.ntmps203
    go_wp2_with fail
    refine h1.mono ?_; rintro e w' ⟨rfl, hw'⟩; obtain rfl := hw'.symm
    go_wp2_with fail
    refine h2.mono ?_; rintro e w' ⟨rfl, hw'⟩; obtain rfl := hw'.symm
    go_wp2_with (first | (go_at_call 210; refine (hcm _).mono ?_; rintro e w' ⟨rfl, rfl⟩))
    exact bodyPost_ret (v := .int .i64 R) (by simp [results, Tryz.results203, go_sem] <;> simp only [*]) rfl ⟨rfl, hg⟩
end Go.Proofs.YthdnajcgdngmcaaGreatDoor
