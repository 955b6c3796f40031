import Derived.Test.YtinohggonicjhaaGreatDoorKXA0
namespace Go.Proofs.YtinohggonicjhaaGreatDoor
open Go.RowKit
set_option maxRecDepth 20000 in
set_option maxHeartbeats 2000000 in
theorem rnorm_ (p : Option Addr) (c : Nat) (xs : List Int) (w : World) (hx : Arr w p xs) (lx : xs.length ≤ 1099511627776) :
    Calls Tryz.prog 132 #[.slice p xs.length c] w fun e w' => ∃ v, e = .returned v ∧ Own w' w.heap.size v (nz xs) ∧ Kp w w' := by
  obtain ⟨N, hN⟩ : ∃ N, N = xs.length := ⟨_, rfl⟩
  rw [← hN] at lx ⊢
  have HX : Hid (Arr w p xs) := hx
  have HN : Hid (N = xs.length) := hN
  obtain ⟨T, hT⟩ : ∃ T, T = tl xs := ⟨_, rfl⟩
  have HT : Hid (tlAux xs N = T) := by rw [hT, hN]; exact rfl
  have HT2 : Hid (T ≤ N ∧ T = tl xs) := ⟨by rw [hT, hN]; exact tl_le xs, hT⟩
  obtain ⟨i0, hi0, hi1, hi2, hi3⟩ := inf32p
  clear hN hx hT
  go_enter Tryz.func132, Tryz.ntmps132
  go_wp2
  go_loop [3] (fun i => ∃ k : Nat, i = .int .i64 k ∧ k ≤ N ∧ tlAux xs k = T) (fun i => (intOf i).toNat)
  case atStart => exact ⟨N, rfl, Nat.le_refl _, HT.out⟩
  case round =>
    obtain ⟨k, rfl, hk, ht⟩ := hrel
    have hN := HN.out
    have step2 : k = 0 ∨ (∃ k', k = k' + 1 ∧ xs.getD k' 0 = 0) ∨ (∃ k', k = k' + 1 ∧ xs.getD k' 0 ≠ 0) := by
      rcases k with _ | k'
      · exact Or.inl rfl
      · by_cases cz : xs.getD k' 0 = 0
        · exact Or.inr (Or.inl ⟨k', rfl, cz⟩)
        · exact Or.inr (Or.inr ⟨k', rfl, cz⟩)
    rcases step2 with rfl | ⟨k, rfl, cz⟩ | ⟨k, rfl, cz⟩
    · have hT0 : T = 0 := by rw [← ht]; rfl
      subst hT0
      clear hN HN HX HT ht hk
      have hnz : nz xs = [] := by unfold nz; rw [← HT2.out.2]; rfl
      go_wp2
      go_loopw [4, 5] (fun v i wr => v = .slice none 0 0 ∧ i = .int .i64 0 ∧ wr = w) (fun _ _ _ => 0)
      case atStart => exact ⟨rfl, rfl, rfl⟩
      case round =>
        obtain ⟨rfl, rfl, rfl⟩ := hrel
        go_wp2
        exact bodyPost_ret (v := .slice none 0 0) (by simp [results, Tryz.results132, go_sem] <;> simp only [*]) rfl ⟨_, rfl, by rw [hnz]; exact Own.nil _ _, Kp.refl _⟩
    · obtain ⟨b, off, rfl, hc'⟩ := HX.out.at (k := k) (by omega)
      have e1 := hc' k (by omega)
      rw [tlAux_zero xs k cz] at ht
      rw [cz] at e1
      clear hN HN HX HT hc' HT2
      go_wp2
      exact ⟨⟨k, by go_num, by omega, ht⟩, by simp [intOf]⟩
    · obtain ⟨b, off, rfl, hc'⟩ := HX.out.at (k := k) (by omega)
      have e1 := hc' k (by omega)
      rw [tlAux_nz xs k cz] at ht
      obtain ⟨X, hX⟩ : ∃ X, X = xs.getD k 0 := ⟨_, rfl⟩
      rw [← hX] at e1 cz
      have t1 : (X == 0) = false := by simp [cz]
      have HK : Hid (k + 1 = T) := ht
      clear hN HT hc' hX cz ht
      go_wp2
      go_loopw [4, 5] (fun a i wr => ∃ (v : Value) (j : Nat), v = a ∧ j ≤ k + 1 ∧ i = .int .i64 j ∧ Own wr w.heap.size v (xs.take j) ∧ Kp w wr) (fun _ i _ => k + 1 - (intOf i).toNat)
      case atStart => exact ⟨_, 0, rfl, Nat.zero_le _, rfl, by simpa using Own.nil w w.heap.size, Kp.refl _⟩
      case round =>
        obtain ⟨v, j, rfl, hj, rfl, hown, hkp⟩ := hrel
        obtain ⟨hTN, hTe⟩ := HT2.out
        have hKT := HK.out
        have hN := HN.out
        clear e1 t1
        by_cases cj : j < k + 1
        · obtain ⟨b2, off2, hb2, hc2⟩ := HX.out.at (k := j) (by omega)
          obtain ⟨rfl, rfl⟩ : b = b2 ∧ off = off2 := by simpa using hb2
          have e2 := kkeep hkp (hc2 j (by omega))
          have hpush := take_push xs j (by omega)
          have hob := own_block hown
          have hlen : (xs.take j).length = j := by rw [List.length_take]; omega
          have hown' : wr.ownsRow w.heap.size 107 1 v ((xs.take j).length) ((xs.take j).map (Value.int .u32)) := hown
          obtain ⟨Y, hY⟩ : ∃ Y, Y = xs.getD j 0 := ⟨_, rfl⟩
          rw [← hY] at e2 hpush
          have hsz := hkp.size
          clear hc2 hb2 hY hTe HX HN HT2 HK hown
          clear hN
          go_wp2_with (first | (at_builtin; refine wpList_append_own _ rfl _ _ 46 rfl w.heap.size 107 i0 (.int .u32 0) 1 4 Tryz.underlying46 hi0 hi1 hi2 hi3 rfl (by decide) _ _ _ rfl (hown'.alloc _) ⟨wr.heap.size, 0, none⟩ 1 1 [.int .u32 Y] rfl rfl ?c1 ?c2 ?c3 ?c4 ?c5 ?_))
          case c1 =>
            intro j' u hj'
            match j', hj' with
            | 0, hj' => simp at hj'; subst hj'; simp [Addr.add]
          case c2 => intro u hu; simp at hu; subst hu; rfl
          case c3 => unfold maxLen; omega
          case c4 => omega
          case c5 => simp; omega
          intro v' w1 hown2 hgrow _
          have hO : Own w1 w.heap.size v' (xs.take (j + 1)) := by rw [← hpush]; refine Own.push ?_; rw [hlen, List.map_take]; exact hown2
          have hK2 : Kp w w1 := (hkp.alloc _).grown hgrow hob
          clear hown2 hgrow hown' hkp hob e2 hsz hpush hlen
          go_wp2
          exact ⟨⟨_, j + 1, rfl, by omega, by go_num, hO, hK2⟩, by simp [intOf]; omega⟩
        · have hjk : j = k + 1 := by omega
          have hnz : nz xs = xs.take j := by unfold nz; rw [← hTe, ← hKT, hjk]
          clear hN HN HX HT2 HK hTe hTN hKT
          go_wp2
          exact bodyPost_ret (v := v) (by simp [results, Tryz.results132, go_sem] <;> simp only [*]) rfl ⟨_, rfl, by rw [hnz]; exact hown, hkp⟩
set_option maxRecDepth 20000 in
set_option maxHeartbeats 3000000 in
theorem rplus_ (p q : Option Addr) (c d : Nat) (xs ys : List Int) (w : World) (hx : Arr w p xs) (hy : Arr w q ys) (hwx : Wd xs) (hwy : Wd ys) (lx : xs.length < 1099511627776) (ly : ys.length < 1099511627776) :
    Calls Tryz.prog 117 #[.slice p xs.length c, .slice q ys.length d] w fun e w' => ∃ v L, e = .returned v ∧ Own w' w.heap.size v (nz L) ∧ Wd L ∧ val L = val xs + val ys ∧ L.length ≤ 1099511627776 ∧ Kp w w' := by
  obtain ⟨N, hN⟩ : ∃ N, N = xs.length := ⟨_, rfl⟩
  obtain ⟨M, hM⟩ : ∃ M, M = ys.length := ⟨_, rfl⟩
  rw [← hN] at lx ⊢
  rw [← hM] at ly ⊢
  have HX : Hid (Arr w p xs) := hx
  have HY : Hid (Arr w q ys) := hy
  have HW : Hid (Wd xs ∧ Wd ys) := ⟨hwx, hwy⟩
  have HN : Hid (N = xs.length ∧ M = ys.length ∧ N < 1099511627776 ∧ M < 1099511627776) := ⟨hN, hM, lx, ly⟩
  obtain ⟨i0, hi0, hi1, hi2, hi3⟩ := inf32p
  clear hN hM hx hy hwx hwy lx ly
  go_enter Tryz.func117, Tryz.ntmps117
  go_wp2
  go_loopw [5, 6, 7] (fun a cc i wr => ∃ (v : Value) (k C : Nat) (L : List Int), v = a ∧ cc = .int .u64 C ∧ i = .int .i64 k ∧ Own wr w.heap.size v L ∧ Kp w wr ∧ L.length = k ∧ Wd L ∧ C ≤ 1 ∧ val L + C * 4294967296 ^ k = val (xs.take k) + val (ys.take k) ∧ k ≤ max N M) (fun _ _ i _ => max N M - (intOf i).toNat)
  case atStart => exact ⟨_, 0, 0, [], rfl, rfl, rfl, Own.nil _ _, Kp.refl _, rfl, Wd.nil, by omega, by simp [val], by omega⟩
  case round =>
    obtain ⟨v, k, C, L, rfl, rfl, rfl, hown, hkp, hL, hw, hC, hv, hk⟩ := hrel
    obtain ⟨hN, hM, lx, ly⟩ := HN.out
    by_cases ca : k < N
    · by_cases cb : k < M
      · skip
        obtain ⟨b, off, rfl, hc⟩ := HX.out.at (k := k) (by omega)
        have e1 := kkeep hkp (hc k (by omega))
        obtain ⟨b', off', rfl, hc'⟩ := HY.out.at (k := k) (by omega)
        have e2 := kkeep hkp (hc' k (by omega))
        have wx := HW.out.1 k
        have wy := HW.out.2 k
        obtain ⟨S, hS⟩ : ∃ S : Nat, S = C + (xs.getD k 0).toNat + (ys.getD k 0).toNat := ⟨_, rfl⟩
        have hst := plus_step L xs ys k C S hL hS hv
        obtain ⟨X, hX⟩ : ∃ X, X = xs.getD k 0 := ⟨_, rfl⟩
        obtain ⟨Y, hY⟩ : ∃ Y, Y = ys.getD k 0 := ⟨_, rfl⟩
        rw [← hX, ← hY] at hS
        rw [← hX] at wx e1
        rw [← hY] at wy e2
        have f1 : IntKind.u64.wrap X = X := by rw [IntKind.wrap_u64]; omega
        have f2 : IntKind.u64.wrap Y = Y := by rw [IntKind.wrap_u64]; omega
        have f3 : IntKind.u64.wrap ((C : Int) + X) = (C : Int) + X := by rw [IntKind.wrap_u64]; omega
        have f4 : IntKind.u64.wrap ((C : Int) + X + Y) = (S : Int) := by rw [IntKind.wrap_u64]; omega
        have f5 := and32 S (by omega)
        obtain ⟨Z, hZ⟩ : ∃ Z : Int, Z = ((S % 4294967296 : Nat) : Int) := ⟨_, rfl⟩
        rw [← hZ] at f5 hst
        have f6 : IntKind.u32.wrap Z = Z := by rw [IntKind.wrap_u32]; omega
        have f7 : (S : Int) / 4294967296 = ((S / 4294967296 : Nat) : Int) := by omega
        have hC' : S / 4294967296 ≤ 1 := by omega
        obtain ⟨C', hC2⟩ : ∃ C' : Nat, C' = S / 4294967296 := ⟨_, rfl⟩
        rw [← hC2] at f7 hst hC'
        have hWL : Wd (L ++ [Z]) := hw.append (Wd.one (by omega))
        have hob := own_block hown
        have hown' : wr.ownsRow w.heap.size 107 1 v k (L.map (Value.int .u32)) := by rw [← hL]; exact hown
        have hsz := hkp.size
        have hkb : k < 1099511627776 := by omega
        clear hc hc' HX HY HW HN hN hM hX hY hS hv hZ hC2 hown wx wy hw hC
        go_wp2_with (first | (at_builtin; refine wpList_append_own _ rfl _ _ 46 rfl w.heap.size 107 i0 (.int .u32 0) 1 4 Tryz.underlying46 hi0 hi1 hi2 hi3 rfl (by decide) _ _ _ rfl (hown'.alloc _) ⟨wr.heap.size, 0, none⟩ 1 1 [.int .u32 Z] rfl rfl ?c1 ?c2 ?c3 ?c4 ?c5 ?_))
        case c1 =>
          intro j' u hj'
          match j', hj' with
          | 0, hj' => simp at hj'; subst hj'; simp [Addr.add]
        case c2 => intro u hu; simp at hu; subst hu; rfl
        case c3 => unfold maxLen; omega
        case c4 => omega
        case c5 => simp; omega
        intro v' w1 hown2 hgrow _
        have hO : Own w1 w.heap.size v' (L ++ [Z]) := by refine Own.push ?_; rw [hL]; exact hown2
        have hK2 : Kp w w1 := (hkp.alloc _).grown hgrow hob
        clear hown2 hgrow hown' hkp hob hsz
        go_wp2
        exact ⟨⟨_, k + 1, C', _, rfl, by go_num, by go_num, hO, hK2, by simp [hL], hWL, hC', hst, by omega⟩, by simp [intOf]; omega⟩
      · skip
        obtain ⟨b, off, rfl, hc⟩ := HX.out.at (k := k) (by omega)
        have e1 := kkeep hkp (hc k (by omega))
        have wx := HW.out.1 k
        have wy := HW.out.2 k
        have hy0 : ys.getD k 0 = 0 := getD_out ys k (by omega)
        obtain ⟨S, hS⟩ : ∃ S : Nat, S = C + (xs.getD k 0).toNat + (ys.getD k 0).toNat := ⟨_, rfl⟩
        have hst := plus_step L xs ys k C S hL hS hv
        obtain ⟨X, hX⟩ : ∃ X, X = xs.getD k 0 := ⟨_, rfl⟩
        obtain ⟨Y, hY⟩ : ∃ Y, Y = ys.getD k 0 := ⟨_, rfl⟩
        rw [← hX, ← hY] at hS
        rw [← hX] at wx e1
        rw [← hY] at wy hy0
        have f1 : IntKind.u64.wrap X = X := by rw [IntKind.wrap_u64]; omega
        have f2 : IntKind.u64.wrap Y = Y := by rw [IntKind.wrap_u64]; omega
        have f3 : IntKind.u64.wrap ((C : Int) + X) = (S : Int) := by rw [IntKind.wrap_u64]; omega
        have f5 := and32 S (by omega)
        obtain ⟨Z, hZ⟩ : ∃ Z : Int, Z = ((S % 4294967296 : Nat) : Int) := ⟨_, rfl⟩
        rw [← hZ] at f5 hst
        have f6 : IntKind.u32.wrap Z = Z := by rw [IntKind.wrap_u32]; omega
        have f7 : (S : Int) / 4294967296 = ((S / 4294967296 : Nat) : Int) := by omega
        have hC' : S / 4294967296 ≤ 1 := by omega
        obtain ⟨C', hC2⟩ : ∃ C' : Nat, C' = S / 4294967296 := ⟨_, rfl⟩
        rw [← hC2] at f7 hst hC'
        have hWL : Wd (L ++ [Z]) := hw.append (Wd.one (by omega))
        have hob := own_block hown
        have hown' : wr.ownsRow w.heap.size 107 1 v k (L.map (Value.int .u32)) := by rw [← hL]; exact hown
        have hsz := hkp.size
        have hkb : k < 1099511627776 := by omega
        clear hc HX HY HW HN hN hM hX hY hS hv hZ hC2 hown wx wy hw hC hy0
        go_wp2_with (first | (at_builtin; refine wpList_append_own _ rfl _ _ 46 rfl w.heap.size 107 i0 (.int .u32 0) 1 4 Tryz.underlying46 hi0 hi1 hi2 hi3 rfl (by decide) _ _ _ rfl (hown'.alloc _) ⟨wr.heap.size, 0, none⟩ 1 1 [.int .u32 Z] rfl rfl ?c1 ?c2 ?c3 ?c4 ?c5 ?_))
        case c1 =>
          intro j' u hj'
          match j', hj' with
          | 0, hj' => simp at hj'; subst hj'; simp [Addr.add]
        case c2 => intro u hu; simp at hu; subst hu; rfl
        case c3 => unfold maxLen; omega
        case c4 => omega
        case c5 => simp; omega
        intro v' w1 hown2 hgrow _
        have hO : Own w1 w.heap.size v' (L ++ [Z]) := by refine Own.push ?_; rw [hL]; exact hown2
        have hK2 : Kp w w1 := (hkp.alloc _).grown hgrow hob
        clear hown2 hgrow hown' hkp hob hsz
        go_wp2
        exact ⟨⟨_, k + 1, C', _, rfl, by go_num, by go_num, hO, hK2, by simp [hL], hWL, hC', hst, by omega⟩, by simp [intOf]; omega⟩
    · by_cases cb : k < M
      · skip
        obtain ⟨b', off', rfl, hc'⟩ := HY.out.at (k := k) (by omega)
        have e2 := kkeep hkp (hc' k (by omega))
        have wx := HW.out.1 k
        have wy := HW.out.2 k
        have hx0 : xs.getD k 0 = 0 := getD_out xs k (by omega)
        obtain ⟨S, hS⟩ : ∃ S : Nat, S = C + (xs.getD k 0).toNat + (ys.getD k 0).toNat := ⟨_, rfl⟩
        have hst := plus_step L xs ys k C S hL hS hv
        obtain ⟨X, hX⟩ : ∃ X, X = xs.getD k 0 := ⟨_, rfl⟩
        obtain ⟨Y, hY⟩ : ∃ Y, Y = ys.getD k 0 := ⟨_, rfl⟩
        rw [← hX, ← hY] at hS
        rw [← hX] at wx hx0
        rw [← hY] at wy e2
        have f1 : IntKind.u64.wrap X = X := by rw [IntKind.wrap_u64]; omega
        have f2 : IntKind.u64.wrap Y = Y := by rw [IntKind.wrap_u64]; omega
        have f3 : IntKind.u64.wrap ((C : Int) + Y) = (S : Int) := by rw [IntKind.wrap_u64]; omega
        have f5 := and32 S (by omega)
        obtain ⟨Z, hZ⟩ : ∃ Z : Int, Z = ((S % 4294967296 : Nat) : Int) := ⟨_, rfl⟩
        rw [← hZ] at f5 hst
        have f6 : IntKind.u32.wrap Z = Z := by rw [IntKind.wrap_u32]; omega
        have f7 : (S : Int) / 4294967296 = ((S / 4294967296 : Nat) : Int) := by omega
        have hC' : S / 4294967296 ≤ 1 := by omega
        obtain ⟨C', hC2⟩ : ∃ C' : Nat, C' = S / 4294967296 := ⟨_, rfl⟩
        rw [← hC2] at f7 hst hC'
        have hWL : Wd (L ++ [Z]) := hw.append (Wd.one (by omega))
        have hob := own_block hown
        have hown' : wr.ownsRow w.heap.size 107 1 v k (L.map (Value.int .u32)) := by rw [← hL]; exact hown
        have hsz := hkp.size
        have hkb : k < 1099511627776 := by omega
        clear hc' HX HY HW HN hN hM hX hY hS hv hZ hC2 hown wx wy hw hC hx0
        go_wp2_with (first | (at_builtin; refine wpList_append_own _ rfl _ _ 46 rfl w.heap.size 107 i0 (.int .u32 0) 1 4 Tryz.underlying46 hi0 hi1 hi2 hi3 rfl (by decide) _ _ _ rfl (hown'.alloc _) ⟨wr.heap.size, 0, none⟩ 1 1 [.int .u32 Z] rfl rfl ?c1 ?c2 ?c3 ?c4 ?c5 ?_))
        case c1 =>
          intro j' u hj'
          match j', hj' with
          | 0, hj' => simp at hj'; subst hj'; simp [Addr.add]
        case c2 => intro u hu; simp at hu; subst hu; rfl
        case c3 => unfold maxLen; omega
        case c4 => omega
        case c5 => simp; omega
        intro v' w1 hown2 hgrow _
        have hO : Own w1 w.heap.size v' (L ++ [Z]) := by refine Own.push ?_; rw [hL]; exact hown2
        have hK2 : Kp w w1 := (hkp.alloc _).grown hgrow hob
        clear hown2 hgrow hown' hkp hob hsz
        go_wp2
        exact ⟨⟨_, k + 1, C', _, rfl, by go_num, by go_num, hO, hK2, by simp [hL], hWL, hC', hst, by omega⟩, by simp [intOf]; omega⟩
      · have hv2 : val (L ++ [(C : Int)]) = val xs + val ys := by
          rw [List.take_of_length_le (by omega), List.take_of_length_le (by omega)] at hv
          rw [val_append, hL]
          simp only [val, Int.toNat_natCast, Nat.mul_zero, Nat.add_zero]
          rw [Nat.mul_comm]; exact hv
        have hWL : Wd (L ++ [(C : Int)]) := hw.append (Wd.one (by omega))
        have hob := own_block hown
        have hown' : wr.ownsRow w.heap.size 107 1 v k (L.map (Value.int .u32)) := by rw [← hL]; exact hown
        have hsz := hkp.size
        have f6 : IntKind.u32.wrap (C : Int) = (C : Int) := by rw [IntKind.wrap_u32]; omega
        have hkb : k < 1099511627776 := by omega
        clear HX HY HW HN hN hM hv hown hw hC
        go_wp2_with (first | (at_builtin; refine wpList_append_own _ rfl _ _ 46 rfl w.heap.size 107 i0 (.int .u32 0) 1 4 Tryz.underlying46 hi0 hi1 hi2 hi3 rfl (by decide) _ _ _ rfl (hown'.alloc _) ⟨wr.heap.size, 0, none⟩ 1 1 [.int .u32 (C : Int)] rfl rfl ?c1 ?c2 ?c3 ?c4 ?c5 ?_))
        case c1 =>
          intro j' u hj'
          match j', hj' with
          | 0, hj' => simp at hj'; subst hj'; simp [Addr.add]
        case c2 => intro u hu; simp at hu; subst hu; rfl
        case c3 => unfold maxLen; omega
        case c4 => omega
        case c5 => simp; omega
        intro v' w1 hown2 hgrow _
        have hO : Own w1 w.heap.size v' (L ++ [(C : Int)]) := by refine Own.push ?_; rw [hL]; exact hown2
        have hK2 : Kp w w1 := (hkp.alloc _).grown hgrow hob
        have hll : (L ++ [(C : Int)]).length ≤ 1099511627776 := by simp [hL]; omega
        clear hown2 hgrow hown' hkp hob hsz
        obtain ⟨p', c', rfl, hA, _⟩ := hO.arr
        have hno := rnorm_ p' c' (L ++ [(C : Int)]) w1 hA hll
        obtain ⟨LL, hLL⟩ : ∃ LL, LL = L ++ [(C : Int)] := ⟨_, rfl⟩
        rw [← hLL] at hno hv2 hWL hA hll
        have hl2 : (L ++ [(C : Int)]).length = LL.length := by rw [hLL]
        clear hO hLL
        go_wp2_with fail
        refine hno.mono ?_
        rintro e w2 ⟨v2, rfl, hO2, hk2⟩
        clear hno hA f6
        go_wp2
        exact bodyPost_ret (v := v2) (by simp [results, Tryz.results117, go_sem] <;> simp only [*]) rfl ⟨v2, LL, rfl, hO2.mono hK2.size, hWL, hv2, hll, hK2.trans hk2⟩
set_option maxRecDepth 20000 in
set_option maxHeartbeats 3000000 in
theorem rminus_ (p q : Option Addr) (c d : Nat) (xs ys : List Int) (w : World) (hx : Arr w p xs) (hy : Arr w q ys) (hwx : Wd xs) (hwy : Wd ys) (lx : xs.length < 1099511627776) (hl : ys.length ≤ xs.length) (hle : val ys ≤ val xs) :
    Calls Tryz.prog 118 #[.slice p xs.length c, .slice q ys.length d] w fun e w' => ∃ v, e = .returned v ∧ Own w' w.heap.size v (dig (val xs - val ys)) ∧ Kp w w' := by
  obtain ⟨N, hN⟩ : ∃ N, N = xs.length := ⟨_, rfl⟩
  obtain ⟨M, hM⟩ : ∃ M, M = ys.length := ⟨_, rfl⟩
  rw [← hN] at lx hl ⊢
  rw [← hM] at hl ⊢
  have HX : Hid (Arr w p xs) := hx
  have HY : Hid (Arr w q ys) := hy
  have HW : Hid (Wd xs ∧ Wd ys ∧ val ys ≤ val xs) := ⟨hwx, hwy, hle⟩
  have HN : Hid (N = xs.length ∧ M = ys.length ∧ N < 1099511627776 ∧ M ≤ N) := ⟨hN, hM, lx, hl⟩
  obtain ⟨i0, hi0, hi1, hi2, hi3⟩ := inf32p
  clear hN hM hx hy hwx hwy lx hl hle
  go_enter Tryz.func118, Tryz.ntmps118
  go_wp2
  go_loopw [5, 6, 7] (fun a cc i wr => ∃ (v : Value) (k C : Nat) (L : List Int), v = a ∧ cc = .int .u64 C ∧ i = .int .i64 k ∧ Own wr w.heap.size v L ∧ Kp w wr ∧ L.length = k ∧ Wd L ∧ C ≤ 1 ∧ val L + val (ys.take k) = val (xs.take k) + C * 4294967296 ^ k ∧ k ≤ N) (fun _ _ i _ => N - (intOf i).toNat)
  case atStart => exact ⟨_, 0, 0, [], rfl, rfl, rfl, Own.nil _ _, Kp.refl _, rfl, Wd.nil, by omega, by simp [val], by omega⟩
  case round =>
    obtain ⟨v, k, C, L, rfl, rfl, rfl, hown, hkp, hL, hw, hC, hv, hk⟩ := hrel
    obtain ⟨hN, hM, lx, hl⟩ := HN.out
    by_cases ca : k < N
    · by_cases cb : k < M
      · skip
        obtain ⟨b, off, rfl, hc⟩ := HX.out.at (k := k) (by omega)
        have e1 := kkeep hkp (hc k (by omega))
        obtain ⟨b', off', rfl, hc'⟩ := HY.out.at (k := k) (by omega)
        have e2 := kkeep hkp (hc' k (by omega))
        have wx := HW.out.1 k
        have wy := HW.out.2.1 k
        obtain ⟨X, hX⟩ : ∃ X, X = xs.getD k 0 := ⟨_, rfl⟩
        obtain ⟨Y, hY⟩ : ∃ Y, Y = ys.getD k 0 := ⟨_, rfl⟩
        have hst := fun (C' Z : Nat) h => minus_step L xs ys k C C' Z hL h hv
        rw [← hX, ← hY] at hst
        rw [← hX] at wx e1
        rw [← hY] at wy e2
        have f1 : IntKind.u64.wrap X = X := by rw [IntKind.wrap_u64]; omega
        obtain ⟨T, hT⟩ : ∃ T : Int, T = Y + (C : Int) := ⟨_, rfl⟩
        have f2 : IntKind.u64.wrap Y = Y := by rw [IntKind.wrap_u64]; omega
        have f3 : IntKind.u64.wrap ((C : Int) + Y) = T := by rw [IntKind.wrap_u64]; omega
        by_cases ct : X < T
        · skip
          obtain ⟨Z, hZ⟩ : ∃ Z : Nat, Z = (X + 4294967296 - T).toNat := ⟨_, rfl⟩
          have f4 : IntKind.u64.wrap (X + 4294967296) = X + 4294967296 := by rw [IntKind.wrap_u64]; omega
          have f5 : IntKind.u64.wrap (X + 4294967296 - T) = (Z : Int) := by rw [IntKind.wrap_u64]; omega
          have hs2 := hst 1 Z (by omega)
          have f6 : IntKind.u32.wrap (Z : Int) = (Z : Int) := by rw [IntKind.wrap_u32]; omega
          have hWL : Wd (L ++ [(Z : Int)]) := hw.append (Wd.one (by omega))
          have hob := own_block hown
          have hown' : wr.ownsRow w.heap.size 107 1 v k (L.map (Value.int .u32)) := by rw [← hL]; exact hown
          have hsz := hkp.size
          have hkb : k < 1099511627776 := by omega
          have j0 : (0 : Int) ≤ (k : Int) := by omega
          have j1 : (k : Int) < (N : Int) := by omega
          have j2 : ((k : Int) < (M : Int)) := by omega
          clear ca cb
          clear hc hc' HX HY HW HN hN hM hX hY hv hZ hT hown wx wy hw hC hst
          go_wp2_with (first | (at_builtin; refine wpList_append_own _ rfl _ _ 46 rfl w.heap.size 107 i0 (.int .u32 0) 1 4 Tryz.underlying46 hi0 hi1 hi2 hi3 rfl (by decide) _ _ _ rfl (hown'.alloc _) ⟨wr.heap.size, 0, none⟩ 1 1 [.int .u32 (Z : Int)] rfl rfl ?c1f0 ?c2f0 ?c3f0 ?c4f0 ?c5f0 ?_))
          try case c1f0 =>
            intro j' u hj'
            match j', hj' with
            | 0, hj' => simp at hj'; subst hj'; simp [Addr.add]
          case c2f0 => first | rfl | (intro u hu; simp at hu; subst hu; rfl)
          case c3f0 => unfold maxLen; omega
          case c4f0 => omega
          case c5f0 => first | omega | (simp; omega)
          intro v' w1 hown2 hgrow _
          have hO : Own w1 w.heap.size v' (L ++ [(Z : Int)]) := by refine Own.push ?_; rw [hL]; exact hown2
          have hK2 : Kp w w1 := (hkp.alloc _).grown hgrow hob
          clear hown2 hgrow hown' hkp hob hsz
          go_wp2
          exact ⟨⟨_, k + 1, 1, _, rfl, rfl, by go_num, hO, hK2, by simp [hL], hWL, by omega, hs2, by omega⟩, by simp [intOf]; omega⟩
        · skip
          obtain ⟨Z, hZ⟩ : ∃ Z : Nat, Z = (X - T).toNat := ⟨_, rfl⟩
          have f5 : IntKind.u64.wrap (X - T) = (Z : Int) := by rw [IntKind.wrap_u64]; omega
          have hs2 := hst 0 Z (by omega)
          have f6 : IntKind.u32.wrap (Z : Int) = (Z : Int) := by rw [IntKind.wrap_u32]; omega
          have hWL : Wd (L ++ [(Z : Int)]) := hw.append (Wd.one (by omega))
          have hob := own_block hown
          have hown' : wr.ownsRow w.heap.size 107 1 v k (L.map (Value.int .u32)) := by rw [← hL]; exact hown
          have hsz := hkp.size
          have hkb : k < 1099511627776 := by omega
          have j0 : (0 : Int) ≤ (k : Int) := by omega
          have j1 : (k : Int) < (N : Int) := by omega
          have j2 : ((k : Int) < (M : Int)) := by omega
          clear ca cb
          clear hc hc' HX HY HW HN hN hM hX hY hv hZ hT hown wx wy hw hC hst
          go_wp2_with (first | (at_builtin; refine wpList_append_own _ rfl _ _ 46 rfl w.heap.size 107 i0 (.int .u32 0) 1 4 Tryz.underlying46 hi0 hi1 hi2 hi3 rfl (by decide) _ _ _ rfl (hown'.alloc _) ⟨wr.heap.size, 0, none⟩ 1 1 [.int .u32 (Z : Int)] rfl rfl ?c1f1 ?c2f1 ?c3f1 ?c4f1 ?c5f1 ?_))
          try case c1f1 =>
            intro j' u hj'
            match j', hj' with
            | 0, hj' => simp at hj'; subst hj'; simp [Addr.add]
          case c2f1 => first | rfl | (intro u hu; simp at hu; subst hu; rfl)
          case c3f1 => unfold maxLen; omega
          case c4f1 => omega
          case c5f1 => first | omega | (simp; omega)
          intro v' w1 hown2 hgrow _
          have hO : Own w1 w.heap.size v' (L ++ [(Z : Int)]) := by refine Own.push ?_; rw [hL]; exact hown2
          have hK2 : Kp w w1 := (hkp.alloc _).grown hgrow hob
          clear hown2 hgrow hown' hkp hob hsz
          go_wp2
          exact ⟨⟨_, k + 1, 0, _, rfl, rfl, by go_num, hO, hK2, by simp [hL], hWL, by omega, hs2, by omega⟩, by simp [intOf]; omega⟩
      · skip
        obtain ⟨b, off, rfl, hc⟩ := HX.out.at (k := k) (by omega)
        have e1 := kkeep hkp (hc k (by omega))
        have wx := HW.out.1 k
        have wy := HW.out.2.1 k
        have hy0 : ys.getD k 0 = 0 := getD_out ys k (by omega)
        obtain ⟨X, hX⟩ : ∃ X, X = xs.getD k 0 := ⟨_, rfl⟩
        obtain ⟨Y, hY⟩ : ∃ Y, Y = ys.getD k 0 := ⟨_, rfl⟩
        have hst := fun (C' Z : Nat) h => minus_step L xs ys k C C' Z hL h hv
        rw [← hX, ← hY] at hst
        rw [← hX] at wx e1
        rw [← hY] at wy hy0
        have f1 : IntKind.u64.wrap X = X := by rw [IntKind.wrap_u64]; omega
        by_cases ct : X < (C : Int)
        · skip
          obtain ⟨Z, hZ⟩ : ∃ Z : Nat, Z = (X + 4294967296 - (C : Int)).toNat := ⟨_, rfl⟩
          have f4 : IntKind.u64.wrap (X + 4294967296) = X + 4294967296 := by rw [IntKind.wrap_u64]; omega
          have f5 : IntKind.u64.wrap (X + 4294967296 - (C : Int)) = (Z : Int) := by rw [IntKind.wrap_u64]; omega
          have hs2 := hst 1 Z (by omega)
          have f6 : IntKind.u32.wrap (Z : Int) = (Z : Int) := by rw [IntKind.wrap_u32]; omega
          have hWL : Wd (L ++ [(Z : Int)]) := hw.append (Wd.one (by omega))
          have hob := own_block hown
          have hown' : wr.ownsRow w.heap.size 107 1 v k (L.map (Value.int .u32)) := by rw [← hL]; exact hown
          have hsz := hkp.size
          have hkb : k < 1099511627776 := by omega
          have j0 : (0 : Int) ≤ (k : Int) := by omega
          have j1 : (k : Int) < (N : Int) := by omega
          have j2 : ¬ ((k : Int) < (M : Int)) := by omega
          clear ca cb
          clear hc hy0 HX HY HW HN hN hM hX hY hv hZ hown wx wy hw hC hst
          go_wp2_with (first | (at_builtin; refine wpList_append_own _ rfl _ _ 46 rfl w.heap.size 107 i0 (.int .u32 0) 1 4 Tryz.underlying46 hi0 hi1 hi2 hi3 rfl (by decide) _ _ _ rfl (hown'.alloc _) ⟨wr.heap.size, 0, none⟩ 1 1 [.int .u32 (Z : Int)] rfl rfl ?c1g0 ?c2g0 ?c3g0 ?c4g0 ?c5g0 ?_))
          try case c1g0 =>
            intro j' u hj'
            match j', hj' with
            | 0, hj' => simp at hj'; subst hj'; simp [Addr.add]
          case c2g0 => first | rfl | (intro u hu; simp at hu; subst hu; rfl)
          case c3g0 => unfold maxLen; omega
          case c4g0 => omega
          case c5g0 => first | omega | (simp; omega)
          intro v' w1 hown2 hgrow _
          have hO : Own w1 w.heap.size v' (L ++ [(Z : Int)]) := by refine Own.push ?_; rw [hL]; exact hown2
          have hK2 : Kp w w1 := (hkp.alloc _).grown hgrow hob
          clear hown2 hgrow hown' hkp hob hsz
          go_wp2
          exact ⟨⟨_, k + 1, 1, _, rfl, rfl, by go_num, hO, hK2, by simp [hL], hWL, by omega, hs2, by omega⟩, by simp [intOf]; omega⟩
        · skip
          obtain ⟨Z, hZ⟩ : ∃ Z : Nat, Z = (X - (C : Int)).toNat := ⟨_, rfl⟩
          have f5 : IntKind.u64.wrap (X - (C : Int)) = (Z : Int) := by rw [IntKind.wrap_u64]; omega
          have hs2 := hst 0 Z (by omega)
          have f6 : IntKind.u32.wrap (Z : Int) = (Z : Int) := by rw [IntKind.wrap_u32]; omega
          have hWL : Wd (L ++ [(Z : Int)]) := hw.append (Wd.one (by omega))
          have hob := own_block hown
          have hown' : wr.ownsRow w.heap.size 107 1 v k (L.map (Value.int .u32)) := by rw [← hL]; exact hown
          have hsz := hkp.size
          have hkb : k < 1099511627776 := by omega
          have j0 : (0 : Int) ≤ (k : Int) := by omega
          have j1 : (k : Int) < (N : Int) := by omega
          have j2 : ¬ ((k : Int) < (M : Int)) := by omega
          clear ca cb
          clear hc hy0 HX HY HW HN hN hM hX hY hv hZ hown wx wy hw hC hst
          go_wp2_with (first | (at_builtin; refine wpList_append_own _ rfl _ _ 46 rfl w.heap.size 107 i0 (.int .u32 0) 1 4 Tryz.underlying46 hi0 hi1 hi2 hi3 rfl (by decide) _ _ _ rfl (hown'.alloc _) ⟨wr.heap.size, 0, none⟩ 1 1 [.int .u32 (Z : Int)] rfl rfl ?c1g1 ?c2g1 ?c3g1 ?c4g1 ?c5g1 ?_))
          try case c1g1 =>
            intro j' u hj'
            match j', hj' with
            | 0, hj' => simp at hj'; subst hj'; simp [Addr.add]
          case c2g1 => first | rfl | (intro u hu; simp at hu; subst hu; rfl)
          case c3g1 => unfold maxLen; omega
          case c4g1 => omega
          case c5g1 => first | omega | (simp; omega)
          intro v' w1 hown2 hgrow _
          have hO : Own w1 w.heap.size v' (L ++ [(Z : Int)]) := by refine Own.push ?_; rw [hL]; exact hown2
          have hK2 : Kp w w1 := (hkp.alloc _).grown hgrow hob
          clear hown2 hgrow hown' hkp hob hsz
          go_wp2
          exact ⟨⟨_, k + 1, 0, _, rfl, rfl, by go_num, hO, hK2, by simp [hL], hWL, by omega, hs2, by omega⟩, by simp [intOf]; omega⟩
    · have hkN : k = N := by omega
      have hv2 : val L = val xs - val ys := by
        rw [List.take_of_length_le (by omega), List.take_of_length_le (by omega)] at hv
        have := minus_end L xs ys C k hL hw HW.out.2.2 hv hC
        subst this
        omega
      have hLl : L.length ≤ 1099511627776 := by omega
      obtain ⟨p', c', rfl, hA, _⟩ := hown.arr
      have hno := rnorm_ p' c' L wr hA hLl
      rw [nz_dig L hw, hv2] at hno
      obtain ⟨D, hD⟩ : ∃ D, D = L.length := ⟨_, rfl⟩
      rw [← hD] at hno ⊢
      have i2 : ¬ ((k : Int) < (N : Int)) := by omega
      clear HX HY HW HN hN hM hv hown hw hC hA hv2 hL hLl hD hkN ca lx hl
      go_wp2_with fail
      refine hno.mono ?_
      rintro e w2 ⟨v2, rfl, hO2, hk2⟩
      clear hno
      go_wp2
      exact bodyPost_ret (v := v2) (by simp [results, Tryz.results118, go_sem] <;> simp only [*]) rfl ⟨v2, rfl, hO2.mono hkp.size, hkp.trans hk2⟩
end Go.Proofs.YtinohggonicjhaaGreatDoor
