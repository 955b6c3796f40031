import Derived.Test.YtokhnokobkmmkaaGreatDoorKBY
namespace Go.Proofs.YtokhnokobkmmkaaGreatDoor
open Go.RowKit
theorem row2 (w : World) (x y : Int) : Rw (w.alloc (.cells #[.int .u32 x, .int .u32 y] 110)) w.heap.size 2 [x, y] := by
  have := World.rowIs_alloc w #[.int .u32 x, .int .u32 y] 110 (fun i => .int .u32 ([x, y].getD i 0)) (fun i hi => by
    have h : i = 0 ∨ i = 1 := by simp at hi; omega
    rcases h with rfl | rfl <;> rfl)
  exact this
theorem row1 (w : World) (x : Int) : Rw (w.alloc (.cells #[.int .u32 x] 110)) w.heap.size 1 [x] := by
  have := World.rowIs_alloc w #[.int .u32 x] 110 (fun i => .int .u32 ([x].getD i 0)) (fun i hi => by
    have h : i = 0 := by simp at hi; omega
    rcases h with rfl; rfl)
  exact this
theorem own1 (w : World) : Own (w.alloc (.cells #[.int .u32 1] 110)) w.heap.size (.slice (some ⟨w.heap.size, 0, none⟩) 1 1) [1] :=
  Own.of_row (row1 w 1) (Nat.le_refl _) (Nat.le_refl _) rfl (by unfold maxLen; omega)
set_option maxRecDepth 20000 in
set_option maxHeartbeats 1000000 in
theorem nsmall_ (v : Nat) (hv : v < 18446744073709551616) (w : World) :
    Calls Tryz.prog 65 #[.int .u64 (v : Int)] w fun e w' => ∃ r, e = .returned r ∧ Own w' w.heap.size r (dig v) ∧ Kp w w' := by
  obtain ⟨lo, hlo⟩ : ∃ lo : Nat, lo = v % 4294967296 := ⟨_, rfl⟩
  obtain ⟨hi, hhi⟩ : ∃ hi : Nat, hi = v / 4294967296 := ⟨_, rfl⟩
  have f1 : IntKind.u32.wrap (v : Int) = (lo : Int) := by rw [IntKind.wrap_u32]; omega
  have f2 : (v : Int) / 4294967296 = (hi : Int) := by omega
  have f3 : IntKind.u32.wrap (hi : Int) = (hi : Int) := by rw [IntKind.wrap_u32]; omega
  have hw : Wd [(lo : Int), (hi : Int)] := Wd.mk (by omega) (Wd.mk (by omega) Wd.nil)
  have hval : val [(lo : Int), (hi : Int)] = v := by simp [val]; omega
  have hr := row2 w (lo : Int) (hi : Int)
  have htr := trim_ (some ⟨w.heap.size, 0, none⟩) 2 [(lo : Int), (hi : Int)] _ (by simpa using hr.arr 2 (Nat.le_refl _) (by simp)) (by simp) (by simp)
  have hO : Own (w.alloc (.cells #[.int .u32 (lo : Int), .int .u32 (hi : Int)] 110)) w.heap.size (.slice (some ⟨w.heap.size, 0, none⟩) (tl [(lo : Int), (hi : Int)]) 2) (dig v) := by
    have h1 := Own.of_row (base := w.heap.size) (k := tl [(lo : Int), (hi : Int)]) hr (Nat.le_refl _) (tl_le _) rfl (by unfold maxLen; omega)
    have h2 : [(lo : Int), (hi : Int)].take (tl [(lo : Int), (hi : Int)]) = dig v := by rw [← hval, ← nz_dig _ hw]; rfl
    rw [h2] at h1
    exact h1
  have hk : Kp w (w.alloc (.cells #[.int .u32 (lo : Int), .int .u32 (hi : Int)] 110)) := (Kp.refl w).alloc _
  obtain ⟨T, hT⟩ : ∃ T, T = tl [(lo : Int), (hi : Int)] := ⟨_, rfl⟩
  rw [← hT] at htr hO
  have htr2 : Calls Tryz.prog 100 #[.slice (some ⟨w.heap.size, 0, none⟩) 2 2] (w.alloc (.cells #[.int .u32 (lo : Int), .int .u32 (hi : Int)] 110)) fun e w' => e = .returned (.slice (some ⟨w.heap.size, 0, none⟩) T 2) ∧ w' = w.alloc (.cells #[.int .u32 (lo : Int), .int .u32 (hi : Int)] 110) := htr
  clear htr hT hval hw hlo hhi hv hr
  go_enter Tryz.func65, Tryz.ntmps65
  go_wp2_with fail
  refine htr2.mono ?_; rintro e w' ⟨rfl, hw'⟩; subst hw'
  clear htr2
  go_wp2
  exact bodyPost_ret (v := .slice (some ⟨w.heap.size, 0, none⟩) T 2) (by simp [results, Tryz.results65, go_sem] <;> simp only [*]) rfl ⟨_, rfl, hO, hk⟩
set_option maxRecDepth 20000 in
set_option maxHeartbeats 1000000 in
theorem rsmall_ (v : Nat) (hv : v < 18446744073709551616) (w : World) :
    Calls Tryz.prog 92 #[.int .u64 (v : Int)] w fun e w' => ∃ r, e = .returned r ∧ Own w' w.heap.size r (dig v) ∧ Kp w w' := by
  have f0 := and32 v hv
  obtain ⟨lo, hlo⟩ : ∃ lo : Nat, lo = v % 4294967296 := ⟨_, rfl⟩
  obtain ⟨hi, hhi⟩ : ∃ hi : Nat, hi = v / 4294967296 := ⟨_, rfl⟩
  rw [← hlo] at f0
  have f1 : IntKind.u32.wrap (lo : Int) = (lo : Int) := by rw [IntKind.wrap_u32]; omega
  have f2 : (v : Int) / 4294967296 = (hi : Int) := by omega
  have f3 : IntKind.u32.wrap (hi : Int) = (hi : Int) := by rw [IntKind.wrap_u32]; omega
  have hw : Wd [(lo : Int), (hi : Int)] := Wd.mk (by omega) (Wd.mk (by omega) Wd.nil)
  have hval : val [(lo : Int), (hi : Int)] = v := by simp [val]; omega
  have hr := row2 w (lo : Int) (hi : Int)
  have hk : Kp w (w.alloc (.cells #[.int .u32 (lo : Int), .int .u32 (hi : Int)] 110)) := (Kp.refl w).alloc _
  have hno := rnorm_ (some ⟨w.heap.size, 0, none⟩) 2 [(lo : Int), (hi : Int)] _ (by simpa using hr.arr 2 (Nat.le_refl _) (by simp)) (by simp)
  rw [nz_dig _ hw, hval] at hno
  obtain ⟨Z, hZ⟩ : ∃ Z, Z = dig v := ⟨_, rfl⟩
  rw [← hZ] at hno ⊢
  have hno2 : Calls Tryz.prog 111 #[.slice (some ⟨w.heap.size, 0, none⟩) 2 2] (w.alloc (.cells #[.int .u32 (lo : Int), .int .u32 (hi : Int)] 110)) fun e w' => ∃ v, e = .returned v ∧ Own w' (w.alloc (.cells #[.int .u32 (lo : Int), .int .u32 (hi : Int)] 110)).heap.size v Z ∧ Kp (w.alloc (.cells #[.int .u32 (lo : Int), .int .u32 (hi : Int)] 110)) w' := hno
  clear hno hZ hval hw hlo hhi hv hr
  go_enter Tryz.func92, Tryz.ntmps92
  go_wp2_with fail
  refine hno2.mono ?_; rintro e w1 ⟨r, rfl, hO, hk2⟩
  have hO2 := hO.mono hk.size
  have hk3 := hk.trans hk2
  clear hno2 hO hk hk2
  go_wp2
  exact bodyPost_ret (v := r) (by simp [results, Tryz.results92, go_sem] <;> simp only [*]) rfl ⟨_, rfl, hO2, hk3⟩
set_option maxRecDepth 20000 in
set_option maxHeartbeats 1000000 in
theorem lowest_ (p : Option Addr) (c : Nat) (xs : List Int) (w : World) (hx : Arr w p xs) (hwx : Wd xs) (lx : xs.length ≤ 2) :
    Calls Tryz.prog 124 #[.slice p xs.length c] w fun e w' => e = .returned (.int .u64 (val xs : Nat)) ∧ w' = w := by
  obtain ⟨N, hN⟩ : ∃ N, N = xs.length := ⟨_, rfl⟩
  have HX : Hid (Arr w p xs ∧ Wd xs ∧ N = xs.length) := ⟨hx, hwx, hN⟩
  have hmin : min (N : Int) 2 = (N : Int) := by omega
  have hN2 : N ≤ 2 := by omega
  rw [← hN]
  clear hx hwx lx hN
  go_enter Tryz.func124, Tryz.ntmps124
  go_wp2
  go_loop [3, 8] (fun v i => ∃ k : Nat, i = .int .i64 k ∧ k ≤ N ∧ v = .int .u64 (val (xs.take k) : Nat)) (fun _ i => N - (intOf i).toNat)
  case atStart => exact ⟨0, rfl, Nat.zero_le _, by simp [val]⟩
  case round =>
    obtain ⟨k, rfl, hk, rfl⟩ := hrel
    obtain ⟨hx, hwx, hN⟩ := HX.out
    by_cases ck : k < N
    · obtain ⟨b, off, rfl, hc⟩ := hx.at (k := k) (by omega)
      have e1 := hc k (by omega)
      have wx := hwx k
      have hst := val_take_succ xs k
      have hlt := val_two xs hwx (by omega) (k + 1)
      have hlk := val_take_lt xs hwx k
      obtain ⟨X, hX⟩ : ∃ X : Nat, (X : Int) = xs.getD k 0 := ⟨(xs.getD k 0).toNat, by omega⟩
      rw [← hX] at e1 hst
      rw [Int.toNat_natCast] at hst
      obtain ⟨V, hV⟩ : ∃ V, V = val (xs.take k) := ⟨_, rfl⟩
      obtain ⟨V', hV'⟩ : ∃ V', V' = val (xs.take (k + 1)) := ⟨_, rfl⟩
      rw [← hV] at hst hlk ⊢
      rw [← hV'] at hst hlt
      have HG : Hid (V' = val (xs.take (k + 1))) := hV'
      have f0 : IntKind.u64.wrap (X : Int) = (X : Int) := by rw [IntKind.wrap_u64]; omega
      have i0 : (0 : Int) ≤ (k : Int) := by omega
      have i1 : (k : Int) < (N : Int) := by omega
      have hX32 : X < 4294967296 := by omega
      clear hx hwx hN hc wx hX hV hV' HX
      rcases (by omega : k = 0 ∨ k = 1) with rfl | rfl
      · have hV0 : V = 0 := by simpa using hlk
        subst hV0
        have hX' : V' = X := by simpa using hst
        subst hX'
        have f2 : bits BinOp.or IntKind.u64 0 (V' : Int) = (V' : Int) := by
          have := bits_or_u64_nat 0 V' (by omega) (by omega)
          simpa using this
        rw [Nat.add_zero] at e1
        clear hst hlt hlk
        go_wp2
        exact ⟨⟨1, by go_num, by omega, by rw [← HG.out]⟩, by simp [intOf]; omega⟩
      · have f1 : IntKind.u64.wrap ((X : Int) * 4294967296) = ((X * 4294967296 : Nat) : Int) := by rw [IntKind.wrap_u64]; omega
        have hor := or_low V X 32 (by simpa using hlk)
        have f2 := bits_or_u64_nat V (X * 4294967296) (by omega) (by omega)
        have e2 : V ||| X * 4294967296 = V' := by
          have e3 : V + X * 4294967296 = V' := by omega
          rw [← e3]; exact hor
        rw [e2] at f2
        obtain ⟨Y, hY⟩ : ∃ Y : Nat, Y = X * 4294967296 := ⟨_, rfl⟩
        rw [← hY] at f1 f2
        clear hst hlt hlk hor e2 hY
        go_wp2
        exact ⟨⟨2, by go_num, by omega, by rw [← HG.out]⟩, by simp [intOf]; omega⟩
    · have hkN : k = N := by omega
      subst hkN
      rw [hN, List.take_length]
      obtain ⟨V, hV⟩ : ∃ V, V = val xs := ⟨_, rfl⟩
      rw [← hV]
      have i1 : ¬ ((k : Int) < (k : Int)) := by omega
      have HV : Hid (V = val xs) := hV
      clear HX hx hwx hN hV
      go_wp2
      exact bodyPost_ret (v := .int .u64 (V : Int)) (by simp [results, Tryz.results124, go_sem] <;> simp only [*]) rfl ⟨by rw [HV.out], rfl⟩
set_option maxRecDepth 20000 in
set_option maxHeartbeats 1000000 in
theorem nword_ (p : Option Addr) (c : Nat) (xs : List Int) (w : World) (hx : Arr w p xs) (hwx : Wd xs) (lx : xs.length ≤ 16777216) (hc : xs.length ≤ c) :
    Calls Tryz.prog 104 #[.slice p xs.length c] w fun e w' => e = .returned (.tuple #[.int .u64 ((wordN (val xs)).1 : Nat), .bool (wordN (val xs)).2]) ∧ w' = w := by
  have h1 := trim_ p c xs w hx (by omega) hc
  have e1 := tl_len xs hwx
  have h2 : tl xs ≤ 2 → Calls Tryz.prog 124 #[.slice p (tl xs) c] w fun e w' => e = .returned (.int .u64 (val xs : Nat)) ∧ w' = w := fun h => by
    have := lowest_ p c (nz xs) w (hx.take _) (hwx.take _) (by rw [nz_length]; exact h)
    rw [nz_length, val_nz] at this
    exact this
  obtain ⟨a, ha⟩ : ∃ a, a = val xs := ⟨_, rfl⟩
  obtain ⟨N, hN⟩ : ∃ N, N = xs.length := ⟨_, rfl⟩
  obtain ⟨S, hS⟩ : ∃ S, S = tl xs := ⟨_, rfl⟩
  rw [← ha] at e1 h2 ⊢
  rw [← hN, ← hS] at h1
  rw [← hS] at e1 h2
  rw [← hN]
  clear hx hwx lx hc ha hN hS
  by_cases cs : 2 < S
  · have e2 : wordN a = (0, false) := by unfold wordN; rw [if_pos (by omega)]
    rw [e2]
    have t1 : (2 : Int) < (S : Int) := by omega
    clear h2 e1 e2 cs
    go_enter Tryz.func104, Tryz.ntmps104
    go_wp2_with fail
    refine h1.mono ?_; rintro e w' ⟨rfl, hw'⟩; obtain rfl := hw'.symm
    go_wp2
    exact bodyPost_ret (v := .tuple #[.int .u64 0, .bool false]) (by simp [results, Tryz.results104, go_sem] <;> simp only [*]) rfl ⟨rfl, rfl⟩
  · have e2 : wordN a = (a, true) := by unfold wordN; rw [if_neg (by omega)]
    rw [e2]
    have t1 : ¬ ((2 : Int) < (S : Int)) := by omega
    have h3 := h2 (by omega)
    clear h2 e1 e2 cs
    go_enter Tryz.func104, Tryz.ntmps104
    go_wp2_with fail
    refine h1.mono ?_; rintro e w' ⟨rfl, hw'⟩; obtain rfl := hw'.symm
    go_wp2_with fail
    refine h3.mono ?_; rintro e w' ⟨rfl, hw'⟩; obtain rfl := hw'.symm
    go_wp2
    exact bodyPost_ret (v := .tuple #[.int .u64 (a : Int), .bool true]) (by simp [results, Tryz.results104, go_sem] <;> simp only [*]) rfl ⟨rfl, rfl⟩
set_option maxRecDepth 20000 in
set_option maxHeartbeats 1000000 in
theorem rword_ (p : Option Addr) (c : Nat) (xs : List Int) (w : World) (hx : Arr w p xs) (hwx : Wd xs) (lx : xs.length ≤ 16777216) :
    Calls Tryz.prog 89 #[.slice p xs.length c] w fun e w' => e = .returned (.tuple #[.int .u64 ((wordN (val xs)).1 : Nat), .bool (wordN (val xs)).2]) ∧ w' = w := by
  have h1 := words_ p c xs w hx (by omega)
  have e1 := tl_len xs hwx
  have lS := tl_le xs
  have hv0 : val ((nz xs).drop 0) = val xs := by rw [List.drop_zero, val_nz]
  have hnl := nz_length xs
  have hg : ∀ k, k < tl xs → (nz xs).getD k 0 = xs.getD k 0 := fun k hk => by unfold nz; simp [List.getD, hk]
  obtain ⟨zs, hzs⟩ : ∃ zs, zs = nz xs := ⟨_, rfl⟩
  have hwz : Wd zs := by rw [hzs]; exact hwx.take _
  rw [← hzs] at hv0 hnl hg
  obtain ⟨a, ha⟩ : ∃ a, a = val xs := ⟨_, rfl⟩
  obtain ⟨N, hN⟩ : ∃ N, N = xs.length := ⟨_, rfl⟩
  obtain ⟨S, hS⟩ : ∃ S, S = tl xs := ⟨_, rfl⟩
  rw [← ha] at e1 hv0 ⊢
  rw [← hN, ← hS] at h1
  rw [← hS] at e1 hnl hg lS
  rw [← hN] at lS ⊢
  have HX : Hid (Arr w p xs ∧ Wd zs ∧ N = xs.length ∧ zs.length = S ∧ val (zs.drop 0) = a ∧ (∀ k, k < S → zs.getD k 0 = xs.getD k 0)) := ⟨hx, hwz, hN, hnl, hv0, hg⟩
  clear hx hwx lx ha hN hS hzs hwz hnl hv0 hg
  by_cases cs : 2 < S
  · have e2 : wordN a = (0, false) := by unfold wordN; rw [if_pos (by omega)]
    rw [e2]
    have t1 : (2 : Int) < (S : Int) := by omega
    clear e1 e2 cs HX lS
    go_enter Tryz.func89, Tryz.ntmps89
    go_wp2_with fail
    refine h1.mono ?_; rintro e w' ⟨rfl, hw'⟩; obtain rfl := hw'.symm
    go_wp2
    exact bodyPost_ret (v := .tuple #[.int .u64 0, .bool false]) (by simp [results, Tryz.results89, go_sem] <;> simp only [*]) rfl ⟨rfl, rfl⟩
  · have e2 : wordN a = (a, true) := by unfold wordN; rw [if_neg (by omega)]
    rw [e2]
    have t1 : ¬ ((2 : Int) < (S : Int)) := by omega
    have hS2 : S ≤ 2 := by omega
    clear e1 e2 cs
    go_enter Tryz.func89, Tryz.ntmps89
    go_wp2_with fail
    refine h1.mono ?_; rintro e w' ⟨rfl, hw'⟩; obtain rfl := hw'.symm
    clear h1
    go_wp2
    clear t1
    go_loop [5, 6] (fun v i => ∃ (k : Nat) (z : Int), z = (k : Int) - 1 ∧ i = .int .i64 z ∧ k ≤ S ∧ v = .int .u64 (val (zs.drop k) : Nat)) (fun _ i => (intOf i + 1).toNat)
    case atStart => exact ⟨S, _, rfl, by go_num, Nat.le_refl _, by rw [List.drop_of_length_le (by have := HX.out.2.2.2.1; omega)]; rfl⟩
    case round =>
      obtain ⟨k, z, hz, rfl, hk, rfl⟩ := hrel
      obtain ⟨hx, hwz, hN, hnl, hv0, hg⟩ := HX.out
      rcases k with _ | k
      · have hz0 : z = -1 := by omega
        subst hz0
        rw [hv0]
        clear hz HX hx hwz hN hnl hv0 hg hk
        go_wp2
        exact bodyPost_ret (v := .tuple #[.int .u64 (a : Int), .bool true]) (by simp [results, Tryz.results89, go_sem] <;> simp only [*]) rfl ⟨rfl, rfl⟩
      · have hz0 : z = (k : Int) := by omega
        subst hz0
        obtain ⟨b, off, rfl, hc⟩ := hx.at (k := k) (by omega)
        have e1 := hc k (by omega)
        rw [← hg k (by omega)] at e1
        have wz := hwz k
        have hd := val_drop zs k (by omega)
        have hlt : val (zs.drop (k + 1)) < 4294967296 := by
          have h1 := val_lt (zs.drop (k + 1)) (fun j => by
            have := hwz (k + 1 + j)
            simpa [List.getD, List.getElem?_drop] using this)
          have h2 : (zs.drop (k + 1)).length ≤ 1 := by rw [List.length_drop]; omega
          exact Nat.lt_of_lt_of_le h1 (Nat.le_trans (Nat.pow_le_pow_right (by omega) h2) (by decide))
        obtain ⟨X, hX⟩ : ∃ X : Nat, (X : Int) = zs.getD k 0 := ⟨(zs.getD k 0).toNat, by omega⟩
        rw [← hX] at e1 hd
        rw [Int.toNat_natCast] at hd
        obtain ⟨V, hV⟩ : ∃ V, V = val (zs.drop (k + 1)) := ⟨_, rfl⟩
        rw [← hV] at hd hlt ⊢
        have HG : Hid (val (zs.drop k) = X + 4294967296 * V) := hd
        have f0 : IntKind.u64.wrap (X : Int) = (X : Int) := by rw [IntKind.wrap_u64]; omega
        have f1 : IntKind.u64.wrap ((V : Int) * 4294967296) = ((V * 4294967296 : Nat) : Int) := by rw [IntKind.wrap_u64]; omega
        have hor := or_low X V 32 (by omega)
        have f2 := bits_or_u64_nat (V * 4294967296) X (by omega) (by omega)
        have e2 : V * 4294967296 ||| X = X + 4294967296 * V := by
          rw [Nat.or_comm, Nat.mul_comm 4294967296]; exact hor
        rw [e2] at f2
        obtain ⟨Y, hY⟩ : ∃ Y : Nat, Y = V * 4294967296 := ⟨_, rfl⟩
        obtain ⟨T, hT⟩ : ∃ T : Nat, T = X + 4294967296 * V := ⟨_, rfl⟩
        rw [← hY] at f1 f2
        rw [← hT] at f2 HG
        have i0 : (0 : Int) ≤ (k : Int) := by omega
        have i1 : (k : Int) < (N : Int) := by omega
        have hk2 : k ≤ S := by omega
        clear hz HX hx hwz hN hnl hv0 hg hc wz hd hX hV hor e2 hY hT hlt hk lS hS2
        go_wp2
        exact ⟨⟨k, _, rfl, by go_num, hk2, by rw [HG.out]⟩, by simp [intOf]⟩
set_option maxRecDepth 20000 in
theorem leftR (v : Value) (a m : Nat) (w : World) (h : Ls w v (dig a)) (l : blen a ≤ 16777216) (hm : m ≤ 16777216) :
    Calls Tryz.prog 85 #[v, .int .i64 (m : Int)] w fun e w' => ∃ v', e = .returned v' ∧ Ls w' v' (dig (a * 2 ^ m)) ∧ Kp w w' := by
  obtain ⟨p, c, rfl, hA, hc⟩ := h
  have h := rleft_ p c m (dig a) w hA (Wd_dig a) (Nat.le_trans (dlen a 524288 (by omega)) (by omega)) hm
  rw [val_dig] at h
  exact h.mono fun e w' ⟨v, h1, h2, h3⟩ => ⟨v, h1, h2.ls, h3⟩
set_option maxRecDepth 20000 in
theorem cmpR (v1 v2 : Value) (a b : Nat) (w : World) (h1 : Ls w v1 (dig a)) (h2 : Ls w v2 (dig b)) (l1 : blen a ≤ 33554432) (l2 : blen b ≤ 33554432) :
    Calls Tryz.prog 84 #[v1, v2] w fun e w' => e = .returned (.int .i64 (cmpN a b)) ∧ Kp w w' := by
  obtain ⟨p, c, rfl, hA, hc⟩ := h1
  obtain ⟨q, d, rfl, hB, hd⟩ := h2
  have e1 := dlen a 1048576 (by omega)
  have e2 := dlen b 1048576 (by omega)
  have h := rcmp_ p q c d (dig a) (dig b) w hA hB (Wd_dig a) (Wd_dig b) (by omega) (by omega)
  rw [val_dig, val_dig] at h
  exact h
set_option maxRecDepth 20000 in
theorem lenR (v : Value) (a : Nat) (w : World) (h : Ls w v (dig a)) (l : blen a ≤ 33554432) :
    Calls Tryz.prog 83 #[v] w fun e w' => e = .returned (.int .i64 (blen a : Nat)) ∧ w' = w := by
  obtain ⟨p, c, rfl, hA, hc⟩ := h
  have e1 := dlen a 1048576 (by omega)
  have h := rlen_ p c (dig a) w hA (Wd_dig a) (by omega)
  rw [val_dig] at h
  exact h
set_option maxRecDepth 20000 in
theorem normR (v : Value) (L : List Int) (w : World) (h : Ls w v L) (hw : Wd L) (l : L.length ≤ 1048576) :
    Calls Tryz.prog 111 #[v] w fun e w' => ∃ v', e = .returned v' ∧ Ls w' v' (dig (val L)) ∧ Kp w w' := by
  obtain ⟨p, c, rfl, hA, hc⟩ := h
  have h := rnorm_ p c L w hA (by omega)
  rw [nz_dig L hw] at h
  exact h.mono fun e w' ⟨v, h1, h2, h3⟩ => ⟨v, h1, h2.ls, h3⟩
set_option maxRecDepth 20000 in
theorem wordR (v : Value) (a : Nat) (w : World) (h : Ls w v (dig a)) (l : a < 18446744073709551616) :
    Calls Tryz.prog 89 #[v] w fun e w' => e = .returned (.tuple #[.int .u64 (a : Int), .bool true]) ∧ w' = w := by
  obtain ⟨p, c, rfl, hA, hc⟩ := h
  have hl : len32 a ≤ 2 := by
    by_cases c : len32 a ≤ 2
    · exact c
    · exfalso
      have := len32_lt a 2 (by omega)
      omega
  have hl2 : (dig a).length ≤ 2 := hl
  have h := rword_ p c (dig a) w hA (Wd_dig a) (by omega)
  rw [val_dig] at h
  unfold wordN at h
  rw [if_neg (by omega)] at h
  exact h
set_option maxRecDepth 20000 in
theorem byR (v1 v2 : Value) (a b : Nat) (w : World) (h1 : Ls w v1 (dig a)) (h2 : Ls w v2 (dig b)) (l1 : blen a ≤ 33554432) (l2 : blen b ≤ 8388608) (h0 : 0 < b) :
    Calls Tryz.prog 88 #[v1, v2] w fun e w' => ∃ q r, e = .returned (.tuple #[q, r]) ∧ Ls w' q (dig (a / b)) ∧ Ls w' r (dig (a % b)) ∧ Kp w w' := by
  obtain ⟨p, c, rfl, hA, hc⟩ := h1
  obtain ⟨q, d, rfl, hB, hd⟩ := h2
  have e1 := dlen a 1048576 (by omega)
  have e2 := dlen b 262144 (by omega)
  have h := rby_ p q c d (dig a) (dig b) w hA hB (Wd_dig a) (Wd_dig b) e1 (by omega) (by rw [tl_dig]; exact e2) (by rw [val_dig]; exact h0)
  rw [val_dig, val_dig] at h
  exact h.mono fun e w' ⟨v, he, ⟨p1, c1, p2, c2, e2, o1, o2, _⟩, hk⟩ => ⟨_, _, by rw [he, e2], o1.ls, o2.ls, hk⟩
end Go.Proofs.YtokhnokobkmmkaaGreatDoor
