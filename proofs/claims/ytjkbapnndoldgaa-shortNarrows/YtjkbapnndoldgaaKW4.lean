import Derived.Test.YtjkbapnndoldgaaKXSL
namespace Go.Proofs.Ytjkbapnndoldgaa
open Go.RowKit
set_option maxRecDepth 20000 in
set_option maxHeartbeats 1000000 in
theorem rsmall_ (v : Nat) (hv : v < 18446744073709551616) (w : World) :
    Calls Try.prog 103 #[.int .u64 (v : Int)] w fun e w' => ∃ r, e = .returned r ∧ Own w' w.heap.size r (dig v) ∧ Kp w w' := by
  have f0 := and32 v hv
  obtain ⟨lo, hlo⟩ : ∃ lo : Nat, lo = v % 4294967296 := ⟨_, rfl⟩
  obtain ⟨hi, hhi⟩ : ∃ hi : Nat, hi = v / 4294967296 := ⟨_, rfl⟩
  rw [← hlo] at f0
  have f1 : IntKind.u32.wrap (lo : Int) = (lo : Int) := by rw [IntKind.wrap_u32]; omega
  have f2 : (v : Int) / 4294967296 = (hi : Int) := by omega
  have f3 : IntKind.u32.wrap (hi : Int) = (hi : Int) := by rw [IntKind.wrap_u32]; omega
  have hw : Wd [(lo : Int), (hi : Int)] := Wd.mk (by omega) (Wd.mk (by omega) Wd.nil)
  have hval : val [(lo : Int), (hi : Int)] = v := by simp [val]; omega
  have hr := row2 w (lo : Int) (hi : Int)
  have hk : Kp w (w.alloc (.cells #[.int .u32 (lo : Int), .int .u32 (hi : Int)] 22)) := (Kp.refl w).alloc _
  have hno := rnorm_ (some ⟨w.heap.size, 0, none⟩) 2 [(lo : Int), (hi : Int)] _ (by simpa using hr.arr 2 (Nat.le_refl _) (by simp)) (by simp)
  rw [nz_dig _ hw, hval] at hno
  obtain ⟨Z, hZ⟩ : ∃ Z, Z = dig v := ⟨_, rfl⟩
  rw [← hZ] at hno ⊢
  have hno2 : Calls Try.prog 113 #[.slice (some ⟨w.heap.size, 0, none⟩) 2 2] (w.alloc (.cells #[.int .u32 (lo : Int), .int .u32 (hi : Int)] 22)) fun e w' => ∃ v, e = .returned v ∧ Own w' (w.alloc (.cells #[.int .u32 (lo : Int), .int .u32 (hi : Int)] 22)).heap.size v Z ∧ Kp (w.alloc (.cells #[.int .u32 (lo : Int), .int .u32 (hi : Int)] 22)) w' := hno
  clear hno hZ hval hw hlo hhi hv hr
  go_enter Try.func103, Try.ntmps103
  go_wp2_with fail
  refine hno2.mono ?_; rintro e w1 ⟨r, rfl, hO, hk2⟩
  have hO2 := hO.mono hk.size
  have hk3 := hk.trans hk2
  clear hno2 hO hk hk2
  go_wp2
  exact bodyPost_ret (v := r) (by simp [results, Try.results103, go_sem] <;> simp only [*]) rfl ⟨_, rfl, hO2, hk3⟩
set_option maxRecDepth 20000 in
set_option maxHeartbeats 1000000 in
theorem rword_ (p : Option Addr) (c : Nat) (xs : List Int) (w : World) (hx : Arr w p xs) (hwx : Wd xs) (lx : xs.length ≤ 16777216) :
    Calls Try.prog 100 #[.slice p xs.length c] w fun e w' => e = .returned (.tuple #[.int .u64 ((wordN (val xs)).1 : Nat), .bool (wordN (val xs)).2]) ∧ w' = w := by
  have h1 := words_ p c xs w hx (by omega)
  have e1 := tl_len xs hwx
  have lS := tl_le xs
  have hv0 : val ((nz xs).drop 0) = val xs := by rw [List.drop_zero, val_nz]
  have hnl := nz_length xs
  have hg : ∀ k, k < tl xs → (nz xs).getD k 0 = xs.getD k 0 := fun k hk => by unfold nz; simp [List.getD, hk]
  obtain ⟨zs, hzs⟩ : ∃ zs, zs = nz xs := ⟨_, rfl⟩
  have hwz : Wd zs := by rw [hzs]; exact hwx.take _
  rw [← hzs] at hv0 hnl hg
  obtain ⟨a, ha⟩ : ∃ a, a = val xs := ⟨_, rfl⟩
  obtain ⟨N, hN⟩ : ∃ N, N = xs.length := ⟨_, rfl⟩
  obtain ⟨S, hS⟩ : ∃ S, S = tl xs := ⟨_, rfl⟩
  rw [← ha] at e1 hv0 ⊢
  rw [← hN, ← hS] at h1
  rw [← hS] at e1 hnl hg lS
  rw [← hN] at lS ⊢
  have HX : Hid (Arr w p xs ∧ Wd zs ∧ N = xs.length ∧ zs.length = S ∧ val (zs.drop 0) = a ∧ (∀ k, k < S → zs.getD k 0 = xs.getD k 0)) := ⟨hx, hwz, hN, hnl, hv0, hg⟩
  clear hx hwx lx ha hN hS hzs hwz hnl hv0 hg
  by_cases cs : 2 < S
  · have e2 : wordN a = (0, false) := by unfold wordN; rw [if_pos (by omega)]
    rw [e2]
    have t1 : (2 : Int) < (S : Int) := by omega
    clear e1 e2 cs HX lS
    go_enter Try.func100, Try.ntmps100
    go_wp2_with fail
    refine h1.mono ?_; rintro e w' ⟨rfl, hw'⟩; obtain rfl := hw'.symm
    go_wp2
    exact bodyPost_ret (v := .tuple #[.int .u64 0, .bool false]) (by simp [results, Try.results100, go_sem] <;> simp only [*]) rfl ⟨rfl, rfl⟩
  · have e2 : wordN a = (a, true) := by unfold wordN; rw [if_neg (by omega)]
    rw [e2]
    have t1 : ¬ ((2 : Int) < (S : Int)) := by omega
    have hS2 : S ≤ 2 := by omega
    clear e1 e2 cs
    go_enter Try.func100, Try.ntmps100
    go_wp2_with fail
    refine h1.mono ?_; rintro e w' ⟨rfl, hw'⟩; obtain rfl := hw'.symm
    clear h1
    go_wp2
    clear t1
    go_loop [5, 6] (fun v i => ∃ (k : Nat) (z : Int), z = (k : Int) - 1 ∧ i = .int .i64 z ∧ k ≤ S ∧ v = .int .u64 (val (zs.drop k) : Nat)) (fun _ i => (intOf i + 1).toNat)
    case atStart => exact ⟨S, _, rfl, by go_num, Nat.le_refl _, by rw [List.drop_of_length_le (by have := HX.out.2.2.2.1; omega)]; rfl⟩
    case round =>
      obtain ⟨k, z, hz, rfl, hk, rfl⟩ := hrel
      obtain ⟨hx, hwz, hN, hnl, hv0, hg⟩ := HX.out
      rcases k with _ | k
      · have hz0 : z = -1 := by omega
        subst hz0
        rw [hv0]
        clear hz HX hx hwz hN hnl hv0 hg hk
        go_wp2
        exact bodyPost_ret (v := .tuple #[.int .u64 (a : Int), .bool true]) (by simp [results, Try.results100, go_sem] <;> simp only [*]) rfl ⟨rfl, rfl⟩
      · have hz0 : z = (k : Int) := by omega
        subst hz0
        obtain ⟨b, off, rfl, hc⟩ := hx.at (k := k) (by omega)
        have e1 := hc k (by omega)
        rw [← hg k (by omega)] at e1
        have wz := hwz k
        have hd := val_drop zs k (by omega)
        have hlt : val (zs.drop (k + 1)) < 4294967296 := by
          have h1 := val_lt (zs.drop (k + 1)) (fun j => by
            have := hwz (k + 1 + j)
            simpa [List.getD, List.getElem?_drop] using this)
          have h2 : (zs.drop (k + 1)).length ≤ 1 := by rw [List.length_drop]; omega
          exact Nat.lt_of_lt_of_le h1 (Nat.le_trans (Nat.pow_le_pow_right (by omega) h2) (by decide))
        obtain ⟨X, hX⟩ : ∃ X : Nat, (X : Int) = zs.getD k 0 := ⟨(zs.getD k 0).toNat, by omega⟩
        rw [← hX] at e1 hd
        rw [Int.toNat_natCast] at hd
        obtain ⟨V, hV⟩ : ∃ V, V = val (zs.drop (k + 1)) := ⟨_, rfl⟩
        rw [← hV] at hd hlt ⊢
        have HG : Hid (val (zs.drop k) = X + 4294967296 * V) := hd
        have f0 : IntKind.u64.wrap (X : Int) = (X : Int) := by rw [IntKind.wrap_u64]; omega
        have f1 : IntKind.u64.wrap ((V : Int) * 4294967296) = ((V * 4294967296 : Nat) : Int) := by rw [IntKind.wrap_u64]; omega
        have hor := or_low X V 32 (by omega)
        have f2 := bits_or_u64_nat (V * 4294967296) X (by omega) (by omega)
        have e2 : V * 4294967296 ||| X = X + 4294967296 * V := by
          rw [Nat.or_comm, Nat.mul_comm 4294967296]; exact hor
        rw [e2] at f2
        obtain ⟨Y, hY⟩ : ∃ Y : Nat, Y = V * 4294967296 := ⟨_, rfl⟩
        obtain ⟨T, hT⟩ : ∃ T : Nat, T = X + 4294967296 * V := ⟨_, rfl⟩
        rw [← hY] at f1 f2
        rw [← hT] at f2 HG
        have i0 : (0 : Int) ≤ (k : Int) := by omega
        have i1 : (k : Int) < (N : Int) := by omega
        have hk2 : k ≤ S := by omega
        clear hz HX hx hwz hN hnl hv0 hg hc wz hd hX hV hor e2 hY hT hlt hk lS hS2
        go_wp2
        exact ⟨⟨k, _, rfl, by go_num, hk2, by rw [HG.out]⟩, by simp [intOf]⟩
end Go.Proofs.Ytjkbapnndoldgaa
