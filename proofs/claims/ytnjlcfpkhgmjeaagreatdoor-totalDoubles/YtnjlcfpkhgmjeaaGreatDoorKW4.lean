import Derived.Test.YtnjlcfpkhgmjeaaGreatDoorKLN
import Derived.Test.YtnjlcfpkhgmjeaaGreatDoorKNF
import Derived.Test.YtnjlcfpkhgmjeaaGreatDoorKXN
namespace Go.Proofs.YtnjlcfpkhgmjeaaGreatDoor
open Go.RowKit
set_option maxRecDepth 20000 in
set_option maxHeartbeats 1000000 in
theorem rsmall_ (v : Nat) (hv : v < 18446744073709551616) (w : World) :
    Calls Tryz.prog 50 #[.int .u64 (v : Int)] w fun e w' => ∃ r, e = .returned r ∧ Own w' w.heap.size r (dig v) ∧ Kp w w' := by
  have f0 := and32 v hv
  obtain ⟨lo, hlo⟩ : ∃ lo : Nat, lo = v % 4294967296 := ⟨_, rfl⟩
  obtain ⟨hi, hhi⟩ : ∃ hi : Nat, hi = v / 4294967296 := ⟨_, rfl⟩
  rw [← hlo] at f0
  have f1 : IntKind.u32.wrap (lo : Int) = (lo : Int) := by rw [IntKind.wrap_u32]; omega
  have f2 : (v : Int) / 4294967296 = (hi : Int) := by omega
  have f3 : IntKind.u32.wrap (hi : Int) = (hi : Int) := by rw [IntKind.wrap_u32]; omega
  have hw : Wd [(lo : Int), (hi : Int)] := Wd.mk (by omega) (Wd.mk (by omega) Wd.nil)
  have hval : val [(lo : Int), (hi : Int)] = v := by simp [val]; omega
  have hr := row2 w (lo : Int) (hi : Int)
  have hk : Kp w (w.alloc (.cells #[.int .u32 (lo : Int), .int .u32 (hi : Int)] 78)) := (Kp.refl w).alloc _
  have hno := rnorm_ (some ⟨w.heap.size, 0, none⟩) 2 [(lo : Int), (hi : Int)] _ (by simpa using hr.arr 2 (Nat.le_refl _) (by simp)) (by simp)
  rw [nz_dig _ hw, hval] at hno
  obtain ⟨Z, hZ⟩ : ∃ Z, Z = dig v := ⟨_, rfl⟩
  rw [← hZ] at hno ⊢
  have hno2 : Calls Tryz.prog 57 #[.slice (some ⟨w.heap.size, 0, none⟩) 2 2] (w.alloc (.cells #[.int .u32 (lo : Int), .int .u32 (hi : Int)] 78)) fun e w' => ∃ v, e = .returned v ∧ Own w' (w.alloc (.cells #[.int .u32 (lo : Int), .int .u32 (hi : Int)] 78)).heap.size v Z ∧ Kp (w.alloc (.cells #[.int .u32 (lo : Int), .int .u32 (hi : Int)] 78)) w' := hno
  clear hno hZ hval hw hlo hhi hv hr
  go_enter Tryz.func50, Tryz.ntmps50
  go_wp2_with fail
  refine hno2.mono ?_; rintro e w1 ⟨r, rfl, hO, hk2⟩
  have hO2 := hO.mono hk.size
  have hk3 := hk.trans hk2
  clear hno2 hO hk hk2
  go_wp2
  exact bodyPost_ret (v := r) (by simp [results, Tryz.results50, go_sem] <;> simp only [*]) rfl ⟨_, rfl, hO2, hk3⟩
set_option maxRecDepth 20000 in
set_option maxHeartbeats 1000000 in
theorem lowest_ (p : Option Addr) (c : Nat) (xs : List Int) (w : World) (hx : Arr w p xs) (hwx : Wd xs) (lx : xs.length ≤ 2) :
    Calls Tryz.prog 115 #[.slice p xs.length c] w fun e w' => e = .returned (.int .u64 (val xs : Nat)) ∧ w' = w := by
  obtain ⟨N, hN⟩ : ∃ N, N = xs.length := ⟨_, rfl⟩
  have HX : Hid (Arr w p xs ∧ Wd xs ∧ N = xs.length) := ⟨hx, hwx, hN⟩
  have hmin : min (N : Int) 2 = (N : Int) := by omega
  have hN2 : N ≤ 2 := by omega
  rw [← hN]
  clear hx hwx lx hN
  go_enter Tryz.func115, Tryz.ntmps115
  go_wp2
  go_loop [3, 8] (fun v i => ∃ k : Nat, i = .int .i64 k ∧ k ≤ N ∧ v = .int .u64 (val (xs.take k) : Nat)) (fun _ i => N - (intOf i).toNat)
  case atStart => exact ⟨0, rfl, Nat.zero_le _, by simp [val]⟩
  case round =>
    obtain ⟨k, rfl, hk, rfl⟩ := hrel
    obtain ⟨hx, hwx, hN⟩ := HX.out
    by_cases ck : k < N
    · obtain ⟨b, off, rfl, hc⟩ := hx.at (k := k) (by omega)
      have e1 := hc k (by omega)
      have wx := hwx k
      have hst := val_take_succ xs k
      have hlt := val_two xs hwx (by omega) (k + 1)
      have hlk := val_take_lt xs hwx k
      obtain ⟨X, hX⟩ : ∃ X : Nat, (X : Int) = xs.getD k 0 := ⟨(xs.getD k 0).toNat, by omega⟩
      rw [← hX] at e1 hst
      rw [Int.toNat_natCast] at hst
      obtain ⟨V, hV⟩ : ∃ V, V = val (xs.take k) := ⟨_, rfl⟩
      obtain ⟨V', hV'⟩ : ∃ V', V' = val (xs.take (k + 1)) := ⟨_, rfl⟩
      rw [← hV] at hst hlk ⊢
      rw [← hV'] at hst hlt
      have HG : Hid (V' = val (xs.take (k + 1))) := hV'
      have f0 : IntKind.u64.wrap (X : Int) = (X : Int) := by rw [IntKind.wrap_u64]; omega
      have i0 : (0 : Int) ≤ (k : Int) := by omega
      have i1 : (k : Int) < (N : Int) := by omega
      have hX32 : X < 4294967296 := by omega
      clear hx hwx hN hc wx hX hV hV' HX
      rcases (by omega : k = 0 ∨ k = 1) with rfl | rfl
      · have hV0 : V = 0 := by simpa using hlk
        subst hV0
        have hX' : V' = X := by simpa using hst
        subst hX'
        have f2 : bits BinOp.or IntKind.u64 0 (V' : Int) = (V' : Int) := by
          have := bits_or_u64_nat 0 V' (by omega) (by omega)
          simpa using this
        rw [Nat.add_zero] at e1
        clear hst hlt hlk
        go_wp2
        exact ⟨⟨1, by go_num, by omega, by rw [← HG.out]⟩, by simp [intOf]; omega⟩
      · have f1 : IntKind.u64.wrap ((X : Int) * 4294967296) = ((X * 4294967296 : Nat) : Int) := by rw [IntKind.wrap_u64]; omega
        have hor := or_low V X 32 (by simpa using hlk)
        have f2 := bits_or_u64_nat V (X * 4294967296) (by omega) (by omega)
        have e2 : V ||| X * 4294967296 = V' := by
          have e3 : V + X * 4294967296 = V' := by omega
          rw [← e3]; exact hor
        rw [e2] at f2
        obtain ⟨Y, hY⟩ : ∃ Y : Nat, Y = X * 4294967296 := ⟨_, rfl⟩
        rw [← hY] at f1 f2
        clear hst hlt hlk hor e2 hY
        go_wp2
        exact ⟨⟨2, by go_num, by omega, by rw [← HG.out]⟩, by simp [intOf]; omega⟩
    · have hkN : k = N := by omega
      subst hkN
      rw [hN, List.take_length]
      obtain ⟨V, hV⟩ : ∃ V, V = val xs := ⟨_, rfl⟩
      rw [← hV]
      have i1 : ¬ ((k : Int) < (k : Int)) := by omega
      have HV : Hid (V = val xs) := hV
      clear HX hx hwx hN hV
      go_wp2
      exact bodyPost_ret (v := .int .u64 (V : Int)) (by simp [results, Tryz.results115, go_sem] <;> simp only [*]) rfl ⟨by rw [HV.out], rfl⟩
set_option maxRecDepth 20000 in
set_option maxHeartbeats 1000000 in
theorem nword_ (p : Option Addr) (c : Nat) (xs : List Int) (w : World) (hx : Arr w p xs) (hwx : Wd xs) (lx : xs.length ≤ 16777216) (hc : xs.length ≤ c) :
    Calls Tryz.prog 89 #[.slice p xs.length c] w fun e w' => e = .returned (.tuple #[.int .u64 ((wordN (val xs)).1 : Nat), .bool (wordN (val xs)).2]) ∧ w' = w := by
  have h1 := trim_ p c xs w hx (by omega) hc
  have e1 := tl_len xs hwx
  have h2 : tl xs ≤ 2 → Calls Tryz.prog 115 #[.slice p (tl xs) c] w fun e w' => e = .returned (.int .u64 (val xs : Nat)) ∧ w' = w := fun h => by
    have := lowest_ p c (nz xs) w (hx.take _) (hwx.take _) (by rw [nz_length]; exact h)
    rw [nz_length, val_nz] at this
    exact this
  obtain ⟨a, ha⟩ : ∃ a, a = val xs := ⟨_, rfl⟩
  obtain ⟨N, hN⟩ : ∃ N, N = xs.length := ⟨_, rfl⟩
  obtain ⟨S, hS⟩ : ∃ S, S = tl xs := ⟨_, rfl⟩
  rw [← ha] at e1 h2 ⊢
  rw [← hN, ← hS] at h1
  rw [← hS] at e1 h2
  rw [← hN]
  clear hx hwx lx hc ha hN hS
  by_cases cs : 2 < S
  · have e2 : wordN a = (0, false) := by unfold wordN; rw [if_pos (by omega)]
    rw [e2]
    have t1 : (2 : Int) < (S : Int) := by omega
    clear h2 e1 e2 cs
    go_enter Tryz.func89, Tryz.ntmps89
    go_wp2_with fail
    refine h1.mono ?_; rintro e w' ⟨rfl, hw'⟩; obtain rfl := hw'.symm
    go_wp2
    exact bodyPost_ret (v := .tuple #[.int .u64 0, .bool false]) (by simp [results, Tryz.results89, go_sem] <;> simp only [*]) rfl ⟨rfl, rfl⟩
  · have e2 : wordN a = (a, true) := by unfold wordN; rw [if_neg (by omega)]
    rw [e2]
    have t1 : ¬ ((2 : Int) < (S : Int)) := by omega
    have h3 := h2 (by omega)
    clear h2 e1 e2 cs
    go_enter Tryz.func89, Tryz.ntmps89
    go_wp2_with fail
    refine h1.mono ?_; rintro e w' ⟨rfl, hw'⟩; obtain rfl := hw'.symm
    go_wp2_with fail
    refine h3.mono ?_; rintro e w' ⟨rfl, hw'⟩; obtain rfl := hw'.symm
    go_wp2
    exact bodyPost_ret (v := .tuple #[.int .u64 (a : Int), .bool true]) (by simp [results, Tryz.results89, go_sem] <;> simp only [*]) rfl ⟨rfl, rfl⟩
set_option maxRecDepth 20000 in
theorem sl32 (g k M n : Nat) (h : k + M ≤ n) (hk : k < n) (w : World) : (Instr.slice 43 (.slice (some ⟨g, 0, none⟩) n n) (some (.int .i64 (k : Int))) (some (.int .i64 ((k : Int) + (M : Int)))) none).run Tryz.prog w = .ok (.slice (some ⟨g, k, none⟩) M (n - k)) w := by
  rw [run_slice_lh w 43 (some ⟨g, 0, none⟩) n n Tryz.underlying43 .i64 .i64 (k : Int) ((k : Int) + (M : Int)) (by omega) (by omega) (by omega)]
  have e : (sizeOf (Tryz.prog.elem 43)).run Tryz.prog w = .ok 1 w := by kernel_rfl
  have e2 : ((k : Int) + (M : Int)).toNat - k = M := by omega
  have e3 : ¬ n = k := by omega
  rw [e]
  simp [Result.andThen, sliced, e2, e3, Addr.add_lit]
theorem val_zeros (zs : List Int) (h : ∀ j, zs.getD j 0 = 0) : val zs = 0 := by
  induction zs with
  | nil => rfl
  | cons z r ih =>
    have h0 := h 0
    simp at h0
    have := ih (fun j => by have := h (j + 1); simpa using this)
    simp [val, h0, this]
theorem Wd_rep0 (n : Nat) : Wd (List.replicate n (0 : Int)) := by
  intro j
  by_cases c : j < n
  · simp [List.getD, c]
  · simp [List.getD, c]
theorem rep0_getD (n j : Nat) : (List.replicate n (0 : Int)).getD j 0 = 0 := by
  by_cases c : j < n
  · simp [List.getD, c]
  · simp [List.getD, c]
end Go.Proofs.YtnjlcfpkhgmjeaaGreatDoor
