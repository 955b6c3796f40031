import Derived.Test.YtnjlcfpkhgmjeaaGreatDoorKH2DQ
namespace Go.Proofs.YtnjlcfpkhgmjeaaGreatDoor
open Go.RowKit
set_option maxRecDepth 20000 in
set_option maxHeartbeats 1000000 in
theorem fresh_ (p : Option Addr) (c : Nat) (xs : List Int) (w : World) (hx : Arr w p xs) (lx : xs.length ≤ 1099511627776) :
    Calls Tryz.prog 121 #[.slice p xs.length c] w fun e w' => ∃ g, e = .returned (.slice (some ⟨g, 0, none⟩) xs.length xs.length) ∧ w.heap.size ≤ g ∧ Rw w' g xs.length xs ∧ Kp w w' := by
  obtain ⟨N, hN⟩ : ∃ N, N = xs.length := ⟨_, rfl⟩
  have hmk := mk32 N (by omega)
  have hk1 : Kp w (w.alloc (.cells (madeCells #[.int .u32 0] N) 78)) := (Kp.refl w).alloc _
  obtain ⟨w2, hcp, hr2, hkw⟩ := copy32 (w.alloc (.cells (madeCells #[.int .u32 0] N) 78)) w.heap.size N c p xs _ (World.rowIs_made w (.int .u32 0) N 78) (hx.grown hk1) (by omega)
  have hk2 : Kp w w2 := hkw w (Nat.le_refl _) hk1
  have hrz : Rw w2 w.heap.size N xs := World.rowIs.congr hr2 (fun j hj => by rw [if_pos (by omega)])
  rw [← hN] at hcp ⊢
  clear hx lx hN hkw hr2 hk1
  go_enter Tryz.func121, Tryz.ntmps121
  go_wp2
  exact bodyPost_ret (v := .slice (some ⟨w.heap.size, 0, none⟩) N N) (by simp [results, Tryz.results121, go_sem] <;> simp only [*]) rfl ⟨_, rfl, Nat.le_refl _, hrz, hk2⟩
theorem row2 (w : World) (x y : Int) : Rw (w.alloc (.cells #[.int .u32 x, .int .u32 y] 78)) w.heap.size 2 [x, y] := by
  have := World.rowIs_alloc w #[.int .u32 x, .int .u32 y] 78 (fun i => .int .u32 ([x, y].getD i 0)) (fun i hi => by
    have h : i = 0 ∨ i = 1 := by simp at hi; omega
    rcases h with rfl | rfl <;> rfl)
  exact this
theorem row1 (w : World) (x : Int) : Rw (w.alloc (.cells #[.int .u32 x] 78)) w.heap.size 1 [x] := by
  have := World.rowIs_alloc w #[.int .u32 x] 78 (fun i => .int .u32 ([x].getD i 0)) (fun i hi => by
    have h : i = 0 := by simp at hi; omega
    rcases h with rfl; rfl)
  exact this
theorem own1 (w : World) : Own (w.alloc (.cells #[.int .u32 1] 78)) w.heap.size (.slice (some ⟨w.heap.size, 0, none⟩) 1 1) [1] :=
  Own.of_row (row1 w 1) (Nat.le_refl _) (Nat.le_refl _) rfl (by unfold maxLen; omega)
set_option maxRecDepth 20000 in
set_option maxHeartbeats 1000000 in
theorem nsmall_ (v : Nat) (hv : v < 18446744073709551616) (w : World) :
    Calls Tryz.prog 63 #[.int .u64 (v : Int)] w fun e w' => ∃ r, e = .returned r ∧ Own w' w.heap.size r (dig v) ∧ Kp w w' := by
  obtain ⟨lo, hlo⟩ : ∃ lo : Nat, lo = v % 4294967296 := ⟨_, rfl⟩
  obtain ⟨hi, hhi⟩ : ∃ hi : Nat, hi = v / 4294967296 := ⟨_, rfl⟩
  have f1 : IntKind.u32.wrap (v : Int) = (lo : Int) := by rw [IntKind.wrap_u32]; omega
  have f2 : (v : Int) / 4294967296 = (hi : Int) := by omega
  have f3 : IntKind.u32.wrap (hi : Int) = (hi : Int) := by rw [IntKind.wrap_u32]; omega
  have hw : Wd [(lo : Int), (hi : Int)] := Wd.mk (by omega) (Wd.mk (by omega) Wd.nil)
  have hval : val [(lo : Int), (hi : Int)] = v := by simp [val]; omega
  have hr := row2 w (lo : Int) (hi : Int)
  have htr := trim_ (some ⟨w.heap.size, 0, none⟩) 2 [(lo : Int), (hi : Int)] _ (by simpa using hr.arr 2 (Nat.le_refl _) (by simp)) (by simp) (by simp)
  have hO : Own (w.alloc (.cells #[.int .u32 (lo : Int), .int .u32 (hi : Int)] 78)) w.heap.size (.slice (some ⟨w.heap.size, 0, none⟩) (tl [(lo : Int), (hi : Int)]) 2) (dig v) := by
    have h1 := Own.of_row (base := w.heap.size) (k := tl [(lo : Int), (hi : Int)]) hr (Nat.le_refl _) (tl_le _) rfl (by unfold maxLen; omega)
    have h2 : [(lo : Int), (hi : Int)].take (tl [(lo : Int), (hi : Int)]) = dig v := by rw [← hval, ← nz_dig _ hw]; rfl
    rw [h2] at h1
    exact h1
  have hk : Kp w (w.alloc (.cells #[.int .u32 (lo : Int), .int .u32 (hi : Int)] 78)) := (Kp.refl w).alloc _
  obtain ⟨T, hT⟩ : ∃ T, T = tl [(lo : Int), (hi : Int)] := ⟨_, rfl⟩
  rw [← hT] at htr hO
  have htr2 : Calls Tryz.prog 99 #[.slice (some ⟨w.heap.size, 0, none⟩) 2 2] (w.alloc (.cells #[.int .u32 (lo : Int), .int .u32 (hi : Int)] 78)) fun e w' => e = .returned (.slice (some ⟨w.heap.size, 0, none⟩) T 2) ∧ w' = w.alloc (.cells #[.int .u32 (lo : Int), .int .u32 (hi : Int)] 78) := htr
  clear htr hT hval hw hlo hhi hv hr
  go_enter Tryz.func63, Tryz.ntmps63
  go_wp2_with fail
  refine htr2.mono ?_; rintro e w' ⟨rfl, hw'⟩; subst hw'
  clear htr2
  go_wp2
  exact bodyPost_ret (v := .slice (some ⟨w.heap.size, 0, none⟩) T 2) (by simp [results, Tryz.results63, go_sem] <;> simp only [*]) rfl ⟨_, rfl, hO, hk⟩
set_option maxRecDepth 20000 in
set_option maxHeartbeats 2000000 in
theorem rnorm_ (p : Option Addr) (c : Nat) (xs : List Int) (w : World) (hx : Arr w p xs) (lx : xs.length ≤ 1099511627776) :
    Calls Tryz.prog 57 #[.slice p xs.length c] w fun e w' => ∃ v, e = .returned v ∧ Own w' w.heap.size v (nz xs) ∧ Kp w w' := by
  obtain ⟨N, hN⟩ : ∃ N, N = xs.length := ⟨_, rfl⟩
  rw [← hN] at lx ⊢
  have HX : Hid (Arr w p xs) := hx
  have HN : Hid (N = xs.length) := hN
  obtain ⟨T, hT⟩ : ∃ T, T = tl xs := ⟨_, rfl⟩
  have HT : Hid (tlAux xs N = T) := by rw [hT, hN]; exact rfl
  have HT2 : Hid (T ≤ N ∧ T = tl xs) := ⟨by rw [hT, hN]; exact tl_le xs, hT⟩
  obtain ⟨i0, hi0, hi1, hi2, hi3⟩ := inf32p
  clear hN hx hT
  go_enter Tryz.func57, Tryz.ntmps57
  go_wp2
  go_loop [3] (fun i => ∃ k : Nat, i = .int .i64 k ∧ k ≤ N ∧ tlAux xs k = T) (fun i => (intOf i).toNat)
  case atStart => exact ⟨N, rfl, Nat.le_refl _, HT.out⟩
  case round =>
    obtain ⟨k, rfl, hk, ht⟩ := hrel
    have hN := HN.out
    have step2 : k = 0 ∨ (∃ k', k = k' + 1 ∧ xs.getD k' 0 = 0) ∨ (∃ k', k = k' + 1 ∧ xs.getD k' 0 ≠ 0) := by
      rcases k with _ | k'
      · exact Or.inl rfl
      · by_cases cz : xs.getD k' 0 = 0
        · exact Or.inr (Or.inl ⟨k', rfl, cz⟩)
        · exact Or.inr (Or.inr ⟨k', rfl, cz⟩)
    rcases step2 with rfl | ⟨k, rfl, cz⟩ | ⟨k, rfl, cz⟩
    · have hT0 : T = 0 := by rw [← ht]; rfl
      subst hT0
      clear hN HN HX HT ht hk
      have hnz : nz xs = [] := by unfold nz; rw [← HT2.out.2]; rfl
      go_wp2
      go_loopw [4, 5] (fun v i wr => v = .slice none 0 0 ∧ i = .int .i64 0 ∧ wr = w) (fun _ _ _ => 0)
      case atStart => exact ⟨rfl, rfl, rfl⟩
      case round =>
        obtain ⟨rfl, rfl, rfl⟩ := hrel
        go_wp2
        exact bodyPost_ret (v := .slice none 0 0) (by simp [results, Tryz.results57, go_sem] <;> simp only [*]) rfl ⟨_, rfl, by rw [hnz]; exact Own.nil _ _, Kp.refl _⟩
    · obtain ⟨b, off, rfl, hc'⟩ := HX.out.at (k := k) (by omega)
      have e1 := hc' k (by omega)
      rw [tlAux_zero xs k cz] at ht
      rw [cz] at e1
      clear hN HN HX HT hc' HT2
      go_wp2
      exact ⟨⟨k, by go_num, by omega, ht⟩, by simp [intOf]⟩
    · obtain ⟨b, off, rfl, hc'⟩ := HX.out.at (k := k) (by omega)
      have e1 := hc' k (by omega)
      rw [tlAux_nz xs k cz] at ht
      obtain ⟨X, hX⟩ : ∃ X, X = xs.getD k 0 := ⟨_, rfl⟩
      rw [← hX] at e1 cz
      have t1 : (X == 0) = false := by simp [cz]
      have HK : Hid (k + 1 = T) := ht
      clear hN HT hc' hX cz ht
      go_wp2
      go_loopw [4, 5] (fun a i wr => ∃ (v : Value) (j : Nat), v = a ∧ j ≤ k + 1 ∧ i = .int .i64 j ∧ Own wr w.heap.size v (xs.take j) ∧ Kp w wr) (fun _ i _ => k + 1 - (intOf i).toNat)
      case atStart => exact ⟨_, 0, rfl, Nat.zero_le _, rfl, by simpa using Own.nil w w.heap.size, Kp.refl _⟩
      case round =>
        obtain ⟨v, j, rfl, hj, rfl, hown, hkp⟩ := hrel
        obtain ⟨hTN, hTe⟩ := HT2.out
        have hKT := HK.out
        have hN := HN.out
        clear e1 t1
        by_cases cj : j < k + 1
        · obtain ⟨b2, off2, hb2, hc2⟩ := HX.out.at (k := j) (by omega)
          obtain ⟨rfl, rfl⟩ : b = b2 ∧ off = off2 := by simpa using hb2
          have e2 := kkeep hkp (hc2 j (by omega))
          have hpush := take_push xs j (by omega)
          have hob := own_block hown
          have hlen : (xs.take j).length = j := by rw [List.length_take]; omega
          have hown' : wr.ownsRow w.heap.size 78 1 v ((xs.take j).length) ((xs.take j).map (Value.int .u32)) := hown
          obtain ⟨Y, hY⟩ : ∃ Y, Y = xs.getD j 0 := ⟨_, rfl⟩
          rw [← hY] at e2 hpush
          have hsz := hkp.size
          clear hc2 hb2 hY hTe HX HN HT2 HK hown
          clear hN
          go_wp2_with (first | (at_builtin; refine wpList_append_own _ rfl _ _ 43 rfl w.heap.size 78 i0 (.int .u32 0) 1 4 Tryz.underlying43 hi0 hi1 hi2 hi3 rfl (by decide) _ _ _ rfl (hown'.alloc _) ⟨wr.heap.size, 0, none⟩ 1 1 [.int .u32 Y] rfl rfl ?c1 ?c2 ?c3 ?c4 ?c5 ?_))
          case c1 =>
            intro j' u hj'
            match j', hj' with
            | 0, hj' => simp at hj'; subst hj'; simp [Addr.add]
          case c2 => intro u hu; simp at hu; subst hu; rfl
          case c3 => unfold maxLen; omega
          case c4 => omega
          case c5 => simp; omega
          intro v' w1 hown2 hgrow _
          have hO : Own w1 w.heap.size v' (xs.take (j + 1)) := by rw [← hpush]; refine Own.push ?_; rw [hlen, List.map_take]; exact hown2
          have hK2 : Kp w w1 := (hkp.alloc _).grown hgrow hob
          clear hown2 hgrow hown' hkp hob e2 hsz hpush hlen
          go_wp2
          exact ⟨⟨_, j + 1, rfl, by omega, by go_num, hO, hK2⟩, by simp [intOf]; omega⟩
        · have hjk : j = k + 1 := by omega
          have hnz : nz xs = xs.take j := by unfold nz; rw [← hTe, ← hKT, hjk]
          clear hN HN HX HT2 HK hTe hTN hKT
          go_wp2
          exact bodyPost_ret (v := v) (by simp [results, Tryz.results57, go_sem] <;> simp only [*]) rfl ⟨_, rfl, by rw [hnz]; exact hown, hkp⟩
end Go.Proofs.YtnjlcfpkhgmjeaaGreatDoor
