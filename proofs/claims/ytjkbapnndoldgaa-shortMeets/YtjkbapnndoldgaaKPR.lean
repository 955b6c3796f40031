import Derived.Test.YtjkbapnndoldgaaKLN
import Derived.Deep.RegionHeld3
import Derived.Laws.BitsAllLaws
import Derived.Laws.Slices
namespace Go.Proofs.Ytjkbapnndoldgaa
open Go.RowKit
theorem val_zeros (zs : List Int) (h : ∀ j, zs.getD j 0 = 0) : val zs = 0 := by
  induction zs with
  | nil => rfl
  | cons z r ih =>
    have h0 := h 0
    simp at h0
    have := ih (fun j => by have := h (j + 1); simpa using this)
    simp [val, h0, this]
theorem Wd_rep0 (n : Nat) : Wd (List.replicate n (0 : Int)) := by
  intro j
  by_cases c : j < n
  · simp [List.getD, c]
  · simp [List.getD, c]
theorem rep0_getD (n j : Nat) : (List.replicate n (0 : Int)).getD j 0 = 0 := by
  by_cases c : j < n
  · simp [List.getD, c]
  · simp [List.getD, c]
set_option maxRecDepth 20000 in
set_option maxHeartbeats 2000000 in
theorem rnorm_ (p : Option Addr) (c : Nat) (xs : List Int) (w : World) (hx : Arr w p xs) (lx : xs.length ≤ 1099511627776) :
    Calls Try.prog 113 #[.slice p xs.length c] w fun e w' => ∃ v, e = .returned v ∧ Own w' w.heap.size v (nz xs) ∧ Kp w w' := by
  obtain ⟨N, hN⟩ : ∃ N, N = xs.length := ⟨_, rfl⟩
  rw [← hN] at lx ⊢
  have HX : Hid (Arr w p xs) := hx
  have HN : Hid (N = xs.length) := hN
  obtain ⟨T, hT⟩ : ∃ T, T = tl xs := ⟨_, rfl⟩
  have HT : Hid (tlAux xs N = T) := by rw [hT, hN]; exact rfl
  have HT2 : Hid (T ≤ N ∧ T = tl xs) := ⟨by rw [hT, hN]; exact tl_le xs, hT⟩
  obtain ⟨i0, hi0, hi1, hi2, hi3⟩ := inf32p
  clear hN hx hT
  go_enter Try.func113, Try.ntmps113
  go_wp2
  go_loop [3] (fun i => ∃ k : Nat, i = .int .i64 k ∧ k ≤ N ∧ tlAux xs k = T) (fun i => (intOf i).toNat)
  case atStart => exact ⟨N, rfl, Nat.le_refl _, HT.out⟩
  case round =>
    obtain ⟨k, rfl, hk, ht⟩ := hrel
    have hN := HN.out
    have step2 : k = 0 ∨ (∃ k', k = k' + 1 ∧ xs.getD k' 0 = 0) ∨ (∃ k', k = k' + 1 ∧ xs.getD k' 0 ≠ 0) := by
      rcases k with _ | k'
      · exact Or.inl rfl
      · by_cases cz : xs.getD k' 0 = 0
        · exact Or.inr (Or.inl ⟨k', rfl, cz⟩)
        · exact Or.inr (Or.inr ⟨k', rfl, cz⟩)
    rcases step2 with rfl | ⟨k, rfl, cz⟩ | ⟨k, rfl, cz⟩
    · have hT0 : T = 0 := by rw [← ht]; rfl
      subst hT0
      clear hN HN HX HT ht hk
      have hnz : nz xs = [] := by unfold nz; rw [← HT2.out.2]; rfl
      go_wp2
      go_loopw [4, 5] (fun v i wr => v = .slice none 0 0 ∧ i = .int .i64 0 ∧ wr = w) (fun _ _ _ => 0)
      case atStart => exact ⟨rfl, rfl, rfl⟩
      case round =>
        obtain ⟨rfl, rfl, rfl⟩ := hrel
        go_wp2
        exact bodyPost_ret (v := .slice none 0 0) (by simp [results, Try.results113, go_sem] <;> simp only [*]) rfl ⟨_, rfl, by rw [hnz]; exact Own.nil _ _, Kp.refl _⟩
    · obtain ⟨b, off, rfl, hc'⟩ := HX.out.at (k := k) (by omega)
      have e1 := hc' k (by omega)
      rw [tlAux_zero xs k cz] at ht
      rw [cz] at e1
      clear hN HN HX HT hc' HT2
      go_wp2
      exact ⟨⟨k, by go_num, by omega, ht⟩, by simp [intOf]⟩
    · obtain ⟨b, off, rfl, hc'⟩ := HX.out.at (k := k) (by omega)
      have e1 := hc' k (by omega)
      rw [tlAux_nz xs k cz] at ht
      obtain ⟨X, hX⟩ : ∃ X, X = xs.getD k 0 := ⟨_, rfl⟩
      rw [← hX] at e1 cz
      have t1 : (X == 0) = false := by simp [cz]
      have HK : Hid (k + 1 = T) := ht
      clear hN HT hc' hX cz ht
      go_wp2
      go_loopw [4, 5] (fun a i wr => ∃ (v : Value) (j : Nat), v = a ∧ j ≤ k + 1 ∧ i = .int .i64 j ∧ Own wr w.heap.size v (xs.take j) ∧ Kp w wr) (fun _ i _ => k + 1 - (intOf i).toNat)
      case atStart => exact ⟨_, 0, rfl, Nat.zero_le _, rfl, by simpa using Own.nil w w.heap.size, Kp.refl _⟩
      case round =>
        obtain ⟨v, j, rfl, hj, rfl, hown, hkp⟩ := hrel
        obtain ⟨hTN, hTe⟩ := HT2.out
        have hKT := HK.out
        have hN := HN.out
        clear e1 t1
        by_cases cj : j < k + 1
        · obtain ⟨b2, off2, hb2, hc2⟩ := HX.out.at (k := j) (by omega)
          obtain ⟨rfl, rfl⟩ : b = b2 ∧ off = off2 := by simpa using hb2
          have e2 := kkeep hkp (hc2 j (by omega))
          have hpush := take_push xs j (by omega)
          have hob := own_block hown
          have hlen : (xs.take j).length = j := by rw [List.length_take]; omega
          have hown' : wr.ownsRow w.heap.size 22 1 v ((xs.take j).length) ((xs.take j).map (Value.int .u32)) := hown
          obtain ⟨Y, hY⟩ : ∃ Y, Y = xs.getD j 0 := ⟨_, rfl⟩
          rw [← hY] at e2 hpush
          have hsz := hkp.size
          clear hc2 hb2 hY hTe HX HN HT2 HK hown
          clear hN
          go_wp2_with (first | (at_builtin; refine wpList_append_own _ rfl _ _ 83 rfl w.heap.size 22 i0 (.int .u32 0) 1 4 Try.underlying83 hi0 hi1 hi2 hi3 rfl (by decide) _ _ _ rfl (hown'.alloc _) ⟨wr.heap.size, 0, none⟩ 1 1 [.int .u32 Y] rfl rfl ?c1 ?c2 ?c3 ?c4 ?c5 ?_))
          case c1 =>
            intro j' u hj'
            match j', hj' with
            | 0, hj' => simp at hj'; subst hj'; simp [Addr.add]
          case c2 => intro u hu; simp at hu; subst hu; rfl
          case c3 => unfold maxLen; omega
          case c4 => omega
          case c5 => simp; omega
          intro v' w1 hown2 hgrow _
          have hO : Own w1 w.heap.size v' (xs.take (j + 1)) := by rw [← hpush]; refine Own.push ?_; rw [hlen, List.map_take]; exact hown2
          have hK2 : Kp w w1 := (hkp.alloc _).grown hgrow hob
          clear hown2 hgrow hown' hkp hob e2 hsz hpush hlen
          go_wp2
          exact ⟨⟨_, j + 1, rfl, by omega, by go_num, hO, hK2⟩, by simp [intOf]; omega⟩
        · have hjk : j = k + 1 := by omega
          have hnz : nz xs = xs.take j := by unfold nz; rw [← hTe, ← hKT, hjk]
          clear hN HN HX HT2 HK hTe hTN hKT
          go_wp2
          exact bodyPost_ret (v := v) (by simp [results, Try.results113, go_sem] <;> simp only [*]) rfl ⟨_, rfl, by rw [hnz]; exact hown, hkp⟩
theorem Arr.take {w : World} {p : Option Addr} {xs : List Int} (h : Arr w p xs) (k : Nat) : Arr w p (xs.take k) := by
  rcases h with h | ⟨b, off, h1, h2⟩
  · subst h; exact Or.inl (by simp)
  · refine Or.inr ⟨b, off, h1, fun j hj => ?_⟩
    have hj2 : j < k ∧ j < xs.length := by simp at hj; omega
    rw [h2 j hj2.2]; simp [List.getD, hj2.1]
set_option maxRecDepth 20000 in
set_option maxHeartbeats 1000000 in
theorem rbit_ (p : Option Addr) (c i j : Nat) (xs : List Int) (w : World) (hx : Arr w p xs) (hwx : Wd xs) (lx : xs.length ≤ 16777216) (hi : i < xs.length) (hj : j < 32) :
    Calls Try.prog 120 #[.slice p xs.length c, .int .i64 ((32 * i + j : Nat) : Int)] w fun e w' => e = .returned (.int .u32 ((xs.getD i 0).toNat / 2 ^ j % 2 : Nat)) ∧ w' = w := by
  obtain ⟨N, hN⟩ : ∃ N, N = xs.length := ⟨_, rfl⟩
  obtain ⟨b, off, rfl, hc⟩ := hx.at hi
  have e1 := hc i hi
  have wx := hwx i
  obtain ⟨X, hX⟩ : ∃ X : Nat, (X : Int) = xs.getD i 0 := ⟨(xs.getD i 0).toNat, by omega⟩
  rw [← hX] at e1 ⊢
  rw [Int.toNat_natCast]
  obtain ⟨k, hk⟩ : ∃ k, k = 32 * i + j := ⟨_, rfl⟩
  rw [← hk, ← hN]
  have t0 : ¬ ((k : Int) < 0) := by omega
  have f1 : (k : Int) / 32 = (i : Int) := by omega
  have f2 : (k : Int) % 32 = (j : Int) := by omega
  have i0 : (0 : Int) ≤ (i : Int) := by omega
  have i1 : (i : Int) < (N : Int) := by omega
  have i2 : ¬ ((N : Int) ≤ (i : Int)) := by omega
  have f3 : IntKind.u64.wrap (j : Int) = (j : Int) := by rw [IntKind.wrap_u64]; omega
  have f7 : wrap64 (i : Int) = (i : Int) := by unfold wrap64; omega
  have f8 : wrap64 (j : Int) = (j : Int) := by unfold wrap64; omega
  obtain ⟨Q, hQ⟩ : ∃ Q, Q = X / 2 ^ j := ⟨_, rfl⟩
  rw [← hQ]
  have hQX : Q ≤ X := by rw [hQ]; exact Nat.div_le_self _ _
  have f4 : (X : Int) / 2 ^ j = (Q : Int) := by rw [hQ]; push_cast; rfl
  have f5 : bits BinOp.and IntKind.u32 (Q : Int) 1 = ((Q % 2 : Nat) : Int) := by
    have := u32_and_nat Q 1 (by omega) (by omega)
    rw [Nat.and_one_is_mod] at this
    exact this
  obtain ⟨B, hB⟩ : ∃ B, B = Q % 2 := ⟨_, rfl⟩
  rw [← hB] at f5 ⊢
  clear hx hwx lx hi hc wx hX hk hN hQ hQX hB
  go_enter Try.func120, Try.ntmps120
  go_wp2
  exact bodyPost_ret (v := .int .u32 (B : Int)) (by simp [results, Try.results120, go_sem] <;> simp only [*]) rfl ⟨rfl, rfl⟩
set_option maxRecDepth 20000 in
set_option maxHeartbeats 1000000 in
theorem rzeros_ (p : Option Addr) (c : Nat) (xs : List Int) (w : World) (hx : Arr w p xs) (hwx : Wd xs) (lx : xs.length ≤ 16777216) :
    Calls Try.prog 118 #[.slice p xs.length c] w fun e w' => e = .returned (.int .i64 (ctz (val xs) : Nat)) ∧ w' = w := by
  have h1 := words_ p c xs w hx (by omega)
  have lS := tl_le xs
  obtain ⟨R, hR⟩ : ∃ R, R = ctz (val xs) := ⟨_, rfl⟩
  rcases Nat.eq_zero_or_pos (tl xs) with h0 | h0
  · have e0 : val xs = 0 := by rw [← val_tl xs, h0]; rfl
    rw [h0] at h1
    rw [e0, ctz_zero]
    obtain ⟨N, hN⟩ : ∃ N, N = xs.length := ⟨_, rfl⟩
    rw [← hN] at h1 ⊢
    clear hx hwx lx lS h0 e0 hN hR
    go_enter Try.func118, Try.ntmps118
    go_wp2_with fail
    refine h1.mono ?_; rintro e w' ⟨rfl, hw'⟩; obtain rfl := hw'.symm
    go_wp2
    exact bodyPost_ret (v := .int .i64 0) (by simp [results, Try.results118, go_sem] <;> simp only [*]) rfl ⟨rfl, rfl⟩
  · have hbit := fun (i j : Nat) hi hj => rbit_ p c i j xs w hx hwx lx hi hj
    have htop : xs.getD (tl xs - 1) 0 ≠ 0 := by
      rcases (tl_spec xs xs.length).2 with e | e
      · exfalso; have : tl xs = 0 := e; omega
      · exact e
    obtain ⟨N, hN⟩ : ∃ N, N = xs.length := ⟨_, rfl⟩
    obtain ⟨S, hS⟩ : ∃ S, S = tl xs := ⟨_, rfl⟩
    rw [← hN, ← hS] at h1
    rw [← hS] at htop h0 lS
    rw [← hR]
    rw [← hN] at hbit lS lx ⊢
    have t0 : ((S : Int) == 0) = false := by simp; omega
    have HX : Hid (Arr w p xs ∧ Wd xs ∧ N = xs.length ∧ R = ctz (val xs) ∧ xs.getD (S - 1) 0 ≠ 0 ∧ 0 < S ∧ S ≤ N) := ⟨hx, hwx, hN, hR, htop, h0, lS⟩
    have HB : Hid (∀ (i j : Nat), i < N → j < 32 → Calls Try.prog 120 #[.slice p N c, .int .i64 ((32 * i + j : Nat) : Int)] w fun e w' => e = .returned (.int .u32 ((xs.getD i 0).toNat / 2 ^ j % 2 : Nat)) ∧ w' = w) := hbit
    clear hx hwx hN hR hbit htop h0 hS lS
    go_enter Try.func118, Try.ntmps118
    go_wp2_with fail
    refine h1.mono ?_; rintro e w' ⟨rfl, hw'⟩; obtain rfl := hw'.symm
    clear h1
    go_wp2
    clear t0
    go_loop [3] (fun z => ∃ i : Nat, z = .int .i64 ((32 * i : Nat) : Int) ∧ i < S ∧ ∀ j, j < i → xs.getD j 0 = 0) (fun z => 32 * S - (intOf z).toNat)
    case atStart => exact ⟨0, rfl, HX.out.2.2.2.2.2.1, fun j h => by omega⟩
    case round =>
      obtain ⟨i, rfl, hi, hz⟩ := hrel
      obtain ⟨hx, hwx, hN, hR, htop, h0, lS⟩ := HX.out
      obtain ⟨b, off, rfl, hc⟩ := hx.at (k := i) (by omega)
      have e1 := hc i (by omega)
      obtain ⟨k, hk⟩ : ∃ k, k = 32 * i := ⟨_, rfl⟩
      rw [← hk]
      have f1 : (k : Int) / 32 = (i : Int) := by omega
      have i0 : (0 : Int) ≤ (i : Int) := by omega
      have i1 : (i : Int) < (N : Int) := by omega
      have hkb : k ≤ 536870912 := by omega
      by_cases cx : xs.getD i 0 = 0
      · have hi2 : i + 1 < S := by
          by_cases e : i = S - 1
          · subst e; exact absurd cx htop
          · omega
        have HZ : Hid ((∀ j, j < i + 1 → xs.getD j 0 = 0) ∧ k = 32 * i) := ⟨fun j hj => by
          by_cases e : j = i
          · subst e; exact cx
          · exact hz j (by omega), hk⟩
        rw [cx] at e1
        clear HX HB hx hwx hN hR htop h0 lS hc cx hz hk
        go_wp2
        exact ⟨⟨i + 1, by have := HZ.out.2; go_num, hi2, HZ.out.1⟩, by have := HZ.out.2; simp [intOf]; omega⟩
      · have wx := hwx i
        obtain ⟨X, hX⟩ : ∃ X : Nat, (X : Int) = xs.getD i 0 := ⟨(xs.getD i 0).toNat, by omega⟩
        have HX2 : Hid (R = ctz (val xs) ∧ (∀ j, j < i → xs.getD j 0 = 0) ∧ i < xs.length ∧ (X : Int) = xs.getD i 0 ∧ X ≠ 0 ∧ X < 4294967296 ∧ k = 32 * i ∧ i < N) := ⟨hR, hz, by omega, hX, by omega, by omega, hk, by omega⟩
        rw [← hX] at e1
        have t1 : ((X : Int) == 0) = false := by simp; omega
        clear HX hx hwx hN hR htop h0 lS hc cx hz wx hX
        go_wp2
        clear e1 t1 f1 i0 i1 hk hi
        go_loop [3] (fun z => ∃ j : Nat, z = .int .i64 ((32 * i + j : Nat) : Int) ∧ j < 32 ∧ X % 2 ^ j = 0) (fun z => 32 * (i + 1) - (intOf z).toNat)
        case atStart => exact ⟨0, by simp, by omega, by simp [Nat.mod_one]⟩
        case round =>
          obtain ⟨j, rfl, hj, hm⟩ := hrel
          obtain ⟨hR, hz, hi, hX, hX0, hX32, hk, hiN⟩ := HX2.out
          have h2 := HB.out i j hiN hj
          rw [← hX, Int.toNat_natCast] at h2
          have hXd : X = X / 2 ^ j * 2 ^ j := by
            have := Nat.div_add_mod X (2 ^ j)
            rw [hm, Nat.add_zero, Nat.mul_comm] at this
            exact this.symm
          obtain ⟨Q, hQ⟩ : ∃ Q, Q = X / 2 ^ j := ⟨_, rfl⟩
          rw [← hQ] at h2 hXd
          rcases (by omega : Q % 2 = 0 ∨ Q % 2 = 1) with cq | cq
          · rw [cq] at h2
            have hj2 : j + 1 < 32 := by
              by_cases e : j = 31
              · exfalso
                subst e
                have : Q = 0 ∨ 2 ≤ Q := by omega
                rcases this with q0 | q0
                · rw [q0] at hXd; simp at hXd; exact hX0 hXd
                · have : 2 * 2 ^ 31 ≤ Q * 2 ^ 31 := Nat.mul_le_mul_right _ q0
                  omega
              · omega
            have HM : Hid (X % 2 ^ (j + 1) = 0) := by
              show X % 2 ^ (j + 1) = 0
              rw [hXd, Nat.pow_succ, Nat.mul_comm Q, Nat.mul_mod_mul_left, cq, Nat.mul_zero]
            obtain ⟨z, hz2⟩ : ∃ z, z = 32 * i + j := ⟨_, rfl⟩
            rw [← hz2] at h2 ⊢
            have hzb : z ≤ 536870944 := by omega
            have HZ : Hid (z = 32 * i + j) := hz2
            clear HX2 HB hR hz hi hX hX0 hX32 hk hiN hXd hQ cq hm hz2
            go_wp2_with fail
            refine h2.mono ?_; rintro e w' ⟨rfl, hw'⟩; obtain rfl := hw'.symm
            clear h2
            go_wp2
            exact ⟨⟨j + 1, by have := HZ.out; go_num, hj2, HM.out⟩, by have := HZ.out; simp [intOf]; omega⟩
          · rw [cq] at h2
            have hRv := ctz_val xs i Q j hz hi cq hj (by rw [← hX, Int.toNat_natCast]; exact hXd)
            rw [← hR] at hRv
            rw [← hRv] at h2 ⊢
            clear HX2 HB hR hz hi hX hX0 hX32 hk hiN hXd hQ cq hm hRv
            go_wp2_with fail
            refine h2.mono ?_; rintro e w' ⟨rfl, hw'⟩; obtain rfl := hw'.symm
            clear h2
            go_wp2
            exact bodyPost_ret (v := .int .i64 (R : Int)) (by simp [results, Try.results118, go_sem] <;> simp only [*]) rfl ⟨rfl, rfl⟩
end Go.Proofs.Ytjkbapnndoldgaa
