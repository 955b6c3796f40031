import Derived.Test.YtjblehmafjcncaaDoorProg
import Derived.Test.YtjblehmafjcncaaDoorKXA0
import Derived.Test.YtjblehmafjcncaaDoorKXM
import Derived.Test.YtjblehmafjcncaaDoorKXT
import Derived.Test.YtjblehmafjcncaaDoorKRN
import Derived.Test.YtjblehmafjcncaaDoorKRC
import Derived.WalkKit
import Derived.ProofKit
import Derived.RowKit3
import Derived.WalkSpells
import Derived.StillTactics
import Derived.Deep.QuietTactic
import Derived.BigQuiet
import Derived.Below
import Derived.Deep.OwnRows
import Derived.OwnWalk
namespace Go.Proofs.YtjblehmafjcncaaDoor
open Go.RowKit
set_option maxRecDepth 20000 in
set_option maxHeartbeats 3000000 in
theorem rminus_ (p q : Option Addr) (c d : Nat) (xs ys : List Int) (w : World) (hx : Arr w p xs) (hy : Arr w q ys) (hwx : Wd xs) (hwy : Wd ys) (lx : xs.length < 1099511627776) (hl : ys.length ≤ xs.length) (hle : val ys ≤ val xs) :
    Calls Tryd.prog 76 #[.slice p xs.length c, .slice q ys.length d] w fun e w' => ∃ v, e = .returned v ∧ Own w' w.heap.size v (dig (val xs - val ys)) ∧ Kp w w' := by
  obtain ⟨N, hN⟩ : ∃ N, N = xs.length := ⟨_, rfl⟩
  obtain ⟨M, hM⟩ : ∃ M, M = ys.length := ⟨_, rfl⟩
  rw [← hN] at lx hl ⊢
  rw [← hM] at hl ⊢
  have HX : Hid (Arr w p xs) := hx
  have HY : Hid (Arr w q ys) := hy
  have HW : Hid (Wd xs ∧ Wd ys ∧ val ys ≤ val xs) := ⟨hwx, hwy, hle⟩
  have HN : Hid (N = xs.length ∧ M = ys.length ∧ N < 1099511627776 ∧ M ≤ N) := ⟨hN, hM, lx, hl⟩
  obtain ⟨i0, hi0, hi1, hi2, hi3⟩ := inf32p
  clear hN hM hx hy hwx hwy lx hl hle
  go_enter Tryd.func76, Tryd.ntmps76
  go_wp2
  go_loopw [5, 6, 7] (fun a cc i wr => ∃ (v : Value) (k C : Nat) (L : List Int), v = a ∧ cc = .int .u64 C ∧ i = .int .i64 k ∧ Own wr w.heap.size v L ∧ Kp w wr ∧ L.length = k ∧ Wd L ∧ C ≤ 1 ∧ val L + val (ys.take k) = val (xs.take k) + C * 4294967296 ^ k ∧ k ≤ N) (fun _ _ i _ => N - (intOf i).toNat)
  case atStart => exact ⟨_, 0, 0, [], rfl, rfl, rfl, Own.nil _ _, Kp.refl _, rfl, Wd.nil, by omega, by simp [val], by omega⟩
  case round =>
    obtain ⟨v, k, C, L, rfl, rfl, rfl, hown, hkp, hL, hw, hC, hv, hk⟩ := hrel
    obtain ⟨hN, hM, lx, hl⟩ := HN.out
    by_cases ca : k < N
    · by_cases cb : k < M
      · skip
        obtain ⟨b, off, rfl, hc⟩ := HX.out.at (k := k) (by omega)
        have e1 := kkeep hkp (hc k (by omega))
        obtain ⟨b', off', rfl, hc'⟩ := HY.out.at (k := k) (by omega)
        have e2 := kkeep hkp (hc' k (by omega))
        have wx := HW.out.1 k
        have wy := HW.out.2.1 k
        obtain ⟨X, hX⟩ : ∃ X, X = xs.getD k 0 := ⟨_, rfl⟩
        obtain ⟨Y, hY⟩ : ∃ Y, Y = ys.getD k 0 := ⟨_, rfl⟩
        have hst := fun (C' Z : Nat) h => minus_step L xs ys k C C' Z hL h hv
        rw [← hX, ← hY] at hst
        rw [← hX] at wx e1
        rw [← hY] at wy e2
        have f1 : IntKind.u64.wrap X = X := by rw [IntKind.wrap_u64]; omega
        obtain ⟨T, hT⟩ : ∃ T : Int, T = Y + (C : Int) := ⟨_, rfl⟩
        have f2 : IntKind.u64.wrap Y = Y := by rw [IntKind.wrap_u64]; omega
        have f3 : IntKind.u64.wrap ((C : Int) + Y) = T := by rw [IntKind.wrap_u64]; omega
        by_cases ct : X < T
        · skip
          obtain ⟨Z, hZ⟩ : ∃ Z : Nat, Z = (X + 4294967296 - T).toNat := ⟨_, rfl⟩
          have f4 : IntKind.u64.wrap (X + 4294967296) = X + 4294967296 := by rw [IntKind.wrap_u64]; omega
          have f5 : IntKind.u64.wrap (X + 4294967296 - T) = (Z : Int) := by rw [IntKind.wrap_u64]; omega
          have hs2 := hst 1 Z (by omega)
          have f6 : IntKind.u32.wrap (Z : Int) = (Z : Int) := by rw [IntKind.wrap_u32]; omega
          have hWL : Wd (L ++ [(Z : Int)]) := hw.append (Wd.one (by omega))
          have hob := own_block hown
          have hown' : wr.ownsRow w.heap.size 38 1 v k (L.map (Value.int .u32)) := by rw [← hL]; exact hown
          have hsz := hkp.size
          have hkb : k < 1099511627776 := by omega
          have j0 : (0 : Int) ≤ (k : Int) := by omega
          have j1 : (k : Int) < (N : Int) := by omega
          have j2 : ((k : Int) < (M : Int)) := by omega
          clear ca cb
          clear hc hc' HX HY HW HN hN hM hX hY hv hZ hT hown wx wy hw hC hst
          go_wp2_with (first | (at_builtin; refine wpList_append_own _ rfl _ _ 24 rfl w.heap.size 38 i0 (.int .u32 0) 1 4 Tryd.underlying24 hi0 hi1 hi2 hi3 rfl (by decide) _ _ _ rfl (hown'.alloc _) ⟨wr.heap.size, 0, none⟩ 1 1 [.int .u32 (Z : Int)] rfl rfl ?c1f0 ?c2f0 ?c3f0 ?c4f0 ?c5f0 ?_))
          try case c1f0 =>
            intro j' u hj'
            match j', hj' with
            | 0, hj' => simp at hj'; subst hj'; simp [Addr.add]
          case c2f0 => first | rfl | (intro u hu; simp at hu; subst hu; rfl)
          case c3f0 => unfold maxLen; omega
          case c4f0 => omega
          case c5f0 => first | omega | (simp; omega)
          intro v' w1 hown2 hgrow _
          have hO : Own w1 w.heap.size v' (L ++ [(Z : Int)]) := by refine Own.push ?_; rw [hL]; exact hown2
          have hK2 : Kp w w1 := (hkp.alloc _).grown hgrow hob
          clear hown2 hgrow hown' hkp hob hsz
          go_wp2
          exact ⟨⟨_, k + 1, 1, _, rfl, rfl, by go_num, hO, hK2, by simp [hL], hWL, by omega, hs2, by omega⟩, by simp [intOf]; omega⟩
        · skip
          obtain ⟨Z, hZ⟩ : ∃ Z : Nat, Z = (X - T).toNat := ⟨_, rfl⟩
          have f5 : IntKind.u64.wrap (X - T) = (Z : Int) := by rw [IntKind.wrap_u64]; omega
          have hs2 := hst 0 Z (by omega)
          have f6 : IntKind.u32.wrap (Z : Int) = (Z : Int) := by rw [IntKind.wrap_u32]; omega
          have hWL : Wd (L ++ [(Z : Int)]) := hw.append (Wd.one (by omega))
          have hob := own_block hown
          have hown' : wr.ownsRow w.heap.size 38 1 v k (L.map (Value.int .u32)) := by rw [← hL]; exact hown
          have hsz := hkp.size
          have hkb : k < 1099511627776 := by omega
          have j0 : (0 : Int) ≤ (k : Int) := by omega
          have j1 : (k : Int) < (N : Int) := by omega
          have j2 : ((k : Int) < (M : Int)) := by omega
          clear ca cb
          clear hc hc' HX HY HW HN hN hM hX hY hv hZ hT hown wx wy hw hC hst
          go_wp2_with (first | (at_builtin; refine wpList_append_own _ rfl _ _ 24 rfl w.heap.size 38 i0 (.int .u32 0) 1 4 Tryd.underlying24 hi0 hi1 hi2 hi3 rfl (by decide) _ _ _ rfl (hown'.alloc _) ⟨wr.heap.size, 0, none⟩ 1 1 [.int .u32 (Z : Int)] rfl rfl ?c1f1 ?c2f1 ?c3f1 ?c4f1 ?c5f1 ?_))
          try case c1f1 =>
            intro j' u hj'
            match j', hj' with
            | 0, hj' => simp at hj'; subst hj'; simp [Addr.add]
          case c2f1 => first | rfl | (intro u hu; simp at hu; subst hu; rfl)
          case c3f1 => unfold maxLen; omega
          case c4f1 => omega
          case c5f1 => first | omega | (simp; omega)
          intro v' w1 hown2 hgrow _
          have hO : Own w1 w.heap.size v' (L ++ [(Z : Int)]) := by refine Own.push ?_; rw [hL]; exact hown2
          have hK2 : Kp w w1 := (hkp.alloc _).grown hgrow hob
          clear hown2 hgrow hown' hkp hob hsz
          go_wp2
          exact ⟨⟨_, k + 1, 0, _, rfl, rfl, by go_num, hO, hK2, by simp [hL], hWL, by omega, hs2, by omega⟩, by simp [intOf]; omega⟩
      · skip
        obtain ⟨b, off, rfl, hc⟩ := HX.out.at (k := k) (by omega)
        have e1 := kkeep hkp (hc k (by omega))
        have wx := HW.out.1 k
        have wy := HW.out.2.1 k
        have hy0 : ys.getD k 0 = 0 := getD_out ys k (by omega)
        obtain ⟨X, hX⟩ : ∃ X, X = xs.getD k 0 := ⟨_, rfl⟩
        obtain ⟨Y, hY⟩ : ∃ Y, Y = ys.getD k 0 := ⟨_, rfl⟩
        have hst := fun (C' Z : Nat) h => minus_step L xs ys k C C' Z hL h hv
        rw [← hX, ← hY] at hst
        rw [← hX] at wx e1
        rw [← hY] at wy hy0
        have f1 : IntKind.u64.wrap X = X := by rw [IntKind.wrap_u64]; omega
        by_cases ct : X < (C : Int)
        · skip
          obtain ⟨Z, hZ⟩ : ∃ Z : Nat, Z = (X + 4294967296 - (C : Int)).toNat := ⟨_, rfl⟩
          have f4 : IntKind.u64.wrap (X + 4294967296) = X + 4294967296 := by rw [IntKind.wrap_u64]; omega
          have f5 : IntKind.u64.wrap (X + 4294967296 - (C : Int)) = (Z : Int) := by rw [IntKind.wrap_u64]; omega
          have hs2 := hst 1 Z (by omega)
          have f6 : IntKind.u32.wrap (Z : Int) = (Z : Int) := by rw [IntKind.wrap_u32]; omega
          have hWL : Wd (L ++ [(Z : Int)]) := hw.append (Wd.one (by omega))
          have hob := own_block hown
          have hown' : wr.ownsRow w.heap.size 38 1 v k (L.map (Value.int .u32)) := by rw [← hL]; exact hown
          have hsz := hkp.size
          have hkb : k < 1099511627776 := by omega
          have j0 : (0 : Int) ≤ (k : Int) := by omega
          have j1 : (k : Int) < (N : Int) := by omega
          have j2 : ¬ ((k : Int) < (M : Int)) := by omega
          clear ca cb
          clear hc hy0 HX HY HW HN hN hM hX hY hv hZ hown wx wy hw hC hst
          go_wp2_with (first | (at_builtin; refine wpList_append_own _ rfl _ _ 24 rfl w.heap.size 38 i0 (.int .u32 0) 1 4 Tryd.underlying24 hi0 hi1 hi2 hi3 rfl (by decide) _ _ _ rfl (hown'.alloc _) ⟨wr.heap.size, 0, none⟩ 1 1 [.int .u32 (Z : Int)] rfl rfl ?c1g0 ?c2g0 ?c3g0 ?c4g0 ?c5g0 ?_))
          try case c1g0 =>
            intro j' u hj'
            match j', hj' with
            | 0, hj' => simp at hj'; subst hj'; simp [Addr.add]
          case c2g0 => first | rfl | (intro u hu; simp at hu; subst hu; rfl)
          case c3g0 => unfold maxLen; omega
          case c4g0 => omega
          case c5g0 => first | omega | (simp; omega)
          intro v' w1 hown2 hgrow _
          have hO : Own w1 w.heap.size v' (L ++ [(Z : Int)]) := by refine Own.push ?_; rw [hL]; exact hown2
          have hK2 : Kp w w1 := (hkp.alloc _).grown hgrow hob
          clear hown2 hgrow hown' hkp hob hsz
          go_wp2
          exact ⟨⟨_, k + 1, 1, _, rfl, rfl, by go_num, hO, hK2, by simp [hL], hWL, by omega, hs2, by omega⟩, by simp [intOf]; omega⟩
        · skip
          obtain ⟨Z, hZ⟩ : ∃ Z : Nat, Z = (X - (C : Int)).toNat := ⟨_, rfl⟩
          have f5 : IntKind.u64.wrap (X - (C : Int)) = (Z : Int) := by rw [IntKind.wrap_u64]; omega
          have hs2 := hst 0 Z (by omega)
          have f6 : IntKind.u32.wrap (Z : Int) = (Z : Int) := by rw [IntKind.wrap_u32]; omega
          have hWL : Wd (L ++ [(Z : Int)]) := hw.append (Wd.one (by omega))
          have hob := own_block hown
          have hown' : wr.ownsRow w.heap.size 38 1 v k (L.map (Value.int .u32)) := by rw [← hL]; exact hown
          have hsz := hkp.size
          have hkb : k < 1099511627776 := by omega
          have j0 : (0 : Int) ≤ (k : Int) := by omega
          have j1 : (k : Int) < (N : Int) := by omega
          have j2 : ¬ ((k : Int) < (M : Int)) := by omega
          clear ca cb
          clear hc hy0 HX HY HW HN hN hM hX hY hv hZ hown wx wy hw hC hst
          go_wp2_with (first | (at_builtin; refine wpList_append_own _ rfl _ _ 24 rfl w.heap.size 38 i0 (.int .u32 0) 1 4 Tryd.underlying24 hi0 hi1 hi2 hi3 rfl (by decide) _ _ _ rfl (hown'.alloc _) ⟨wr.heap.size, 0, none⟩ 1 1 [.int .u32 (Z : Int)] rfl rfl ?c1g1 ?c2g1 ?c3g1 ?c4g1 ?c5g1 ?_))
          try case c1g1 =>
            intro j' u hj'
            match j', hj' with
            | 0, hj' => simp at hj'; subst hj'; simp [Addr.add]
          case c2g1 => first | rfl | (intro u hu; simp at hu; subst hu; rfl)
          case c3g1 => unfold maxLen; omega
          case c4g1 => omega
          case c5g1 => first | omega | (simp; omega)
          intro v' w1 hown2 hgrow _
          have hO : Own w1 w.heap.size v' (L ++ [(Z : Int)]) := by refine Own.push ?_; rw [hL]; exact hown2
          have hK2 : Kp w w1 := (hkp.alloc _).grown hgrow hob
          clear hown2 hgrow hown' hkp hob hsz
          go_wp2
          exact ⟨⟨_, k + 1, 0, _, rfl, rfl, by go_num, hO, hK2, by simp [hL], hWL, by omega, hs2, by omega⟩, by simp [intOf]; omega⟩
    · have hkN : k = N := by omega
      have hv2 : val L = val xs - val ys := by
        rw [List.take_of_length_le (by omega), List.take_of_length_le (by omega)] at hv
        have := minus_end L xs ys C k hL hw HW.out.2.2 hv hC
        subst this
        omega
      have hLl : L.length ≤ 1099511627776 := by omega
      obtain ⟨p', c', rfl, hA, _⟩ := hown.arr
      have hno := rnorm_ p' c' L wr hA hLl
      rw [nz_dig L hw, hv2] at hno
      obtain ⟨D, hD⟩ : ∃ D, D = L.length := ⟨_, rfl⟩
      rw [← hD] at hno ⊢
      have i2 : ¬ ((k : Int) < (N : Int)) := by omega
      clear HX HY HW HN hN hM hv hown hw hC hA hv2 hL hLl hD hkN ca lx hl
      go_wp2_with fail
      refine hno.mono ?_
      rintro e w2 ⟨v2, rfl, hO2, hk2⟩
      clear hno
      go_wp2
      exact bodyPost_ret (v := v2) (by simp [results, Tryd.results76, go_sem] <;> simp only [*]) rfl ⟨v2, rfl, hO2.mono hkp.size, hkp.trans hk2⟩
set_option maxRecDepth 20000 in
set_option maxHeartbeats 1000000 in
theorem rsub_ (p q : Option Addr) (c d : Nat) (xs ys : List Int) (w : World) (hx : Arr w p xs) (hy : Arr w q ys) (hwx : Wd xs) (hwy : Wd ys) (lx : xs.length < 1099511627775) (ly : ys.length < 1099511627775) :
    Calls Tryd.prog 56 #[.slice p xs.length c, .slice q ys.length d] w fun e w' => ∃ v, e = .returned (.tuple #[v, .int .i64 (subN (val xs) (val ys)).2]) ∧ Own w' w.heap.size v (subN (val xs) (val ys)).1 ∧ Kp w w' := by
  have h3 := rcmp_ p q c d xs ys w hx hy hwx hwy (by omega) (by omega)
  have h1 := fun w' (k : Kp w w') => long_ p c xs w' (hx.grown k) (by omega)
  have h2 := fun w' (k : Kp w w') => long_ q d ys w' (hy.grown k) (by omega)
  have h4 := fun w' (k : Kp w w') => rnorm_ q d ys w' (hy.grown k) (by omega)
  have lS := tl_le xs
  have lT := tl_le ys
  have hb : val ys ≤ val xs → tl ys ≤ tl xs := tl_mono ys xs hwy hwx
  have h5 : val ys ≤ val xs → ∀ w' q' d', Kp w w' → Arr w' q' (nz ys) → Calls Tryd.prog 76 #[.slice p xs.length c, .slice q' (nz ys).length d'] w' fun e w'' => ∃ v, e = .returned v ∧ Own w'' w'.heap.size v (dig (val xs - val ys)) ∧ Kp w' w'' := fun hle w' q' d' k ha => by
    have := rminus_ p q' c d' xs (nz ys) w' (hx.grown k) ha hwx (hwy.take _) (by omega) (by rw [nz_length]; have := hb hle; omega) (by rw [val_nz]; exact hle)
    rw [val_nz] at this
    exact this
  have e1 := tl_len xs hwx
  have e2 := tl_len ys hwy
  obtain ⟨zs, hzs⟩ : ∃ zs, zs = nz ys := ⟨_, rfl⟩
  rw [← hzs] at h4 h5
  obtain ⟨N, hN⟩ : ∃ N, N = xs.length := ⟨_, rfl⟩
  obtain ⟨M, hM⟩ : ∃ M, M = ys.length := ⟨_, rfl⟩
  obtain ⟨S, hS⟩ : ∃ S, S = tl xs := ⟨_, rfl⟩
  obtain ⟨T, hT⟩ : ∃ T, T = tl ys := ⟨_, rfl⟩
  obtain ⟨a, ha⟩ : ∃ a, a = val xs := ⟨_, rfl⟩
  obtain ⟨b, hb'⟩ : ∃ b, b = val ys := ⟨_, rfl⟩
  rw [← hN, ← hM, ← ha, ← hb'] at h3
  rw [← hN, ← hS] at h1
  rw [← hM, ← hT] at h2
  rw [← hM] at h4
  rw [← hN, ← ha, ← hb'] at h5
  rw [← hS, ← hT, ← ha, ← hb'] at hb
  rw [← hS, ← ha] at e1
  rw [← hT, ← hb'] at e2
  have hDl : (dig (a - b)).length ≤ S := by
    have : len32 (a - b) ≤ len32 a := len32_mono (by omega)
    rw [e1]; exact this
  have hS2 : S ≤ 1099511627776 := by omega
  rw [← hN, ← hM, ← ha, ← hb']
  clear hx hy hwx hwy lx ly hN hM hS hT lS lT ha hb' hzs
  by_cases c1 : a < b
  · rw [cmpN_lt c1] at h3
    have e3 : subN a b = ([], 1) := by unfold subN; rw [if_pos c1]
    rw [e3]
    clear h1 h2 h4 h5 c1 e1 e2 e3 hb hDl hS2
    go_enter Tryd.func56, Tryd.ntmps56
    go_wp2_with fail
    refine h3.mono ?_; rintro e w1 ⟨rfl, k1⟩
    go_wp2
    exact bodyPost_ret (v := .tuple #[.slice none 0 0, .int .i64 1]) (by simp [results, Tryd.results56, go_sem] <;> simp only [*]) rfl ⟨_, rfl, Own.nil _ _, k1⟩
  have t1 : ¬ (cmpN a b < 0) := by
    unfold cmpN; rw [if_neg c1]; split <;> omega
  obtain ⟨R, hR⟩ : ∃ R, R = cmpN a b := ⟨_, rfl⟩
  rw [← hR] at h3 t1
  by_cases c2 : 16384 < S
  · rw [decide_eq_true c2] at h1
    have e3 : subN a b = ([], 2) := by unfold subN; rw [if_neg c1, if_pos (by omega)]
    rw [e3]
    clear h2 h4 h5 c1 c2 e1 e2 e3 hR hb hDl hS2
    go_enter Tryd.func56, Tryd.ntmps56
    go_wp2_with fail
    refine h3.mono ?_; rintro e w1 ⟨rfl, k1⟩
    go_wp2_with fail
    refine (h1 _ k1).mono ?_; rintro e w' ⟨rfl, rfl⟩
    go_wp2
    exact bodyPost_ret (v := .tuple #[.slice none 0 0, .int .i64 2]) (by simp [results, Tryd.results56, go_sem] <;> simp only [*]) rfl ⟨_, rfl, Own.nil _ _, k1⟩
  have hTS := hb (by omega)
  have c3 : ¬ 16384 < T := by omega
  rw [decide_eq_false c2] at h1
  rw [decide_eq_false c3] at h2
  have e3 : subN a b = (dig (a - b), 0) := by unfold subN; rw [if_neg c1, if_neg (by omega)]
  rw [e3]
  have h6 := h5 (by omega)
  have hDl2 : ¬ 16384 < tl (dig (a - b)) := by rw [tl_dig]; have : len32 (a - b) = (dig (a - b)).length := rfl; omega
  obtain ⟨D, hD⟩ : ∃ D, D = dig (a - b) := ⟨_, rfl⟩
  rw [← hD] at h6 hDl hDl2 ⊢
  clear h5 c1 c2 c3 e1 e2 e3 hR hb hTS hD
  go_enter Tryd.func56, Tryd.ntmps56
  go_wp2_with fail
  refine h3.mono ?_; rintro e w1 ⟨rfl, k1⟩
  go_wp2_with fail
  refine (h1 _ k1).mono ?_; rintro e w' ⟨rfl, rfl⟩
  go_wp2_with fail
  refine (h2 _ k1).mono ?_; rintro e w' ⟨rfl, rfl⟩
  go_wp2_with fail
  refine (h4 _ k1).mono ?_; rintro e w2 ⟨v2, rfl, hO2, k2⟩
  obtain ⟨p2, c2, rfl, hA2, _⟩ := hO2.arr
  have h7 := h6 w2 p2 c2 (k1.trans k2) hA2
  obtain ⟨L2, hL2⟩ : ∃ L2, L2 = zs.length := ⟨_, rfl⟩
  rw [← hL2] at h7 ⊢
  clear h6 hO2 hA2 hL2 h1 h2 h3 h4
  go_wp2_with fail
  refine h7.mono ?_; rintro e w3 ⟨v3, rfl, hO3, k3⟩
  obtain ⟨p3, c3, rfl, hA3, _⟩ := hO3.arr
  have hf := fit_ p3 c3 D w3 hA3 (by omega)
  rw [if_neg hDl2] at hf
  obtain ⟨L3, hL3⟩ : ∃ L3, L3 = D.length := ⟨_, rfl⟩
  have hO' : Own w3 w.heap.size (.slice p3 L3 c3) D := by rw [hL3]; exact hO3.mono (k1.trans k2).size
  rw [← hL3] at hf ⊢
  have K : Kp w w3 := (k1.trans k2).trans k3
  clear h7 hO3 hA3 hL3 hDl2 hDl hS2 k1 k2 k3
  go_wp2_with fail
  refine hf.mono ?_; rintro e w4 ⟨rfl, rfl⟩
  go_wp2
  exact bodyPost_ret (v := .tuple #[.slice p3 L3 c3, .int .i64 0]) (by simp [results, Tryd.results56, go_sem] <;> simp only [*]) rfl ⟨_, rfl, hO', K⟩
end Go.Proofs.YtjblehmafjcncaaDoor
