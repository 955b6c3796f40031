import Derived.Test.YtnjbheammpdjfaaProg
import Derived.Test.YtnjbheammpdjfaaKXA0
import Derived.Test.YtnjbheammpdjfaaKXM
import Derived.Test.YtnjbheammpdjfaaKXRN
import Derived.WalkKit
import Derived.ProofKit
import Derived.RowKit3
import Derived.WalkSpells
import Derived.StillTactics
import Derived.Deep.QuietTactic
import Derived.BigQuiet
import Derived.Below
import Derived.Deep.OwnRows
import Derived.OwnWalk
import Derived.Laws.Bits64b
namespace Go.Proofs.Ytnjbheammpdjfaa
open Go.RowKit
set_option maxRecDepth 20000 in
set_option maxHeartbeats 3000000 in
theorem rplus_ (p q : Option Addr) (c d : Nat) (xs ys : List Int) (w : World) (hx : Arr w p xs) (hy : Arr w q ys) (hwx : Wd xs) (hwy : Wd ys) (lx : xs.length < 1099511627776) (ly : ys.length < 1099511627776) :
    Calls Try.prog 93 #[.slice p xs.length c, .slice q ys.length d] w fun e w' => ∃ v L, e = .returned v ∧ Own w' w.heap.size v (nz L) ∧ Wd L ∧ val L = val xs + val ys ∧ L.length ≤ 1099511627776 ∧ Kp w w' := by
  obtain ⟨N, hN⟩ : ∃ N, N = xs.length := ⟨_, rfl⟩
  obtain ⟨M, hM⟩ : ∃ M, M = ys.length := ⟨_, rfl⟩
  rw [← hN] at lx ⊢
  rw [← hM] at ly ⊢
  have HX : Hid (Arr w p xs) := hx
  have HY : Hid (Arr w q ys) := hy
  have HW : Hid (Wd xs ∧ Wd ys) := ⟨hwx, hwy⟩
  have HN : Hid (N = xs.length ∧ M = ys.length ∧ N < 1099511627776 ∧ M < 1099511627776) := ⟨hN, hM, lx, ly⟩
  obtain ⟨i0, hi0, hi1, hi2, hi3⟩ := inf32p
  clear hN hM hx hy hwx hwy lx ly
  go_enter Try.func93, Try.ntmps93
  go_wp2
  go_loopw [5, 6, 7] (fun a cc i wr => ∃ (v : Value) (k C : Nat) (L : List Int), v = a ∧ cc = .int .u64 C ∧ i = .int .i64 k ∧ Own wr w.heap.size v L ∧ Kp w wr ∧ L.length = k ∧ Wd L ∧ C ≤ 1 ∧ val L + C * 4294967296 ^ k = val (xs.take k) + val (ys.take k) ∧ k ≤ max N M) (fun _ _ i _ => max N M - (intOf i).toNat)
  case atStart => exact ⟨_, 0, 0, [], rfl, rfl, rfl, Own.nil _ _, Kp.refl _, rfl, Wd.nil, by omega, by simp [val], by omega⟩
  case round =>
    obtain ⟨v, k, C, L, rfl, rfl, rfl, hown, hkp, hL, hw, hC, hv, hk⟩ := hrel
    obtain ⟨hN, hM, lx, ly⟩ := HN.out
    by_cases ca : k < N
    · by_cases cb : k < M
      · skip
        obtain ⟨b, off, rfl, hc⟩ := HX.out.at (k := k) (by omega)
        have e1 := kkeep hkp (hc k (by omega))
        obtain ⟨b', off', rfl, hc'⟩ := HY.out.at (k := k) (by omega)
        have e2 := kkeep hkp (hc' k (by omega))
        have wx := HW.out.1 k
        have wy := HW.out.2 k
        obtain ⟨S, hS⟩ : ∃ S : Nat, S = C + (xs.getD k 0).toNat + (ys.getD k 0).toNat := ⟨_, rfl⟩
        have hst := plus_step L xs ys k C S hL hS hv
        obtain ⟨X, hX⟩ : ∃ X, X = xs.getD k 0 := ⟨_, rfl⟩
        obtain ⟨Y, hY⟩ : ∃ Y, Y = ys.getD k 0 := ⟨_, rfl⟩
        rw [← hX, ← hY] at hS
        rw [← hX] at wx e1
        rw [← hY] at wy e2
        have f1 : IntKind.u64.wrap X = X := by rw [IntKind.wrap_u64]; omega
        have f2 : IntKind.u64.wrap Y = Y := by rw [IntKind.wrap_u64]; omega
        have f3 : IntKind.u64.wrap ((C : Int) + X) = (C : Int) + X := by rw [IntKind.wrap_u64]; omega
        have f4 : IntKind.u64.wrap ((C : Int) + X + Y) = (S : Int) := by rw [IntKind.wrap_u64]; omega
        have f5 := and32 S (by omega)
        obtain ⟨Z, hZ⟩ : ∃ Z : Int, Z = ((S % 4294967296 : Nat) : Int) := ⟨_, rfl⟩
        rw [← hZ] at f5 hst
        have f6 : IntKind.u32.wrap Z = Z := by rw [IntKind.wrap_u32]; omega
        have f7 : (S : Int) / 4294967296 = ((S / 4294967296 : Nat) : Int) := by omega
        have hC' : S / 4294967296 ≤ 1 := by omega
        obtain ⟨C', hC2⟩ : ∃ C' : Nat, C' = S / 4294967296 := ⟨_, rfl⟩
        rw [← hC2] at f7 hst hC'
        have hWL : Wd (L ++ [Z]) := hw.append (Wd.one (by omega))
        have hob := own_block hown
        have hown' : wr.ownsRow w.heap.size 105 1 v k (L.map (Value.int .u32)) := by rw [← hL]; exact hown
        have hsz := hkp.size
        have hkb : k < 1099511627776 := by omega
        clear hc hc' HX HY HW HN hN hM hX hY hS hv hZ hC2 hown wx wy hw hC
        go_wp2_with (first | (at_builtin; refine wpList_append_own _ rfl _ _ 57 rfl w.heap.size 105 i0 (.int .u32 0) 1 4 Try.underlying57 hi0 hi1 hi2 hi3 rfl (by decide) _ _ _ rfl (hown'.alloc _) ⟨wr.heap.size, 0, none⟩ 1 1 [.int .u32 Z] rfl rfl ?c1 ?c2 ?c3 ?c4 ?c5 ?_))
        case c1 =>
          intro j' u hj'
          match j', hj' with
          | 0, hj' => simp at hj'; subst hj'; simp [Addr.add]
        case c2 => intro u hu; simp at hu; subst hu; rfl
        case c3 => unfold maxLen; omega
        case c4 => omega
        case c5 => simp; omega
        intro v' w1 hown2 hgrow _
        have hO : Own w1 w.heap.size v' (L ++ [Z]) := by refine Own.push ?_; rw [hL]; exact hown2
        have hK2 : Kp w w1 := (hkp.alloc _).grown hgrow hob
        clear hown2 hgrow hown' hkp hob hsz
        go_wp2
        exact ⟨⟨_, k + 1, C', _, rfl, by go_num, by go_num, hO, hK2, by simp [hL], hWL, hC', hst, by omega⟩, by simp [intOf]; omega⟩
      · skip
        obtain ⟨b, off, rfl, hc⟩ := HX.out.at (k := k) (by omega)
        have e1 := kkeep hkp (hc k (by omega))
        have wx := HW.out.1 k
        have wy := HW.out.2 k
        have hy0 : ys.getD k 0 = 0 := getD_out ys k (by omega)
        obtain ⟨S, hS⟩ : ∃ S : Nat, S = C + (xs.getD k 0).toNat + (ys.getD k 0).toNat := ⟨_, rfl⟩
        have hst := plus_step L xs ys k C S hL hS hv
        obtain ⟨X, hX⟩ : ∃ X, X = xs.getD k 0 := ⟨_, rfl⟩
        obtain ⟨Y, hY⟩ : ∃ Y, Y = ys.getD k 0 := ⟨_, rfl⟩
        rw [← hX, ← hY] at hS
        rw [← hX] at wx e1
        rw [← hY] at wy hy0
        have f1 : IntKind.u64.wrap X = X := by rw [IntKind.wrap_u64]; omega
        have f2 : IntKind.u64.wrap Y = Y := by rw [IntKind.wrap_u64]; omega
        have f3 : IntKind.u64.wrap ((C : Int) + X) = (S : Int) := by rw [IntKind.wrap_u64]; omega
        have f5 := and32 S (by omega)
        obtain ⟨Z, hZ⟩ : ∃ Z : Int, Z = ((S % 4294967296 : Nat) : Int) := ⟨_, rfl⟩
        rw [← hZ] at f5 hst
        have f6 : IntKind.u32.wrap Z = Z := by rw [IntKind.wrap_u32]; omega
        have f7 : (S : Int) / 4294967296 = ((S / 4294967296 : Nat) : Int) := by omega
        have hC' : S / 4294967296 ≤ 1 := by omega
        obtain ⟨C', hC2⟩ : ∃ C' : Nat, C' = S / 4294967296 := ⟨_, rfl⟩
        rw [← hC2] at f7 hst hC'
        have hWL : Wd (L ++ [Z]) := hw.append (Wd.one (by omega))
        have hob := own_block hown
        have hown' : wr.ownsRow w.heap.size 105 1 v k (L.map (Value.int .u32)) := by rw [← hL]; exact hown
        have hsz := hkp.size
        have hkb : k < 1099511627776 := by omega
        clear hc HX HY HW HN hN hM hX hY hS hv hZ hC2 hown wx wy hw hC hy0
        go_wp2_with (first | (at_builtin; refine wpList_append_own _ rfl _ _ 57 rfl w.heap.size 105 i0 (.int .u32 0) 1 4 Try.underlying57 hi0 hi1 hi2 hi3 rfl (by decide) _ _ _ rfl (hown'.alloc _) ⟨wr.heap.size, 0, none⟩ 1 1 [.int .u32 Z] rfl rfl ?c1 ?c2 ?c3 ?c4 ?c5 ?_))
        case c1 =>
          intro j' u hj'
          match j', hj' with
          | 0, hj' => simp at hj'; subst hj'; simp [Addr.add]
        case c2 => intro u hu; simp at hu; subst hu; rfl
        case c3 => unfold maxLen; omega
        case c4 => omega
        case c5 => simp; omega
        intro v' w1 hown2 hgrow _
        have hO : Own w1 w.heap.size v' (L ++ [Z]) := by refine Own.push ?_; rw [hL]; exact hown2
        have hK2 : Kp w w1 := (hkp.alloc _).grown hgrow hob
        clear hown2 hgrow hown' hkp hob hsz
        go_wp2
        exact ⟨⟨_, k + 1, C', _, rfl, by go_num, by go_num, hO, hK2, by simp [hL], hWL, hC', hst, by omega⟩, by simp [intOf]; omega⟩
    · by_cases cb : k < M
      · skip
        obtain ⟨b', off', rfl, hc'⟩ := HY.out.at (k := k) (by omega)
        have e2 := kkeep hkp (hc' k (by omega))
        have wx := HW.out.1 k
        have wy := HW.out.2 k
        have hx0 : xs.getD k 0 = 0 := getD_out xs k (by omega)
        obtain ⟨S, hS⟩ : ∃ S : Nat, S = C + (xs.getD k 0).toNat + (ys.getD k 0).toNat := ⟨_, rfl⟩
        have hst := plus_step L xs ys k C S hL hS hv
        obtain ⟨X, hX⟩ : ∃ X, X = xs.getD k 0 := ⟨_, rfl⟩
        obtain ⟨Y, hY⟩ : ∃ Y, Y = ys.getD k 0 := ⟨_, rfl⟩
        rw [← hX, ← hY] at hS
        rw [← hX] at wx hx0
        rw [← hY] at wy e2
        have f1 : IntKind.u64.wrap X = X := by rw [IntKind.wrap_u64]; omega
        have f2 : IntKind.u64.wrap Y = Y := by rw [IntKind.wrap_u64]; omega
        have f3 : IntKind.u64.wrap ((C : Int) + Y) = (S : Int) := by rw [IntKind.wrap_u64]; omega
        have f5 := and32 S (by omega)
        obtain ⟨Z, hZ⟩ : ∃ Z : Int, Z = ((S % 4294967296 : Nat) : Int) := ⟨_, rfl⟩
        rw [← hZ] at f5 hst
        have f6 : IntKind.u32.wrap Z = Z := by rw [IntKind.wrap_u32]; omega
        have f7 : (S : Int) / 4294967296 = ((S / 4294967296 : Nat) : Int) := by omega
        have hC' : S / 4294967296 ≤ 1 := by omega
        obtain ⟨C', hC2⟩ : ∃ C' : Nat, C' = S / 4294967296 := ⟨_, rfl⟩
        rw [← hC2] at f7 hst hC'
        have hWL : Wd (L ++ [Z]) := hw.append (Wd.one (by omega))
        have hob := own_block hown
        have hown' : wr.ownsRow w.heap.size 105 1 v k (L.map (Value.int .u32)) := by rw [← hL]; exact hown
        have hsz := hkp.size
        have hkb : k < 1099511627776 := by omega
        clear hc' HX HY HW HN hN hM hX hY hS hv hZ hC2 hown wx wy hw hC hx0
        go_wp2_with (first | (at_builtin; refine wpList_append_own _ rfl _ _ 57 rfl w.heap.size 105 i0 (.int .u32 0) 1 4 Try.underlying57 hi0 hi1 hi2 hi3 rfl (by decide) _ _ _ rfl (hown'.alloc _) ⟨wr.heap.size, 0, none⟩ 1 1 [.int .u32 Z] rfl rfl ?c1 ?c2 ?c3 ?c4 ?c5 ?_))
        case c1 =>
          intro j' u hj'
          match j', hj' with
          | 0, hj' => simp at hj'; subst hj'; simp [Addr.add]
        case c2 => intro u hu; simp at hu; subst hu; rfl
        case c3 => unfold maxLen; omega
        case c4 => omega
        case c5 => simp; omega
        intro v' w1 hown2 hgrow _
        have hO : Own w1 w.heap.size v' (L ++ [Z]) := by refine Own.push ?_; rw [hL]; exact hown2
        have hK2 : Kp w w1 := (hkp.alloc _).grown hgrow hob
        clear hown2 hgrow hown' hkp hob hsz
        go_wp2
        exact ⟨⟨_, k + 1, C', _, rfl, by go_num, by go_num, hO, hK2, by simp [hL], hWL, hC', hst, by omega⟩, by simp [intOf]; omega⟩
      · have hv2 : val (L ++ [(C : Int)]) = val xs + val ys := by
          rw [List.take_of_length_le (by omega), List.take_of_length_le (by omega)] at hv
          rw [val_append, hL]
          simp only [val, Int.toNat_natCast, Nat.mul_zero, Nat.add_zero]
          rw [Nat.mul_comm]; exact hv
        have hWL : Wd (L ++ [(C : Int)]) := hw.append (Wd.one (by omega))
        have hob := own_block hown
        have hown' : wr.ownsRow w.heap.size 105 1 v k (L.map (Value.int .u32)) := by rw [← hL]; exact hown
        have hsz := hkp.size
        have f6 : IntKind.u32.wrap (C : Int) = (C : Int) := by rw [IntKind.wrap_u32]; omega
        have hkb : k < 1099511627776 := by omega
        clear HX HY HW HN hN hM hv hown hw hC
        go_wp2_with (first | (at_builtin; refine wpList_append_own _ rfl _ _ 57 rfl w.heap.size 105 i0 (.int .u32 0) 1 4 Try.underlying57 hi0 hi1 hi2 hi3 rfl (by decide) _ _ _ rfl (hown'.alloc _) ⟨wr.heap.size, 0, none⟩ 1 1 [.int .u32 (C : Int)] rfl rfl ?c1 ?c2 ?c3 ?c4 ?c5 ?_))
        case c1 =>
          intro j' u hj'
          match j', hj' with
          | 0, hj' => simp at hj'; subst hj'; simp [Addr.add]
        case c2 => intro u hu; simp at hu; subst hu; rfl
        case c3 => unfold maxLen; omega
        case c4 => omega
        case c5 => simp; omega
        intro v' w1 hown2 hgrow _
        have hO : Own w1 w.heap.size v' (L ++ [(C : Int)]) := by refine Own.push ?_; rw [hL]; exact hown2
        have hK2 : Kp w w1 := (hkp.alloc _).grown hgrow hob
        have hll : (L ++ [(C : Int)]).length ≤ 1099511627776 := by simp [hL]; omega
        clear hown2 hgrow hown' hkp hob hsz
        obtain ⟨p', c', rfl, hA, _⟩ := hO.arr
        have hno := rnorm_ p' c' (L ++ [(C : Int)]) w1 hA hll
        obtain ⟨LL, hLL⟩ : ∃ LL, LL = L ++ [(C : Int)] := ⟨_, rfl⟩
        rw [← hLL] at hno hv2 hWL hA hll
        have hl2 : (L ++ [(C : Int)]).length = LL.length := by rw [hLL]
        clear hO hLL
        go_wp2_with fail
        refine hno.mono ?_
        rintro e w2 ⟨v2, rfl, hO2, hk2⟩
        clear hno hA f6
        go_wp2
        exact bodyPost_ret (v := v2) (by simp [results, Try.results93, go_sem] <;> simp only [*]) rfl ⟨v2, LL, rfl, hO2.mono hK2.size, hWL, hv2, hll, hK2.trans hk2⟩
end Go.Proofs.Ytnjbheammpdjfaa
