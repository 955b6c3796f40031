import Derived.Test.YtjkbapnndoldgaaKBY
import Derived.Test.YtjkbapnndoldgaaKW4
namespace Go.Proofs.Ytjkbapnndoldgaa
open Go.RowKit
set_option maxRecDepth 20000 in
theorem leftR (v : Value) (a m : Nat) (w : World) (h : Ls w v (dig a)) (l : blen a ≤ 16777216) (hm : m ≤ 16777216) :
    Calls Try.prog 96 #[v, .int .i64 (m : Int)] w fun e w' => ∃ v', e = .returned v' ∧ Ls w' v' (dig (a * 2 ^ m)) ∧ Kp w w' := by
  obtain ⟨p, c, rfl, hA, hc⟩ := h
  have h := rleft_ p c m (dig a) w hA (Wd_dig a) (Nat.le_trans (dlen a 524288 (by omega)) (by omega)) hm
  rw [val_dig] at h
  exact h.mono fun e w' ⟨v, h1, h2, h3⟩ => ⟨v, h1, h2.ls, h3⟩
set_option maxRecDepth 20000 in
theorem cmpR (v1 v2 : Value) (a b : Nat) (w : World) (h1 : Ls w v1 (dig a)) (h2 : Ls w v2 (dig b)) (l1 : blen a ≤ 33554432) (l2 : blen b ≤ 33554432) :
    Calls Try.prog 95 #[v1, v2] w fun e w' => e = .returned (.int .i64 (cmpN a b)) ∧ Kp w w' := by
  obtain ⟨p, c, rfl, hA, hc⟩ := h1
  obtain ⟨q, d, rfl, hB, hd⟩ := h2
  have e1 := dlen a 1048576 (by omega)
  have e2 := dlen b 1048576 (by omega)
  have h := rcmp_ p q c d (dig a) (dig b) w hA hB (Wd_dig a) (Wd_dig b) (by omega) (by omega)
  rw [val_dig, val_dig] at h
  exact h
set_option maxRecDepth 20000 in
theorem lenR (v : Value) (a : Nat) (w : World) (h : Ls w v (dig a)) (l : blen a ≤ 33554432) :
    Calls Try.prog 94 #[v] w fun e w' => e = .returned (.int .i64 (blen a : Nat)) ∧ w' = w := by
  obtain ⟨p, c, rfl, hA, hc⟩ := h
  have e1 := dlen a 1048576 (by omega)
  have h := rlen_ p c (dig a) w hA (Wd_dig a) (by omega)
  rw [val_dig] at h
  exact h
set_option maxRecDepth 20000 in
theorem normR (v : Value) (L : List Int) (w : World) (h : Ls w v L) (hw : Wd L) (l : L.length ≤ 1048576) :
    Calls Try.prog 113 #[v] w fun e w' => ∃ v', e = .returned v' ∧ Ls w' v' (dig (val L)) ∧ Kp w w' := by
  obtain ⟨p, c, rfl, hA, hc⟩ := h
  have h := rnorm_ p c L w hA (by omega)
  rw [nz_dig L hw] at h
  exact h.mono fun e w' ⟨v, h1, h2, h3⟩ => ⟨v, h1, h2.ls, h3⟩
set_option maxRecDepth 20000 in
theorem wordR (v : Value) (a : Nat) (w : World) (h : Ls w v (dig a)) (l : a < 18446744073709551616) :
    Calls Try.prog 100 #[v] w fun e w' => e = .returned (.tuple #[.int .u64 (a : Int), .bool true]) ∧ w' = w := by
  obtain ⟨p, c, rfl, hA, hc⟩ := h
  have hl : len32 a ≤ 2 := by
    by_cases c : len32 a ≤ 2
    · exact c
    · exfalso
      have := len32_lt a 2 (by omega)
      omega
  have hl2 : (dig a).length ≤ 2 := hl
  have h := rword_ p c (dig a) w hA (Wd_dig a) (by omega)
  rw [val_dig] at h
  unfold wordN at h
  rw [if_neg (by omega)] at h
  exact h
set_option maxRecDepth 20000 in
theorem byR (v1 v2 : Value) (a b : Nat) (w : World) (h1 : Ls w v1 (dig a)) (h2 : Ls w v2 (dig b)) (l1 : blen a ≤ 33554432) (l2 : blen b ≤ 8388608) (h0 : 0 < b) :
    Calls Try.prog 99 #[v1, v2] w fun e w' => ∃ q r, e = .returned (.tuple #[q, r]) ∧ Ls w' q (dig (a / b)) ∧ Ls w' r (dig (a % b)) ∧ Kp w w' := by
  obtain ⟨p, c, rfl, hA, hc⟩ := h1
  obtain ⟨q, d, rfl, hB, hd⟩ := h2
  have e1 := dlen a 1048576 (by omega)
  have e2 := dlen b 262144 (by omega)
  have h := rby_ p q c d (dig a) (dig b) w hA hB (Wd_dig a) (Wd_dig b) e1 (by omega) (by rw [tl_dig]; exact e2) (by rw [val_dig]; exact h0)
  rw [val_dig, val_dig] at h
  exact h.mono fun e w' ⟨v, he, ⟨p1, c1, p2, c2, e2, o1, o2, _⟩, hk⟩ => ⟨_, _, by rw [he, e2], o1.ls, o2.ls, hk⟩
end Go.Proofs.Ytjkbapnndoldgaa
