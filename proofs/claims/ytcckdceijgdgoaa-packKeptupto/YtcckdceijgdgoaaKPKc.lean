import Derived.Test.YtcckdceijgdgoaaKPKa
import Derived.Test.YtcckdceijgdgoaaKQA
namespace Go.Proofs.Ytcckdceijgdgoaa
open Go.RowKit
open Go
namespace B8
theorem pow_le (k : Nat) (hk : k < 8) : 256 ^ k ≤ 72057594037927936 := by
  have : 256 ^ k ≤ 256 ^ 7 := Nat.pow_le_pow_right (by decide) (by omega)
  exact this
theorem or_word (B Y k : Nat) (hB : B < 256 ^ k) (hY : Y < 256) (hk : k < 8) : bits BinOp.or IntKind.u64 (B : Int) (IntKind.u64.wrap ((Y : Int) * 2 ^ (8 * k))) = ((B + Y * 256 ^ k : Nat) : Int) := by
  have e : (Y : Int) * 2 ^ (8 * k) = ((Y * 256 ^ k : Nat) : Int) := by
    rw [Int.natCast_mul, Int.natCast_pow, Int.pow_mul]; rfl
  have h1 := pow_le k hk
  have h2 : Y * 256 ^ k ≤ 255 * 72057594037927936 := Nat.mul_le_mul (by omega) h1
  rw [e, IntKind.wrap_u64, show ((Y * 256 ^ k : Nat) : Int) % 18446744073709551616 = ((Y * 256 ^ k : Nat) : Int) from by omega]
  rw [bits_or_u64_nat B (Y * 256 ^ k) (by omega) (by omega), or_step B Y k hB]
set_option maxRecDepth 20000 in
set_option maxHeartbeats 1000000 in
theorem number_ (p : Option Addr) (c : Nat) (xs : List Int) (w : World) (hx : Arr w p xs) (hl : xs.length = 8) (hw : Wb xs) : Calls Try.prog 28 #[.slice p 8 c] w fun e w' => e = .returned (.float .f64 (bv xs)) ∧ w' = w := by
  have hff := Fq.ff64 (bv xs)
  have HX : Hid (Arr w p xs ∧ xs.length = 8 ∧ Wb xs) := ⟨hx, hl, hw⟩
  clear hx hl hw
  go_enter Try.func28, Try.ntmps28
  go_wp2
  go_loop [3, 8] (fun b i => ∃ (k B : Nat), k ≤ 8 ∧ i = .int .i64 k ∧ b = .int .u64 (B : Int) ∧ B = bv (xs.take k)) (fun _ i => 8 - (intOf i).toNat)
  case atStart => exact ⟨0, 0, Nat.zero_le _, rfl, rfl, by simp [bv]⟩
  case round =>
    obtain ⟨k, B, hk, rfl, rfl, hB⟩ := hrel
    obtain ⟨hx, hl, hw⟩ := HX.out
    by_cases ck : k < 8
    · obtain ⟨b, off, rfl, hc⟩ := hx.at (k := k) (by omega)
      have e1 := hc k (by omega)
      have hy := hw k
      have hB2 := bv_take_succ xs k
      rw [← hB] at hB2
      have hBl : B < 256 ^ k := by
        have := bv_lt (xs.take k) (hw.take k)
        rw [List.length_take, Nat.min_eq_left (by omega), ← hB] at this
        exact this
      obtain ⟨Y, hY⟩ := Int.eq_ofNat_of_zero_le hy.1
      rw [hY] at e1 hB2 hy
      have hv := or_word B Y k hBl (by omega) ck
      rw [Int.toNat_natCast] at hB2
      clear hc HX hx hl hw hB hBl hY hff
      go_wp2
      exact ⟨⟨k + 1, B + Y * 256 ^ k, by omega, by go_num, by rw [Int.natCast_add, Int.natCast_mul, Int.natCast_pow]; rfl, hB2.symm⟩, by simp [intOf]; omega⟩
    · have hk8 : k = 8 := by omega
      subst hk8
      rw [List.take_of_length_le (by omega)] at hB
      subst hB
      clear HX hx hl hw ck hk
      go_wp2
      exact bodyPost_ret (v := .float .f64 (bv xs)) (by simp [results, Try.results28, go_sem]) rfl ⟨rfl, rfl⟩
end B8
end Go.Proofs.Ytcckdceijgdgoaa
