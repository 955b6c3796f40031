import Derived.Test.YtbcjhmdkpkmieaaKPKa
import Derived.Test.YtbcjhmdkpkmieaaKQA
namespace Go.Proofs.Ytbcjhmdkpkmieaa
open Go.RowKit
open Go
namespace B8
set_option maxRecDepth 20000 in
set_option maxHeartbeats 1000000 in
theorem taken_ (p : Option Addr) (c o N : Nat) (xs : List Int) (w : World) (hx : Arr w p xs) (hl : xs.length = N) (hw : Wb xs) (ho : o + 8 ≤ N) (hN : N ≤ 1099511627776) : Calls Try.prog 44 #[.slice p N c, .int .i64 (o : Int)] w fun e w' => e = .returned (.int .u64 ((bv ((xs.drop o).take 8) : Nat) : Int)) ∧ w' = w := by
  have HX : Hid (Arr w p xs ∧ xs.length = N ∧ Wb xs ∧ ((xs.drop o).take 8).length = 8 ∧ Wb ((xs.drop o).take 8)) := ⟨hx, hl, hw, by rw [List.length_take, List.length_drop]; omega, (hw.drop o).take 8⟩
  obtain ⟨ys, hys⟩ : ∃ ys, ys = (xs.drop o).take 8 := ⟨_, rfl⟩
  have HY : Hid (ys = (xs.drop o).take 8) := hys
  rw [← hys] at HX ⊢
  clear hx hl hw hys
  go_enter Try.func44, Try.ntmps44
  go_wp2
  go_loop [5, 6] (fun v i => ∃ (k B : Nat), k ≤ 8 ∧ i = .int .i64 ((k : Int) - 1) ∧ v = .int .u64 (B : Int) ∧ B = bv (ys.drop k)) (fun _ i => (intOf i + 1).toNat)
  case atStart => exact ⟨8, 0, Nat.le_refl _, rfl, rfl, by rw [List.drop_of_length_le (by rw [HX.out.2.2.2.1]; exact Nat.le_refl _)]; rfl⟩
  case round =>
    obtain ⟨k, B, hk, rfl, rfl, hB⟩ := hrel
    obtain ⟨hx, hl, hw, hl2, hw2⟩ := HX.out
    rcases k with _ | k
    · rw [List.drop_zero] at hB
      subst hB
      clear HX HY hx hl hw hl2 hw2 hk
      go_wp2
      exact bodyPost_ret (v := .int .u64 ((bv ys : Nat) : Int)) (by simp [results, Try.results44, go_sem]) rfl ⟨rfl, rfl⟩
    · obtain ⟨b, off, rfl, hc⟩ := hx.at (k := o + k) (by omega)
      have e1 := hc (o + k) (by omega)
      have ey : xs.getD (o + k) 0 = ys.getD k 0 := by
        rw [HY.out]; simp [List.getD, List.getElem?_drop, show k < 8 from by omega]
      rw [ey] at e1
      have hy := hw2 k
      have hB2 := bv_drop_succ ys k (by omega)
      rw [← hB] at hB2
      have hBl : bv (ys.drop k) < 18446744073709551616 := by
        have := bv_lt (ys.drop k) (hw2.drop k)
        have h8 : (256 : Nat) ^ (ys.drop k).length ≤ 256 ^ 8 := Nat.pow_le_pow_right (by decide) (by rw [List.length_drop]; omega)
        exact Nat.lt_of_lt_of_le this h8
      obtain ⟨Y, hY⟩ := Int.eq_ofNat_of_zero_le hy.1
      rw [hY] at e1 hB2 hy
      rw [Int.toNat_natCast] at hB2
      obtain ⟨E, hE⟩ : ∃ E, E = bv (ys.drop k) := ⟨_, rfl⟩
      rw [← hE] at hB2 hBl
      have f0 : ((k + 1 : Nat) : Int) - 1 = (k : Int) := by omega
      have f1 : (B : Int) * 256 % 18446744073709551616 = (B : Int) * 256 := by omega
      have f2 : ((B : Int) * 256 + (Y : Int)) % 18446744073709551616 = (B : Int) * 256 + (Y : Int) := by omega
      have hko : (o : Int) + (k : Int) < (N : Int) := by omega
      clear hc HX HY hx hl hw hl2 hw2 hB hY ey
      go_wp2
      exact ⟨⟨k, B * 256 + Y, by omega, rfl, by simp, by rw [← hE]; omega⟩, by simp [intOf]⟩
end B8
end Go.Proofs.Ytbcjhmdkpkmieaa
