import Derived.Test.YtcckdceijgdgoaaKPKa
import Derived.Test.YtcckdceijgdgoaaKQA
namespace Go.Proofs.Ytcckdceijgdgoaa
open Go.RowKit
open Go
namespace B8
set_option maxRecDepth 20000 in
set_option maxHeartbeats 1000000 in
theorem rnumber_ (X : Nat) (hX : X < 18446744073709551616) (w : World) : Calls Try.prog 59 #[.int .u64 (X : Int)] w fun e w' => ∃ v, e = .returned v ∧ Own w' w.heap.size v (by8 X) ∧ Kp w w' := by
  obtain ⟨i0, hi0, hi1, hi2, hi3⟩ := inf8p
  have HXX : Hid (X < 18446744073709551616) := hX
  clear hX
  go_enter Try.func59, Try.ntmps59
  go_wp2
  go_loopw [0, 3, 4] (fun x a i wr => ∃ (v : Value) (j Z : Nat), v = a ∧ j ≤ 8 ∧ Z = X / 256 ^ j ∧ x = .int .u64 (Z : Int) ∧ i = .int .i64 j ∧ Own wr w.heap.size v ((by8 X).take j) ∧ Kp w wr) (fun _ _ i _ => 8 - (intOf i).toNat)
  case atStart => exact ⟨_, 0, X, rfl, Nat.zero_le _, by simp, rfl, rfl, by simpa using Own.nil w w.heap.size, Kp.refl _⟩
  case round =>
    obtain ⟨v, j, Z, rfl, hj, hZ, rfl, rfl, hown, hkp⟩ := hrel
    by_cases cj : j < 8
    · have hpush := by8_push X j cj
      have hb0 : bt X j = Z % 256 := by rw [hZ]; rfl
      rw [hb0] at hpush
      have hZ2 := pow_step X j
      rw [← hZ] at hZ2
      have hZl : Z < 18446744073709551616 := by rw [hZ]; exact Nat.lt_of_le_of_lt (Nat.div_le_self _ _) HXX.out
      have hob := own_block hown
      have hlen : ((by8 X).take j).length = j := by rw [List.length_take, by8_len]; omega
      have hown' : wr.ownsRow w.heap.size 5 1 v (((by8 X).take j).length) (((by8 X).take j).map (Value.int .u8)) := hown
      have hsz := hkp.size
      have f1 : (Z : Int) % 256 % 256 = ((Z % 256 : Nat) : Int) := by omega
      obtain ⟨Y, hY⟩ : ∃ Y : Int, Y = ((Z % 256 : Nat) : Int) := ⟨_, rfl⟩
      rw [← hY] at hpush f1
      have f2 : (Z : Int) % 256 = Y := by omega
      have f3 : Y % 256 = Y := by omega
      have f4 : IntKind.u64.wrap ((Z : Int) / 256) = ((Z / 256 : Nat) : Int) := by rw [IntKind.wrap_u64]; omega
      have HZ2 : Hid (Z / 256 = X / 256 ^ (j + 1)) := hZ2
      clear hZ2
      clear hZ hZl hown hb0 f1 hY
      go_wp2_with (first | (at_builtin; refine wpList_append_own _ rfl _ _ 35 rfl w.heap.size 5 i0 (.int .u8 0) 1 1 Try.underlying35 hi0 hi1 hi2 hi3 rfl (by decide) _ _ _ rfl (hown'.alloc _) ⟨wr.heap.size, 0, none⟩ 1 1 [.int .u8 Y] rfl rfl ?c1 ?c2 ?c3 ?c4 ?c5 ?_))
      case c1 =>
        intro j' u hj'
        match j', hj' with
        | 0, hj' => simp at hj'; subst hj'; simp [Addr.add]
      case c2 => intro u hu; simp at hu; subst hu; rfl
      case c3 => unfold maxLen; omega
      case c4 => omega
      case c5 => simp; omega
      intro v' w1 hown2 hgrow _
      have hO : Own w1 w.heap.size v' ((by8 X).take (j + 1)) := by
        rw [← hpush]
        refine Own.push ?_
        rw [hlen, List.map_take]; exact hown2
      have hK2 : Kp w w1 := (hkp.alloc _).grown hgrow hob
      clear hown2 hgrow hown' hkp hob hsz hpush hlen
      go_wp2
      exact ⟨⟨_, j + 1, Z / 256, rfl, by omega, HZ2.out, (by first | rfl | rw [f4]), by go_num, hO, hK2⟩, by simp [intOf]; omega⟩
    · have hjk : j = 8 := by omega
      rw [List.take_of_length_le (by rw [by8_len]; omega)] at hown
      clear hZ
      go_wp2
      exact bodyPost_ret (v := v) (by simp [results, Try.results59, go_sem] <;> simp only [*]) rfl ⟨_, rfl, hown, hkp⟩
end B8
end Go.Proofs.Ytcckdceijgdgoaa
