import Derived.Test.YtbcjhmdkpkmieaaKPKa
import Derived.Test.YtbcjhmdkpkmieaaKQA
namespace Go.Proofs.Ytbcjhmdkpkmieaa
open Go.RowKit
open Go
namespace B8
set_option maxRecDepth 20000 in
set_option maxHeartbeats 1000000 in
theorem copied_ (p : Option Addr) (c : Nat) (xs : List Int) (w : World) (hx : Arr w p xs) (lx : xs.length ≤ 1099511627776) :
    Calls Try.prog 13 #[.slice p xs.length c] w fun e w' => ∃ v, e = .returned v ∧ Own w' w.heap.size v xs ∧ Kp w w' := by
  obtain ⟨N, hN⟩ : ∃ N, N = xs.length := ⟨_, rfl⟩
  rw [← hN] at lx ⊢
  have HX : Hid (Arr w p xs) := hx
  have HN : Hid (N = xs.length) := hN
  obtain ⟨i0, hi0, hi1, hi2, hi3⟩ := inf8p
  clear hN hx
  go_enter Try.func13, Try.ntmps13
  go_wp2
  go_loopw [3, 4] (fun a i wr => ∃ (v : Value) (j : Nat), v = a ∧ j ≤ N ∧ i = .int .i64 j ∧ Own wr w.heap.size v (xs.take j) ∧ Kp w wr) (fun _ i _ => N - (intOf i).toNat)
  case atStart => exact ⟨_, 0, rfl, Nat.zero_le _, rfl, by simpa using Own.nil w w.heap.size, Kp.refl _⟩
  case round =>
    obtain ⟨v, j, rfl, hj, rfl, hown, hkp⟩ := hrel
    have hN := HN.out
    by_cases cj : j < N
    · obtain ⟨b, off, rfl, hc2⟩ := HX.out.at (k := j) (by omega)
      have e2 := kkeep hkp (hc2 j (by omega))
      have hpush := take_push xs j (by omega)
      have hob := own_block hown
      have hlen : (xs.take j).length = j := by rw [List.length_take]; omega
      have hown' : wr.ownsRow w.heap.size 5 1 v ((xs.take j).length) ((xs.take j).map (Value.int .u8)) := hown
      obtain ⟨Y, hY⟩ : ∃ Y, Y = xs.getD j 0 := ⟨_, rfl⟩
      rw [← hY] at e2 hpush
      have hsz := hkp.size
      clear hc2 hY HX HN hown
      clear hN
      go_wp2_with (first | (at_builtin; refine wpList_append_own _ rfl _ _ 22 rfl w.heap.size 5 i0 (.int .u8 0) 1 1 Try.underlying22 hi0 hi1 hi2 hi3 rfl (by decide) _ _ _ rfl (hown'.alloc _) ⟨wr.heap.size, 0, none⟩ 1 1 [.int .u8 Y] rfl rfl ?c1 ?c2 ?c3 ?c4 ?c5 ?_))
      case c1 =>
        intro j' u hj'
        match j', hj' with
        | 0, hj' => simp at hj'; subst hj'; simp [Addr.add]
      case c2 => intro u hu; simp at hu; subst hu; rfl
      case c3 => unfold maxLen; omega
      case c4 => omega
      case c5 => simp; omega
      intro v' w1 hown2 hgrow _
      have hO : Own w1 w.heap.size v' (xs.take (j + 1)) := by rw [← hpush]; refine Own.push ?_; rw [hlen, List.map_take]; exact hown2
      have hK2 : Kp w w1 := (hkp.alloc _).grown hgrow hob
      clear hown2 hgrow hown' hkp hob e2 hsz hpush hlen
      go_wp2
      exact ⟨⟨_, j + 1, rfl, by omega, by go_num, hO, hK2⟩, by simp [intOf]; omega⟩
    · have hjk : j = N := by omega
      rw [List.take_of_length_le (by omega)] at hown
      clear hN HN HX
      go_wp2
      exact bodyPost_ret (v := v) (by simp [results, Try.results13, go_sem] <;> simp only [*]) rfl ⟨_, rfl, hown, hkp⟩
end B8
end Go.Proofs.Ytbcjhmdkpkmieaa
