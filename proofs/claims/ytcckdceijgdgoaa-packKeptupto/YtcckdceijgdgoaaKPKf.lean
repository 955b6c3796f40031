import Derived.Test.YtcckdceijgdgoaaKPKa
import Derived.Test.YtcckdceijgdgoaaKQA
namespace Go.Proofs.Ytcckdceijgdgoaa
open Go.RowKit
open Go
namespace B8
set_option maxRecDepth 20000 in
set_option maxHeartbeats 1000000 in
theorem joined_ (p q : Option Addr) (c d : Nat) (xs ys : List Int) (w : World) (hx : Arr w p xs) (hy : Arr w q ys) (lx : xs.length ≤ 1099511627776) (ly : ys.length ≤ 1099511627776) :
    Calls Try.prog 58 #[.slice p xs.length c, .slice q ys.length d] w fun e w' => ∃ v, e = .returned v ∧ Own w' w.heap.size v (xs ++ ys) ∧ Kp w w' := by
  have hlx := lx
  have hly := ly
  obtain ⟨N, hN⟩ : ∃ N, N = xs.length := ⟨_, rfl⟩
  obtain ⟨M, hM⟩ : ∃ M, M = ys.length := ⟨_, rfl⟩
  rw [← hN] at lx ⊢
  rw [← hM] at ly ⊢
  have HX : Hid (Arr w p xs) := hx
  have HY : Hid (Arr w q ys) := hy
  have HN : Hid (N = xs.length ∧ M = ys.length) := ⟨hN, hM⟩
  obtain ⟨i0, hi0, hi1, hi2, hi3⟩ := inf8p
  clear hN hM hx hy
  go_enter Try.func58, Try.ntmps58
  go_wp2
  go_loopw [5, 6] (fun a i wr => ∃ (v : Value) (j : Nat), v = a ∧ j ≤ N ∧ i = .int .i64 j ∧ Own wr w.heap.size v (xs.take j) ∧ Kp w wr) (fun _ i _ => N - (intOf i).toNat)
  case atStart => exact ⟨_, 0, rfl, Nat.zero_le _, rfl, by simpa using Own.nil w w.heap.size, Kp.refl _⟩
  case round =>
    obtain ⟨v, j, rfl, hj, rfl, hown, hkp⟩ := hrel
    obtain ⟨hN, hM⟩ := HN.out
    by_cases cj : j < N
    · obtain ⟨b, off, rfl, hc2⟩ := HX.out.at (k := j) (by omega)
      have e2 := kkeep hkp (hc2 j (by omega))
      have hpush := take_push xs j (by omega)
      have hob := own_block hown
      have hlen : (xs.take j).length = j := by rw [List.length_take]; omega
      have hown' : wr.ownsRow w.heap.size 5 1 v ((xs.take j).length) ((xs.take j).map (Value.int .u8)) := hown
      obtain ⟨Y, hY⟩ : ∃ Y, Y = xs.getD j 0 := ⟨_, rfl⟩
      rw [← hY] at e2 hpush
      have hsz := hkp.size
      have hjX : j < xs.length := by omega
      clear hc2 hY HX HY HN hown
      clear hN hM
      go_wp2_with (first | (at_builtin; refine wpList_append_own _ rfl _ _ 35 rfl w.heap.size 5 i0 (.int .u8 0) 1 1 Try.underlying35 hi0 hi1 hi2 hi3 rfl (by decide) _ _ _ rfl (hown'.alloc _) ⟨wr.heap.size, 0, none⟩ 1 1 [.int .u8 Y] rfl rfl ?c1 ?c2 ?c3 ?c4 ?c5 ?_))
      case c1 =>
        intro j' u hj'
        match j', hj' with
        | 0, hj' => simp at hj'; subst hj'; simp [Addr.add]
      case c2 => intro u hu; simp at hu; subst hu; rfl
      case c3 => unfold maxLen; omega
      case c4 => omega
      case c5 => simp; omega
      intro v' w1 hown2 hgrow _
      have hO : Own w1 w.heap.size v' (xs.take (j + 1)) := by
        rw [← hpush]
        unfold Own
        rw [show (xs.take j ++ [Y]).length = j + 1 from by simp only [List.length_append, List.length_take, List.length_cons, List.length_nil]; omega]
        simpa [List.map_append, List.map_take] using hown2
      have hK2 : Kp w w1 := (hkp.alloc _).grown hgrow hob
      clear hown2 hgrow hown' hkp hob e2 hsz hpush hlen
      go_wp2
      exact ⟨⟨_, j + 1, rfl, by omega, by go_num, hO, hK2⟩, by simp [intOf]; omega⟩
    · have hjk : j = N := by omega
      subst hjk
      rw [List.take_of_length_le (by omega)] at hown
      have hown0 : Own wr w.heap.size v (xs ++ ys.take 0) := by simpa using hown
      have hkp0 := hkp
      clear hown hkp hN hM cj hj
      go_wp2
      go_loopw [5, 7] (fun a i wr => ∃ (v : Value) (j : Nat), v = a ∧ j ≤ M ∧ i = .int .i64 j ∧ Own wr w.heap.size v (xs ++ ys.take j) ∧ Kp w wr) (fun _ i _ => M - (intOf i).toNat)
      case atStart => exact ⟨_, 0, rfl, Nat.zero_le _, rfl, hown0, hkp0⟩
      case round =>
        clear hown0 hkp0
        obtain ⟨v, j, rfl, hj, rfl, hown, hkp⟩ := hrel
        obtain ⟨hN, hM⟩ := HN.out
        by_cases cj : j < M
        · obtain ⟨b, off, rfl, hc2⟩ := HY.out.at (k := j) (by omega)
          have e2 := kkeep hkp (hc2 j (by omega))
          have hpush := take_push ys j (by omega)
          have hob := own_block hown
          have hlen : (xs ++ ys.take j).length = xs.length + j := by rw [List.length_append, List.length_take]; omega
          have hown' : wr.ownsRow w.heap.size 5 1 v ((xs ++ ys.take j).length) ((xs ++ ys.take j).map (Value.int .u8)) := hown
          obtain ⟨Y, hY⟩ : ∃ Y, Y = ys.getD j 0 := ⟨_, rfl⟩
          rw [← hY] at e2 hpush
          have hsz := hkp.size
          have hjX : j < ys.length := by omega
          clear hc2 hY HX HY HN hown
          clear hN hM
          go_wp2_with (first | (at_builtin; refine wpList_append_own _ rfl _ _ 35 rfl w.heap.size 5 i0 (.int .u8 0) 1 1 Try.underlying35 hi0 hi1 hi2 hi3 rfl (by decide) _ _ _ rfl (hown'.alloc _) ⟨wr.heap.size, 0, none⟩ 1 1 [.int .u8 Y] rfl rfl ?c1 ?c2 ?c3 ?c4 ?c5 ?_))
          case c1 =>
            intro j' u hj'
            match j', hj' with
            | 0, hj' => simp at hj'; subst hj'; simp [Addr.add]
          case c2 => intro u hu; simp at hu; subst hu; rfl
          case c3 => unfold maxLen; omega
          case c4 => omega
          case c5 => simp; omega
          intro v' w1 hown2 hgrow _
          have hO : Own w1 w.heap.size v' (xs ++ ys.take (j + 1)) := by
            rw [← hpush]
            unfold Own
            rw [show (xs ++ (ys.take j ++ [Y])).length = xs.length + j + 1 from by simp only [List.length_append, List.length_take, List.length_cons, List.length_nil]; omega]
            simpa [List.map_append, List.map_take] using hown2
          have hK2 : Kp w w1 := (hkp.alloc _).grown hgrow hob
          clear hown2 hgrow hown' hkp hob e2 hsz hpush hlen
          go_wp2
          exact ⟨⟨_, j + 1, rfl, by omega, by go_num, hO, hK2⟩, by simp [intOf]; omega⟩
        · have hjk : j = M := by omega
          rw [List.take_of_length_le (by omega)] at hown
          clear hN hM HN HX HY
          go_wp2
          exact bodyPost_ret (v := v) (by simp [results, Try.results58, go_sem] <;> simp only [*]) rfl ⟨_, rfl, hown, hkp⟩
end B8
end Go.Proofs.Ytcckdceijgdgoaa
