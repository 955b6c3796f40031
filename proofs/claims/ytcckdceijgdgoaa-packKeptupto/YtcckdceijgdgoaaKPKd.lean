import Derived.Test.YtcckdceijgdgoaaKPKa
import Derived.Test.YtcckdceijgdgoaaKQA
namespace Go.Proofs.Ytcckdceijgdgoaa
open Go.RowKit
open Go
namespace B8
set_option maxRecDepth 20000 in
set_option maxHeartbeats 1000000 in
theorem same_ (p q : Option Addr) (c d : Nat) (xs ys : List Int) (w : World) (hx : Arr w p xs) (hy : Arr w q ys) (lx : xs.length ≤ 1099511627776) :
    Calls Try.prog 22 #[.slice p xs.length c, .slice q ys.length d] w fun e w' => e = .returned (.bool (decide (xs = ys))) ∧ Kp w w' := by
  by_cases hl : xs.length = ys.length
  · have d1 : ((xs.length : Int) != (ys.length : Int)) = false := by simp; omega
    obtain ⟨N, hN⟩ : ∃ N, N = xs.length := ⟨_, rfl⟩
    obtain ⟨M, hM⟩ : ∃ M, M = ys.length := ⟨_, rfl⟩
    have HX : Hid (Arr w p xs) := hx
    have HY : Hid (Arr w q ys) := hy
    have HN : Hid (N = xs.length ∧ M = ys.length ∧ N = M ∧ N ≤ 1099511627776) := ⟨hN, hM, by omega, by omega⟩
    rw [← hN, ← hM] at d1 ⊢
    clear hx hy lx hl hN hM
    go_enter Try.func22, Try.ntmps22
    go_wp2
    go_loopw [5] (fun i wr => ∃ k : Nat, k ≤ N ∧ i = .int .i64 k ∧ Kp w wr ∧ xs.take k = ys.take k) (fun i _ => N - (intOf i).toNat)
    case atStart => exact ⟨0, Nat.zero_le _, rfl, Kp.refl _, by simp⟩
    case round =>
      obtain ⟨k, hk, rfl, hg, ht⟩ := hrel
      obtain ⟨hN, hM, hNM, hB⟩ := HN.out
      by_cases ck : k < N
      · obtain ⟨b, off, rfl, hc⟩ := HX.out.at (k := k) (by omega)
        obtain ⟨b', off', rfl, hc'⟩ := HY.out.at (k := k) (by omega)
        have e1 := kkeep hg (hc k (by omega))
        have e2 := kkeep hg (hc' k (by omega))
        have hm : k < M := by omega
        have hst := take_eq_step (xs := xs) (ys := ys) (k := k) (by omega) (by omega) ht
        have hne : xs.getD k 0 ≠ ys.getD k 0 → xs ≠ ys := fun h hh => h (by rw [hh])
        obtain ⟨X, hX⟩ : ∃ X, X = xs.getD k 0 := ⟨_, rfl⟩
        obtain ⟨Y, hY⟩ : ∃ Y, Y = ys.getD k 0 := ⟨_, rfl⟩
        rw [← hX] at e1 hst hne
        rw [← hY] at e2 hst hne
        clear hc hc' HX HY hN hM hNM hk ht hX hY
        by_cases cx : X = Y
        · have t1 : (X != Y) = false := by simp [cx]
          have ht2 := hst cx
          clear hst hne cx
          go_wp2
          refine wp_region_kp (by kernel_rfl) (by kernel_rfl) (fun ι _ G hG hall => ?_)
          have c0 : ∀ n, (G n).cell? ⟨b, off + k, none⟩ = some (.int .u8 X) := fun n => kkeep (hG n) e1
          have c1 : ∀ n, (G n).cell? ⟨b', off' + k, none⟩ = some (.int .u8 Y) := fun n => kkeep (hG n) e2
          repeat (go_big_quiet_step (fail))
          refine wpQuiet_nil ?_
          rintro _ ⟨nq, rfl⟩
          have gq := hG nq
          clear c0 c1 hall
          go_wp2
          refine ⟨⟨k + 1, by omega, by go_num, Kp.trans hg gq, ht2⟩, by simp [intOf]; omega⟩
        · have t1 : (X != Y) = true := by simp [cx]
          have hd := hne cx
          have hd2 : decide (xs = ys) = false := by simp [hd]
          clear hst hne cx hd
          go_wp2
          refine wp_region_kp (by kernel_rfl) (by kernel_rfl) (fun ι _ G hG hall => ?_)
          have c0 : ∀ n, (G n).cell? ⟨b, off + k, none⟩ = some (.int .u8 X) := fun n => kkeep (hG n) e1
          have c1 : ∀ n, (G n).cell? ⟨b', off' + k, none⟩ = some (.int .u8 Y) := fun n => kkeep (hG n) e2
          repeat (go_big_quiet_step (fail))
          refine wpQuiet_nil ?_
          rintro _ ⟨nq, rfl⟩
          have gq := hG nq
          clear c0 c1 hall
          go_wp2
          exact bodyPost_ret (v := .bool false) (by simp [results, Try.results22, go_sem] <;> simp only [*]) rfl ⟨by first | rfl | rw [hd2], Kp.trans hg gq⟩
      · have hkN : k = N := by omega
        have hxy : xs = ys := by
          rw [hkN, hN, List.take_length] at ht
          rw [← hN, hNM, hM, List.take_length] at ht
          exact ht
        have hd2 : decide (xs = ys) = true := by simp [hxy]
        have hk2 : ¬ ((k : Int) < (N : Int)) := by omega
        clear hxy ht hN hM hNM
        go_wp2
        exact bodyPost_ret (v := .bool true) (by simp [results, Try.results22, go_sem] <;> simp only [*]) rfl ⟨by first | rfl | rw [hd2], hg⟩
  · have d1 : ((xs.length : Int) != (ys.length : Int)) = true := by simp; omega
    have hd2 : decide (xs = ys) = false := by
      have : xs ≠ ys := fun h => hl (by rw [h])
      simp [this]
    obtain ⟨N, hN⟩ : ∃ N, N = xs.length := ⟨_, rfl⟩
    obtain ⟨M, hM⟩ : ∃ M, M = ys.length := ⟨_, rfl⟩
    rw [← hN, ← hM] at d1 ⊢
    clear hx hy lx hl hN hM
    go_enter Try.func22, Try.ntmps22
    go_wp2
    exact bodyPost_ret (v := .bool false) (by simp [results, Try.results22, go_sem] <;> simp only [*]) rfl ⟨by first | rfl | rw [hd2], Kp.refl _⟩
end B8
end Go.Proofs.Ytcckdceijgdgoaa
