import Derived.Test.YtbcjhmdkpkmieaaKPKy
namespace Go.Proofs.Ytbcjhmdkpkmieaa
open Go.RowKit
open Go
namespace B8
set_option maxRecDepth 20000 in
set_option maxHeartbeats 1000000 in
theorem left_ (p q : Option Addr) (c d N M : Nat) (xs zs : List Int) (w : World) (hx : Arr w p xs) (hz : Arr w q zs) (hl : xs.length = N) (hM : M = N + 40) (hzs : zs = xs ++ List.replicate 40 201) (lx : N ≤ 1048576) (hd : M ≤ d) :
    Calls Try.prog 26 #[.slice p N c, .slice q M d] w fun e w' => e = .returned (.bool true) ∧ Kp w w' := by
  have hzl : zs.length = M := by rw [hzs, List.length_append, List.length_replicate]; omega
  obtain ⟨b, off, rfl, hcell⟩ := hz.at (k := 0) (by omega)
  have hsl := slh b off N M d (by omega)
  have hxs2 : Arr w (some ⟨b, off, none⟩) xs := Or.inr ⟨b, off, rfl, fun j hj => by
    rw [hcell j (by omega), hzs]
    simp [List.getD, List.getElem?_append, hj]⟩
  have hsm : ∀ W : World, Kp w W → Calls Try.prog 10 #[.slice p N c, .slice (some ⟨b, off, none⟩) N d] W fun e w' => e = .returned (.bool true) ∧ Kp W w' := by
    intro W k
    have := same_ p (some ⟨b, off, none⟩) c d xs xs W (hx.grown k) (hxs2.grown k) (by omega)
    rw [hl, decide_eq_true rfl] at this
    exact this
  have hcc : ∀ j, N ≤ j → j < M → w.cell? ⟨b, off + j, none⟩ = some (.int .u8 201) := by
    intro j h1 h2
    rw [hcell j (by omega), hzs]
    rw [List.getD, List.getElem?_append_right (by omega), List.getElem?_replicate, hl, if_pos (by omega)]; rfl
  have HC : Hid (∀ j, N ≤ j → j < M → w.cell? ⟨b, off + j, none⟩ = some (.int .u8 201)) := hcc
  have f1 : (M : Int) - 40 = (N : Int) := by omega
  have HM : Hid (M = N + 40) := hM
  have hM9 : M ≤ 2097152 := by omega
  clear hcell hxs2 hcc hz hx hl hM hzs hzl
  go_enter Try.func26, Try.ntmps26
  go_wp2
  go_loop [6] (fun i => ∃ j : Nat, N ≤ j ∧ j ≤ M ∧ i = .int .i64 (j : Int)) (fun i => M - (intOf i).toNat)
  case atStart => exact ⟨N, Nat.le_refl _, by have := HM.out; omega, rfl⟩
  case round =>
    obtain ⟨j, h1, h2, rfl⟩ := hrel
    by_cases cj : j < M
    · have e1 := HC.out j h1 cj
      clear HC HM hsm hsl
      go_wp2
      exact ⟨⟨j + 1, by omega, by omega, by go_num⟩, by simp [intOf]; omega⟩
    · clear HC HM
      go_wp2_with (first | (go_at_call 10; refine (hsm _ (Kp.refl _)).mono ?_; rintro e w2 ⟨rfl, k2⟩))
      exact bodyPost_ret (v := .bool true) (by simp [results, Try.results26, go_sem]) rfl ⟨rfl, k2⟩
end B8
end Go.Proofs.Ytbcjhmdkpkmieaa
