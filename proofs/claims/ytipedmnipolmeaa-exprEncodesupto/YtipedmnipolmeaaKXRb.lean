import Derived.Test.YtipedmnipolmeaaKPVa
import Derived.Test.YtipedmnipolmeaaKXRa
namespace Go.Proofs.Ytipedmnipolmeaa
open Go.RowKit
open Go
namespace X7
set_option linter.unusedVariables false
set_option maxRecDepth 20000 in
set_option maxHeartbeats 1000000 in
theorem allValid_ (p : Option Addr) (c : Nat) (ps : List (Nat × Nat)) (w : World) (hx : AG FLV w p ps) (hw : Wq ps) (lx : ps.length ≤ 1048576) :
    Calls Try.prog 21 #[.slice p ps.length c] w fun e w' => e = .returned (.bool (allV ps)) ∧ Kp w w' := by
  obtain ⟨N, hN⟩ : ∃ N, N = ps.length := ⟨_, rfl⟩
  obtain ⟨R, hR⟩ : ∃ R, R = allV ps := ⟨_, rfl⟩
  rw [← hN] at lx ⊢
  rw [← hR]
  have HX : Hid (AG FLV w p ps ∧ Wq ps ∧ N = ps.length ∧ R = allV ps) := ⟨hx, hw, hN, hR⟩
  clear hN hx hw hR
  go_enter Try.func21, Try.ntmps21
  go_wp2
  go_loopw [4, 7] (fun s4 s7 wr => ∃ j : Nat, s7 = .int .i64 j ∧ j ≤ N ∧ (∀ k, k < j → Fq.vld (ps.getD k (0, 0)).1 (ps.getD k (0, 0)).2 = true) ∧ Kp w wr) (fun _ s7 _ => N - (intOf s7).toNat)
  case atStart => exact ⟨0, rfl, Nat.zero_le _, fun k hk => absurd hk (Nat.not_lt_zero _), Kp.refl _⟩
  case round =>
    obtain ⟨j, rfl, hj, hall9, hkp⟩ := hrel
    obtain ⟨hx, hw, hN, hR⟩ := HX.out
    by_cases cj : j < N
    · obtain ⟨b, off, rfl, hc2⟩ := hx.at (k := j) (by omega)
      have e1 : wr.cell? ⟨b, off + j * 2, none⟩ = some (.float .f64 (ps.getD j (0, 0)).1) := kkeep hkp (hc2 j (by omega)).1
      have e2 : wr.cell? ⟨b, off + j * 2 + 1, none⟩ = some (.float .f64 (ps.getD j (0, 0)).2) := kkeep hkp (hc2 j (by omega)).2
      have hv := Fq.valid_ (ps.getD j (0, 0)).1 (ps.getD j (0, 0)).2 (hw j).1 (hw j).2
      have HA : Hid (∀ k, k < j → Fq.vld (ps.getD k (0, 0)).1 (ps.getD k (0, 0)).2 = true) := hall9
      obtain ⟨E, hE⟩ : ∃ E, E = Fq.vld (ps.getD j (0, 0)).1 (ps.getD j (0, 0)).2 := ⟨_, rfl⟩
      rw [← hE] at hv
      have HE : Hid (E = Fq.vld (ps.getD j (0, 0)).1 (ps.getD j (0, 0)).2) := hE
      clear hE hall9 hR hN hx hw hc2
      generalize (ps.getD j (0, 0)).1 = Y1 at e1 hv
      generalize (ps.getD j (0, 0)).2 = Y2 at e2 hv
      have AV : True := trivial
      cases E
      · go_wp2_with (first | (go_at_call 40; refine (hv _).mono ?_; rintro e w1 ⟨rfl, g1⟩; have hk1 : Kp w w1 := Kp.trans (hkp.alloc _) g1))
        obtain rfl : R = false := by rw [HX.out.2.2.2]; exact allV_false (k := j) (by have := HX.out.2.2.1; omega) HE.out.symm
        exact bodyPost_ret (v := .bool false) (by simp [results, Try.results21, go_sem]) rfl ⟨rfl, hk1⟩
      · go_wp2_with (first | (go_at_call 40; refine (hv _).mono ?_; rintro e w1 ⟨rfl, g1⟩; have hk1 : Kp w w1 := Kp.trans (hkp.alloc _) g1))
        exact ⟨⟨j + 1, by go_num, by omega, fun k hk => by
          by_cases c : k = j
          · subst c; exact HE.out.symm
          · exact HA.out k (by omega), hk1⟩, by simp [intOf]; omega⟩
    · obtain rfl : R = true := by rw [hR]; exact allV_true (fun k hk => hall9 k (by omega))
      clear hR hN hx hw hall9 HX
      go_wp2
      exact bodyPost_ret (v := .bool true) (by simp [results, Try.results21, go_sem]) rfl ⟨rfl, hkp⟩
end X7
end Go.Proofs.Ytipedmnipolmeaa
