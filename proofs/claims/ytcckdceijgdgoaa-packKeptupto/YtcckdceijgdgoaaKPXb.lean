import Derived.Test.YtcckdceijgdgoaaKPKb
namespace Go.Proofs.Ytcckdceijgdgoaa
open Go.RowKit
open Go
namespace B8
set_option maxRecDepth 20000 in
set_option maxHeartbeats 400000 in
theorem boxlen_ (k : Nat) (hk : k ≤ 1048576) (w : World) : Calls Try.prog 43 #[.int .i64 (k : Int)] w fun e w' => e = .returned (.int .i64 ((1 + 16 * k : Nat) : Int)) ∧ w' = w := by
  have e : ((1 + 16 * k : Nat) : Int) = 1 + (k : Int) * 16 := by omega
  rw [e]
  go_enter Try.func43, Try.ntmps43
  go_wp2
  exact bodyPost_ret (v := .int .i64 (1 + (k : Int) * 16)) (by simp [results, Try.results43, go_sem]) rfl ⟨rfl, rfl⟩
set_option maxRecDepth 20000 in
set_option maxHeartbeats 400000 in
theorem part_ (g o n c k : Nat) (hk : k ≤ 1048576) (h : 1 + 16 * k + 16 ≤ c) (w : World) : Calls Try.prog 44 #[.slice (some ⟨g, o, none⟩) n c, .int .i64 (k : Int)] w fun e w' => e = .returned (.slice (some ⟨g, o + (1 + 16 * k), none⟩) 16 16) ∧ w' = w := by
  have h1 := boxlen_ k hk
  have h2 : ∀ w : World, Calls Try.prog 29 #[.slice (some ⟨g, o, none⟩) n c, .int .i64 ((1 + 16 * k : Nat) : Int), .int .i64 16] w fun e w' => e = .returned (.slice (some ⟨g, o + (1 + 16 * k), none⟩) 16 16) ∧ w' = w := cut_ g o n c (1 + 16 * k) 16 h (by decide) (by omega)
  clear h hk
  generalize ((1 + 16 * k : Nat) : Int) = Z at h1 h2
  go_enter Try.func44, Try.ntmps44
  go_wp2_with (first | (go_at_call 43; refine (h1 _).mono ?_; rintro e w' ⟨rfl, rfl⟩) | (go_at_call 29; refine (h2 _).mono ?_; rintro e w' ⟨rfl, rfl⟩))
  exact bodyPost_ret (v := .slice (some ⟨g, o + (1 + 16 * k), none⟩) 16 16) (by simp [results, Try.results44, go_sem]) rfl ⟨rfl, rfl⟩
end B8
end Go.Proofs.Ytcckdceijgdgoaa
