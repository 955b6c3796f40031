import Derived.Test.YtakcpoapokacgabDoorProg
import Derived.Test.YtakcpoapokacgabDoorA
import Derived.Test.YtakcpoapokacgabDoorA2
import Derived.Test.YtakcpoapokacgabDoorA5
import Derived.Test.YtakcpoapokacgabDoorMN
import Derived.Test.YtakcpoapokacgabDoorMV
import Derived.Test.YtakcpoapokacgabDoorS
import Derived.WalkKit
import Derived.ProofKit
import Derived.RowKit3
import Derived.WalkSpells
import Derived.StillTactics
import Derived.Deep.QuietTactic
import Derived.BigQuiet
import Derived.Below
import Derived.Deep.OwnRows
namespace Go.Proofs.YtakcpoapokacgabDoor
open Go.RowKit
set_option maxRecDepth 20000 in
set_option maxHeartbeats 1000000 in
theorem left_ (p : Option Addr) (c g : Nat) (us : List Int) (w : World) (hx : Arr w p us) (hr : Rw w g (us.length + 80) (us ++ gds)) (lx : us.length ≤ 1099511627000) :
    Calls Tryd.prog 12 #[.slice p us.length c, .slice (some ⟨g, 0, none⟩) (us.length + 80) (us.length + 80)] w fun e w' => e = .returned (.bool true) ∧ Kp w w' := by
  have hA : Arr w (some ⟨g, 0, none⟩) us := by
    have := hr.arr us.length (by omega) (by simp)
    rwa [List.take_left'] at this
    rfl
  have hsm := same_ p (some ⟨g, 0, none⟩) c (us.length + 80) us us w hx hA (by omega)
  rw [decide_eq_true rfl] at hsm
  obtain ⟨N, hN⟩ : ∃ N, N = us.length := ⟨_, rfl⟩
  rw [← hN] at lx hsm ⊢
  have HR : Hid (Rw w g (N + 80) (us ++ gds)) := by rw [hN]; exact hr
  have HN : Hid (N = us.length) := hN
  clear hN hx hr hA
  go_enter Tryd.func12, Tryd.ntmps12
  go_wp2
  go_loop [5] (fun i => ∃ k : Nat, N ≤ k ∧ k ≤ N + 80 ∧ i = .int .i64 k) (fun i => N + 80 - (intOf i).toNat)
  case atStart => exact ⟨N, Nat.le_refl _, by omega, rfl⟩
  case round =>
    obtain ⟨k, hk1, hk2, rfl⟩ := hrel
    have hN := HN.out
    by_cases ck : k < N + 80
    · have e1 := World.rowIs.cell HR.out ck
      have e : (us ++ gds).getD k 0 = 2882343476 := by
        have := gds_getD (k - us.length) (by omega)
        rw [← this]; simp [List.getD, List.getElem?_append, show ¬ k < us.length from by omega]
      rw [e] at e1
      have i1 : (k : Int) < (N : Int) + 80 := by omega
      clear HR HN hN e hsm
      go_wp2
      exact ⟨⟨k + 1, by omega, by omega, by go_num⟩, by simp [intOf]; omega⟩
    · have i1 : ¬ ((k : Int) < (N : Int) + 80) := by omega
      clear HR HN hN
      go_wp2_with (first | (go_at_call 36; refine hsm.mono ?_; rintro e w' ⟨rfl, hk⟩))
      exact bodyPost_ret (v := .bool true) (by simp [results, Tryd.results12, go_sem] <;> simp only [*]) rfl ⟨rfl, hk⟩
end Go.Proofs.YtakcpoapokacgabDoor
