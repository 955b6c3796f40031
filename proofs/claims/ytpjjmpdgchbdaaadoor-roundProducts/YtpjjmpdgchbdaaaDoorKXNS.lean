import Derived.Test.YtpjjmpdgchbdaaaDoorProg
import Derived.Test.YtpjjmpdgchbdaaaDoorKXA0
import Derived.Test.YtpjjmpdgchbdaaaDoorKXM
import Derived.Test.YtpjjmpdgchbdaaaDoorKXT
import Derived.WalkKit
import Derived.ProofKit
import Derived.RowKit3
import Derived.WalkSpells
import Derived.StillTactics
import Derived.Deep.QuietTactic
import Derived.BigQuiet
import Derived.Below
import Derived.Deep.OwnRows
namespace Go.Proofs.YtpjjmpdgchbdaaaDoor
open Go.RowKit
set_option maxRecDepth 20000 in
set_option maxHeartbeats 1000000 in
theorem fresh_ (p : Option Addr) (c : Nat) (xs : List Int) (w : World) (hx : Arr w p xs) (lx : xs.length ≤ 1099511627776) :
    Calls Tryd.prog 89 #[.slice p xs.length c] w fun e w' => ∃ g, e = .returned (.slice (some ⟨g, 0, none⟩) xs.length xs.length) ∧ w.heap.size ≤ g ∧ Rw w' g xs.length xs ∧ Kp w w' := by
  obtain ⟨N, hN⟩ : ∃ N, N = xs.length := ⟨_, rfl⟩
  have hmk := mk32 N (by omega)
  have hk1 : Kp w (w.alloc (.cells (madeCells #[.int .u32 0] N) 59)) := (Kp.refl w).alloc _
  obtain ⟨w2, hcp, hr2, hkw⟩ := copy32 (w.alloc (.cells (madeCells #[.int .u32 0] N) 59)) w.heap.size N c p xs _ (World.rowIs_made w (.int .u32 0) N 59) (hx.grown hk1) (by omega)
  have hk2 : Kp w w2 := hkw w (Nat.le_refl _) hk1
  have hrz : Rw w2 w.heap.size N xs := World.rowIs.congr hr2 (fun j hj => by rw [if_pos (by omega)])
  rw [← hN] at hcp ⊢
  clear hx lx hN hkw hr2 hk1
  go_enter Tryd.func89, Tryd.ntmps89
  go_wp2
  exact bodyPost_ret (v := .slice (some ⟨w.heap.size, 0, none⟩) N N) (by simp [results, Tryd.results89, go_sem] <;> simp only [*]) rfl ⟨_, rfl, Nat.le_refl _, hrz, hk2⟩
end Go.Proofs.YtpjjmpdgchbdaaaDoor
