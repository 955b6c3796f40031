import Derived.Test.YtakcpoapokacgabDoorProg
import Derived.Test.YtakcpoapokacgabDoorA
import Derived.Test.YtakcpoapokacgabDoorA2
import Derived.Test.YtakcpoapokacgabDoorA3
import Derived.Test.YtakcpoapokacgabDoorA5
import Derived.Test.YtakcpoapokacgabDoorA6
import Derived.Test.YtakcpoapokacgabDoorMN
import Derived.Test.YtakcpoapokacgabDoorMV
import Derived.Test.YtakcpoapokacgabDoorMD
import Derived.Test.YtakcpoapokacgabDoorMC
import Derived.Test.YtakcpoapokacgabDoorHB
import Derived.Test.YtakcpoapokacgabDoorHL
import Derived.Test.YtakcpoapokacgabDoorHE
import Derived.Test.YtakcpoapokacgabDoorMM
import Derived.Test.YtakcpoapokacgabDoorMPw
import Derived.Test.YtakcpoapokacgabDoorQP
import Derived.WalkKit
import Derived.ProofKit
import Derived.RowKit3
import Derived.WalkSpells
import Derived.StillTactics
import Derived.Deep.QuietTactic
import Derived.BigQuiet
import Derived.Below
import Derived.Deep.OwnRows
import Derived.OwnWalk
namespace Go.Proofs.YtakcpoapokacgabDoor
open Go.RowKit
theorem powN_len (a : Nat) (n : Int) : (powN a n).1.length ≤ 16384 := by
  unfold powN
  split
  · simp
  · split
    · simp
    · split
      · simp
      · next h =>
        have e : (dig (a ^ n.toNat)).length = len32 (a ^ n.toNat) := rfl
        show (dig (a ^ n.toNat)).length ≤ 16384
        omega
def F11 (n : Int) : List Int → List Int → Rs := fun xs _ => ⟨(powN (val xs) n).1, [], 0, 0, false, (powN (val xs) n).2⟩
theorem asks_pow (x n : Int) : Asks 10 11 x n (F11 n) := fun p q c d xs ys w hx hy hwx hwy lx ly hc hd =>
  (ask_pow p q c d xs ys w hx hy hwx hwy (by omega) (by omega) hc hd x n).mono (fun e w' ⟨v, h1, h2, h3⟩ => by
    obtain ⟨p1, cc, rfl, _, _⟩ := h2.arr
    exact ⟨p1, cc, none, 0, h1, ⟨h2, Own.nil _ _, fun g _ h => by cases h⟩, h3⟩)
theorem wants_pow (x n : Int) : Asks 8 11 x n (F11 n) := fun p q c d xs ys w hx hy hwx hwy lx ly _ _ =>
  (want_pow p q c d xs ys w hx hy hwx hwy (by omega) (by omega) x n).mono (fun e w' ⟨v, h1, h2, h3⟩ => by
    obtain ⟨p1, cc, rfl, _, _⟩ := h2.arr
    exact ⟨p1, cc, none, 0, h1, ⟨h2, Own.nil _ _, fun g _ h => by cases h⟩, h3⟩)
set_option maxRecDepth 20000 in
set_option maxHeartbeats 400000 in
theorem pows_ (p : Option Addr) (c : Nat) (xs : List Int) (n : Int) (w : World) (hx : Arr w p xs) (hwx : Wd xs) (lx : xs.length ≤ 1048576) :
    Calls Tryd.prog 3 #[.slice p xs.length c, .int .i64 n] w fun e w' => e = .returned (.bool true) ∧ Kp w w' := by
  have h := held_ 11 0 n (F11 n) (asks_pow 0 n) (wants_pow 0 n) p none c 0 xs [] w hx (Or.inl rfl) hwx Wd.nil lx (by simp) (fun us vs _ _ => ⟨Nat.le_trans (powN_len _ _) (by decide), by simp [F11]⟩)
  have h' : Calls Tryd.prog 5 #[.int .i64 11, .slice p xs.length c, .slice none 0 0, .int .u64 0, .int .i64 n] w fun e w' => e = .returned (.bool true) ∧ Kp w w' := h
  obtain ⟨N, hN⟩ : ∃ N, N = xs.length := ⟨_, rfl⟩
  rw [← hN] at h' ⊢
  clear hx hwx lx hN h
  go_enter Tryd.func3, Tryd.ntmps3
  go_wp2_with fail
  refine h'.mono ?_; rintro e w1 ⟨rfl, hk⟩
  go_wp2
  exact bodyPost_ret (v := .bool true) (by simp [results, Tryd.results3, go_sem] <;> simp only [*]) rfl ⟨rfl, hk⟩
end Go.Proofs.YtakcpoapokacgabDoor
