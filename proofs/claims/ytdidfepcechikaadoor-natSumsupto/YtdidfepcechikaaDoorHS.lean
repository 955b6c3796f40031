import Derived.Test.YtdidfepcechikaaDoorProg
import Derived.Test.YtdidfepcechikaaDoorA
import Derived.Test.YtdidfepcechikaaDoorA2
import Derived.Test.YtdidfepcechikaaDoorA3
import Derived.Test.YtdidfepcechikaaDoorA5
import Derived.Test.YtdidfepcechikaaDoorA6
import Derived.Test.YtdidfepcechikaaDoorMN
import Derived.Test.YtdidfepcechikaaDoorMV
import Derived.Test.YtdidfepcechikaaDoorMD
import Derived.Test.YtdidfepcechikaaDoorHB
import Derived.Test.YtdidfepcechikaaDoorHL
import Derived.Test.YtdidfepcechikaaDoorHE
import Derived.Test.YtdidfepcechikaaDoorQA
import Derived.Test.YtdidfepcechikaaDoorQW
import Derived.WalkKit
import Derived.ProofKit
import Derived.RowKit3
import Derived.WalkSpells
import Derived.StillTactics
import Derived.Deep.QuietTactic
import Derived.BigQuiet
import Derived.Below
import Derived.Deep.OwnRows
import Derived.OwnWalk
namespace Go.Proofs.YtdidfepcechikaaDoor
open Go.RowKit

def F6 (xs ys : List Int) : Rs := ⟨(addN (val xs) (val ys)).1, [], 0, 0, false, (addN (val xs) (val ys)).2⟩
theorem addN_len (a b : Nat) : (addN a b).1.length ≤ 16384 := by
  unfold addN
  split
  · simp
  · split
    · simp
    · next h => have : (dig (a + b)).length = len32 (a + b) := rfl
                show (dig (a + b)).length ≤ 16384
                omega
theorem asks_add (x n : Int) : Asks 38 6 x n F6 := fun p q c d xs ys w hx hy hwx hwy lx ly hc hd =>
  (ask_add p q c d xs ys w hx hy hwx hwy (by omega) (by omega) hc hd x n).mono (fun e w' ⟨v, h1, h2, h3⟩ => by
    obtain ⟨p1, cc, rfl, _, _⟩ := h2.arr
    exact ⟨p1, cc, none, 0, h1, ⟨h2, Own.nil _ _, fun g _ h => by cases h⟩, h3⟩)
theorem wants_add (x n : Int) : Asks 36 6 x n F6 := fun p q c d xs ys w hx hy hwx hwy lx ly _ _ =>
  (want_add p q c d xs ys w hx hy hwx hwy (by omega) (by omega) x n).mono (fun e w' ⟨v, h1, h2, h3⟩ => by
    obtain ⟨p1, cc, rfl, _, _⟩ := h2.arr
    exact ⟨p1, cc, none, 0, h1, ⟨h2, Own.nil _ _, fun g _ h => by cases h⟩, h3⟩)
set_option maxRecDepth 20000 in
set_option maxHeartbeats 400000 in
theorem sums_ (p q : Option Addr) (c d : Nat) (xs ys : List Int) (w : World) (hx : Arr w p xs) (hy : Arr w q ys) (hwx : Wd xs) (hwy : Wd ys) (lx : xs.length ≤ 1048576) (ly : ys.length ≤ 1048576) :
    Calls Tryd.prog 5 #[.slice p xs.length c, .slice q ys.length d] w fun e w' => e = .returned (.bool true) ∧ Kp w w' := by
  have h := held_ 6 0 0 F6 (asks_add 0 0) (wants_add 0 0) p q c d xs ys w hx hy hwx hwy lx ly (fun us vs _ _ => ⟨Nat.le_trans (addN_len _ _) (by decide), by simp [F6]⟩)
  obtain ⟨N, hN⟩ : ∃ N, N = xs.length := ⟨_, rfl⟩
  obtain ⟨M, hM⟩ : ∃ M, M = ys.length := ⟨_, rfl⟩
  rw [← hN, ← hM] at h ⊢
  clear hx hy hwx hwy lx ly hN hM
  go_enter Tryd.func5, Tryd.ntmps5
  go_wp2_with fail
  refine h.mono ?_; rintro e w1 ⟨rfl, hk⟩
  go_wp2
  exact bodyPost_ret (v := .bool true) (by simp [results, Tryd.results5, go_sem] <;> simp only [*]) rfl ⟨rfl, hk⟩
end Go.Proofs.YtdidfepcechikaaDoor
