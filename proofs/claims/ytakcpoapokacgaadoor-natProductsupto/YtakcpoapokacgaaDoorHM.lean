import Derived.Test.YtakcpoapokacgaaDoorProg
import Derived.Test.YtakcpoapokacgaaDoorA
import Derived.Test.YtakcpoapokacgaaDoorA2
import Derived.Test.YtakcpoapokacgaaDoorA3
import Derived.Test.YtakcpoapokacgaaDoorA5
import Derived.Test.YtakcpoapokacgaaDoorA6
import Derived.Test.YtakcpoapokacgaaDoorMN
import Derived.Test.YtakcpoapokacgaaDoorMV
import Derived.Test.YtakcpoapokacgaaDoorMD
import Derived.Test.YtakcpoapokacgaaDoorMC
import Derived.Test.YtakcpoapokacgaaDoorHB
import Derived.Test.YtakcpoapokacgaaDoorHL
import Derived.Test.YtakcpoapokacgaaDoorHE
import Derived.Test.YtakcpoapokacgaaDoorMM
import Derived.Test.YtakcpoapokacgaaDoorQMA
import Derived.Test.YtakcpoapokacgaaDoorQMW
import Derived.WalkKit
import Derived.ProofKit
import Derived.RowKit3
import Derived.WalkSpells
import Derived.StillTactics
import Derived.Deep.QuietTactic
import Derived.BigQuiet
import Derived.Below
import Derived.Deep.OwnRows
import Derived.OwnWalk
namespace Go.Proofs.YtakcpoapokacgaaDoor
open Go.RowKit

def F8 (xs ys : List Int) : Rs := ⟨(mulN (val xs) (val ys)).1, [], 0, 0, false, (mulN (val xs) (val ys)).2⟩
theorem mulN_len (a b : Nat) : (mulN a b).1.length ≤ 16384 := by
  unfold mulN
  split
  · simp
  · split
    · simp
    · next h => have : (dig (a * b)).length = len32 (a * b) := rfl
                show (dig (a * b)).length ≤ 16384
                omega
theorem asks_mul (x n : Int) : Asks 14 8 x n F8 := fun p q c d xs ys w hx hy hwx hwy lx ly hc hd =>
  (ask_mul p q c d xs ys w hx hy hwx hwy (by omega) (by omega) hc hd x n).mono (fun e w' ⟨v, h1, h2, h3⟩ => by
    obtain ⟨p1, cc, rfl, _, _⟩ := h2.arr
    exact ⟨p1, cc, none, 0, h1, ⟨h2, Own.nil _ _, fun g _ h => by cases h⟩, h3⟩)
theorem wants_mul (x n : Int) : Asks 12 8 x n F8 := fun p q c d xs ys w hx hy hwx hwy lx ly _ _ =>
  (want_mul p q c d xs ys w hx hy hwx hwy (by omega) (by omega) x n).mono (fun e w' ⟨v, h1, h2, h3⟩ => by
    obtain ⟨p1, cc, rfl, _, _⟩ := h2.arr
    exact ⟨p1, cc, none, 0, h1, ⟨h2, Own.nil _ _, fun g _ h => by cases h⟩, h3⟩)
set_option maxRecDepth 20000 in
set_option maxHeartbeats 400000 in
theorem prods_ (p q : Option Addr) (c d : Nat) (xs ys : List Int) (w : World) (hx : Arr w p xs) (hy : Arr w q ys) (hwx : Wd xs) (hwy : Wd ys) (lx : xs.length ≤ 1048576) (ly : ys.length ≤ 1048576) :
    Calls Tryd.prog 6 #[.slice p xs.length c, .slice q ys.length d] w fun e w' => e = .returned (.bool true) ∧ Kp w w' := by
  have h := held_ 8 0 0 F8 (asks_mul 0 0) (wants_mul 0 0) p q c d xs ys w hx hy hwx hwy lx ly (fun us vs _ _ => ⟨Nat.le_trans (mulN_len _ _) (by decide), by simp [F8]⟩)
  obtain ⟨N, hN⟩ : ∃ N, N = xs.length := ⟨_, rfl⟩
  obtain ⟨M, hM⟩ : ∃ M, M = ys.length := ⟨_, rfl⟩
  rw [← hN, ← hM] at h ⊢
  clear hx hy hwx hwy lx ly hN hM
  go_enter Tryd.func6, Tryd.ntmps6
  go_wp2_with fail
  refine h.mono ?_; rintro e w1 ⟨rfl, hk⟩
  go_wp2
  exact bodyPost_ret (v := .bool true) (by simp [results, Tryd.results6, go_sem] <;> simp only [*]) rfl ⟨rfl, hk⟩
end Go.Proofs.YtakcpoapokacgaaDoor
