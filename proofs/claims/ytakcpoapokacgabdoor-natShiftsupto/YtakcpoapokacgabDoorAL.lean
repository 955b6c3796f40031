import Derived.Test.YtakcpoapokacgabDoorProg
import Derived.Test.YtakcpoapokacgabDoorA
import Derived.Test.YtakcpoapokacgabDoorA2
import Derived.Test.YtakcpoapokacgabDoorS
import Derived.WalkKit
import Derived.ProofKit
import Derived.RowKit3
import Derived.WalkSpells
import Derived.StillTactics
import Derived.Deep.QuietTactic
import Derived.BigQuiet
import Derived.Below
import Derived.Deep.OwnRows
namespace Go.Proofs.YtakcpoapokacgabDoor
open Go.RowKit
set_option maxRecDepth 20000 in
set_option maxHeartbeats 1000000 in
theorem alike_ (p1 p2 q1 q2 : Option Addr) (c1 c2 d1 d2 : Nat) (ls ms : List Int) (W Z E : Int) (B : Bool) (w : World) (h1 : Arr w p1 ls) (h2 : Arr w p2 ls) (g1 : Arr w q1 ms) (g2 : Arr w q2 ms) (ll : ls.length ≤ 1099511627776) (lm : ms.length ≤ 1099511627776) :
    Calls Tryd.prog 11 #[.agg #[.slice p1 ls.length c1, .slice q1 ms.length d1, .int .u64 W, .int .i64 Z, .bool B, .int .i64 E], .agg #[.slice p2 ls.length c2, .slice q2 ms.length d2, .int .u64 W, .int .i64 Z, .bool B, .int .i64 E]] w fun e w' => e = .returned (.bool true) ∧ Kp w w' := by
  have s1 : ∀ w', Kp w w' → Calls Tryd.prog 36 #[.slice p1 ls.length c1, .slice p2 ls.length c2] w' fun e w'' => e = .returned (.bool true) ∧ Kp w' w'' := fun w' k => by
    have := same_ p1 p2 c1 c2 ls ls w' (h1.grown k) (h2.grown k) ll
    rw [decide_eq_true rfl] at this
    exact this
  have s2 : ∀ w', Kp w w' → Calls Tryd.prog 36 #[.slice q1 ms.length d1, .slice q2 ms.length d2] w' fun e w'' => e = .returned (.bool true) ∧ Kp w' w'' := fun w' k => by
    have := same_ q1 q2 d1 d2 ms ms w' (g1.grown k) (g2.grown k) lm
    rw [decide_eq_true rfl] at this
    exact this
  obtain ⟨L, hL⟩ : ∃ L, L = ls.length := ⟨_, rfl⟩
  obtain ⟨M, hM⟩ : ∃ M, M = ms.length := ⟨_, rfl⟩
  rw [← hL] at s1 ⊢
  rw [← hM] at s2 ⊢
  clear h1 h2 g1 g2 ll lm hL hM
  go_enter Tryd.func11, Tryd.ntmps11
  go_wp2_with fail
  refine (s1 _ ?_).mono ?_
  · exact (by repeat (with_reducible (first | assumption | exact Kp.refl _ | apply Kp.drew | apply Kp.alloc | apply Kp.drewN | (refine Kp.trans ?_ (by assumption)))))
  rintro e w3 ⟨rfl, h3⟩
  have k3 : Kp w w3 := (((Kp.refl w).alloc _).alloc _).trans h3
  have x0 := kkeep h3 (b := w.heap.size) (o := 0) (v := .slice p1 L c1) (by simp [go_sem])
  have x1 := kkeep h3 (b := w.heap.size) (o := 1) (v := .slice q1 M d1) (by simp [go_sem])
  have x2 := kkeep h3 (b := w.heap.size) (o := 2) (v := .int .u64 W) (by simp [go_sem])
  have x3 := kkeep h3 (b := w.heap.size) (o := 3) (v := .int .i64 Z) (by simp [go_sem])
  have x4 := kkeep h3 (b := w.heap.size) (o := 4) (v := .bool B) (by simp [go_sem])
  have x5 := kkeep h3 (b := w.heap.size) (o := 5) (v := .int .i64 E) (by simp [go_sem])
  have y0 := kkeep h3 (b := w.heap.size + 1) (o := 0) (v := .slice p2 L c2) (by simp [go_sem])
  have y1 := kkeep h3 (b := w.heap.size + 1) (o := 1) (v := .slice q2 M d2) (by simp [go_sem])
  have y2 := kkeep h3 (b := w.heap.size + 1) (o := 2) (v := .int .u64 W) (by simp [go_sem])
  have y3 := kkeep h3 (b := w.heap.size + 1) (o := 3) (v := .int .i64 Z) (by simp [go_sem])
  have y4 := kkeep h3 (b := w.heap.size + 1) (o := 4) (v := .bool B) (by simp [go_sem])
  have y5 := kkeep h3 (b := w.heap.size + 1) (o := 5) (v := .int .i64 E) (by simp [go_sem])
  go_wp2_with fail
  refine (s2 _ k3).mono ?_
  rintro e w4 ⟨rfl, h4⟩
  have k4 : Kp w w4 := k3.trans h4
  have x2' := kkeep h4 x2
  have x3' := kkeep h4 x3
  have x4' := kkeep h4 x4
  have x5' := kkeep h4 x5
  have y2' := kkeep h4 y2
  have y3' := kkeep h4 y3
  have y4' := kkeep h4 y4
  have y5' := kkeep h4 y5
  clear s1 s2 h3 h4 k3 x0 x1 y0 y1 x2 x3 x4 x5 y2 y3 y4 y5
  go_wp2
  exact bodyPost_ret (v := .bool true) (by simp [results, Tryd.results11, go_sem] <;> simp only [*]) rfl ⟨rfl, k4⟩
end Go.Proofs.YtakcpoapokacgabDoor
