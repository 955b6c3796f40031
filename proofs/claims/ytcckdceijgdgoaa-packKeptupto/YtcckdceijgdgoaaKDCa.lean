import Derived.Test.YtcckdceijgdgoaaKNKa
import Derived.Test.YtcckdceijgdgoaaKNRc
namespace Go.Proofs.Ytcckdceijgdgoaa
open Go.RowKit
theorem kfro {W w : World} {b o : Nat} (g : Kp W w) (h : b < W.heap.size) : w.frozen? ⟨b, o, none⟩ = W.frozen? ⟨b, o, none⟩ := World.frozen?_of_block (w := W) (Below.block g b h)

def fallN (D : Int) (b1 b2 b3 : Bool) : Int := if D = 16 then (if b1 && b2 && b3 then 16 else if b1 && b2 then 12 else if b1 then 8 else 4) else if D = 12 then (if b1 && b2 then 12 else if b1 then 8 else 4) else if D = 8 then (if b1 then 8 else 4) else if D = 4 then 4 else 0
set_option maxRecDepth 20000 in
set_option maxHeartbeats 2000000 in
theorem fall16_ (b1 b2 b3 : Bool) (w : World) : Calls Try.prog 55 #[.int .i64 16, .agg #[.bool b1, .bool b2, .bool b3]] w fun e w' => e = .returned (.int .i64 (if b1 && b2 && b3 then 16 else if b1 && b2 then 12 else if b1 then 8 else 4)) ∧ Kp w w' := by
  cases b1 <;> cases b2 <;> cases b3
  all_goals (
    go_enter Try.func55, Try.ntmps55
    go_wp2
    exact bodyPost_ret (v := .int .i64 _) (by simp [results, Try.results55, go_sem]) rfl ⟨rfl, (by repeat (with_reducible (first | assumption | exact Kp.refl _ | apply Kp.drew | apply Kp.alloc | apply Kp.drewN | (refine Kp.setCell ?_ (by first | omega | (simp <;> omega)) _) | (refine Kp.trans ?_ (by assumption)))))⟩)
set_option maxRecDepth 20000 in
set_option maxHeartbeats 2000000 in
theorem fall12_ (b1 b2 b3 : Bool) (w : World) : Calls Try.prog 55 #[.int .i64 12, .agg #[.bool b1, .bool b2, .bool b3]] w fun e w' => e = .returned (.int .i64 (if b1 && b2 then 12 else if b1 then 8 else 4)) ∧ Kp w w' := by
  cases b1 <;> cases b2 <;> cases b3
  all_goals (
    go_enter Try.func55, Try.ntmps55
    go_wp2
    exact bodyPost_ret (v := .int .i64 _) (by simp [results, Try.results55, go_sem]) rfl ⟨rfl, (by repeat (with_reducible (first | assumption | exact Kp.refl _ | apply Kp.drew | apply Kp.alloc | apply Kp.drewN | (refine Kp.setCell ?_ (by first | omega | (simp <;> omega)) _) | (refine Kp.trans ?_ (by assumption)))))⟩)
set_option maxRecDepth 20000 in
set_option maxHeartbeats 2000000 in
theorem fall8_ (b1 b2 b3 : Bool) (w : World) : Calls Try.prog 55 #[.int .i64 8, .agg #[.bool b1, .bool b2, .bool b3]] w fun e w' => e = .returned (.int .i64 (if b1 then 8 else 4)) ∧ Kp w w' := by
  cases b1 <;> cases b2 <;> cases b3
  all_goals (
    go_enter Try.func55, Try.ntmps55
    go_wp2
    exact bodyPost_ret (v := .int .i64 _) (by simp [results, Try.results55, go_sem]) rfl ⟨rfl, (by repeat (with_reducible (first | assumption | exact Kp.refl _ | apply Kp.drew | apply Kp.alloc | apply Kp.drewN | (refine Kp.setCell ?_ (by first | omega | (simp <;> omega)) _) | (refine Kp.trans ?_ (by assumption)))))⟩)
set_option maxRecDepth 20000 in
set_option maxHeartbeats 2000000 in
theorem fall4_ (b1 b2 b3 : Bool) (w : World) : Calls Try.prog 55 #[.int .i64 4, .agg #[.bool b1, .bool b2, .bool b3]] w fun e w' => e = .returned (.int .i64 4) ∧ Kp w w' := by
  cases b1 <;> cases b2 <;> cases b3
  all_goals (
    go_enter Try.func55, Try.ntmps55
    go_wp2
    exact bodyPost_ret (v := .int .i64 _) (by simp [results, Try.results55, go_sem]) rfl ⟨rfl, (by repeat (with_reducible (first | assumption | exact Kp.refl _ | apply Kp.drew | apply Kp.alloc | apply Kp.drewN | (refine Kp.setCell ?_ (by first | omega | (simp <;> omega)) _) | (refine Kp.trans ?_ (by assumption)))))⟩)
set_option maxRecDepth 20000 in
set_option maxHeartbeats 1000000 in
theorem fall0_ (D : Int) (b1 b2 b3 : Bool) (t1 : (D == 16) = false) (t2 : (D == 12) = false) (t3 : (D == 8) = false) (t4 : (D == 4) = false) (w : World) : Calls Try.prog 55 #[.int .i64 D, .agg #[.bool b1, .bool b2, .bool b3]] w fun e w' => e = .returned (.int .i64 0) ∧ Kp w w' := by
  go_enter Try.func55, Try.ntmps55
  go_wp2
  exact bodyPost_ret (v := .int .i64 0) (by simp [results, Try.results55, go_sem]) rfl ⟨rfl, (by repeat (with_reducible (first | assumption | exact Kp.refl _ | apply Kp.drew | apply Kp.alloc | apply Kp.drewN | (refine Kp.setCell ?_ (by first | omega | (simp <;> omega)) _) | (refine Kp.trans ?_ (by assumption)))))⟩
theorem fall_ (D : Int) (b1 b2 b3 : Bool) (w : World) : Calls Try.prog 55 #[.int .i64 D, .agg #[.bool b1, .bool b2, .bool b3]] w fun e w' => e = .returned (.int .i64 (fallN D b1 b2 b3)) ∧ Kp w w' := by
  unfold fallN
  by_cases c1 : D = 16
  · rw [if_pos c1, c1]; exact fall16_ b1 b2 b3 w
  rw [if_neg c1]
  by_cases c2 : D = 12
  · rw [if_pos c2, c2]; exact fall12_ b1 b2 b3 w
  rw [if_neg c2]
  by_cases c3 : D = 8
  · rw [if_pos c3, c3]; exact fall8_ b1 b2 b3 w
  rw [if_neg c3]
  by_cases c4 : D = 4
  · rw [if_pos c4, c4]; exact fall4_ b1 b2 b3 w
  rw [if_neg c4]
  exact fall0_ D b1 b2 b3 (by simpa using c1) (by simpa using c2) (by simpa using c3) (by simpa using c4) w
set_option maxRecDepth 20000 in
set_option maxHeartbeats 1000000 in
theorem nai_ (w : World) : Calls Try.prog 54 #[] w fun e w' => e = .returned (.agg #[.float .f64 9218868437227405312, .float .f64 18442240474082181120, .int .i64 0]) ∧ Kp w w' := by
  go_enter Try.func54, Try.ntmps54
  go_wp2_with (first | (go_at_call 49; refine (Fq.empty6_ _).mono ?_; rintro e w1 ⟨rfl, rfl⟩))
  exact bodyPost_ret (v := .agg #[.float .f64 9218868437227405312, .float .f64 18442240474082181120, .int .i64 0]) (by simp [results, Try.results54, go_sem]) rfl ⟨rfl, (by repeat (with_reducible (first | assumption | exact Kp.refl _ | apply Kp.drew | apply Kp.alloc | apply Kp.drewN | (refine Kp.setCell ?_ (by first | omega | (simp <;> omega)) _) | (refine Kp.trans ?_ (by assumption)))))⟩
end Go.Proofs.Ytcckdceijgdgoaa
