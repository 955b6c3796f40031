import Derived.Test.YtcckdceijgdgoaaKPKf
import Derived.Test.YtcckdceijgdgoaaKPKg
namespace Go.Proofs.Ytcckdceijgdgoaa
open Go.RowKit
open Go
namespace B8
set_option maxRecDepth 20000 in
set_option maxHeartbeats 1000000 in
theorem rform_ (X Y : Nat) (hX : X < 18446744073709551616) (hY : Y < 18446744073709551616) (w : World) : Calls Try.prog 45 #[.agg #[.int .u64 (X : Int), .int .u64 (Y : Int)]] w fun e w' => ∃ v, e = .returned v ∧ Own w' w.heap.size v (by8 X ++ by8 Y) ∧ Kp w w' := by
  have HN := rnumber_
  have HJ : ∀ (p q : Option Addr) (c d : Nat) (W : World), Arr W p (by8 X) → Arr W q (by8 Y) → Calls Try.prog 58 #[.slice p 8 c, .slice q 8 d] W fun e w' => ∃ v, e = .returned v ∧ Own w' W.heap.size v (by8 X ++ by8 Y) ∧ Kp W w' := by
    intro p q c d W h1 h2
    have := joined_ p q c d (by8 X) (by8 Y) W h1 h2 (by rw [by8_len]; decide) (by rw [by8_len]; decide)
    rw [by8_len, by8_len] at this
    exact this
  go_enter Try.func45, Try.ntmps45
  go_upto_region 1 with fail
  obtain ⟨B, hB⟩ : ∃ B, B = w.heap.size := ⟨_, rfl⟩
  obtain ⟨w0, hw0⟩ : ∃ w0, w0 = w.alloc (.cells #[.int .u64 (X : Int), .int .u64 (Y : Int)] 25) := ⟨_, rfl⟩
  have x0 : w0.cell? ⟨B, 0, none⟩ = some (.int .u64 (X : Int)) := by rw [hw0, hB]; simp [go_sem]
  have x1 : w0.cell? ⟨B, 1, none⟩ = some (.int .u64 (Y : Int)) := by rw [hw0, hB]; simp [go_sem]
  have kw : Kp w w0 := by rw [hw0]; exact (Kp.refl w).alloc _
  rw [← hB, ← hw0]
  clear hw0 hB
  go_region_held3 (fun w' => w'.cell? ⟨B, 0, none⟩ = some (.int .u64 (X : Int)) ∧ w'.cell? ⟨B, 1, none⟩ = some (.int .u64 (Y : Int))) (refine ⟨kkeep (W := w0) ?_ x0, kkeep (W := w0) ?_ x1⟩ <;> ((repeat (first | with_reducible exact kk3 | with_reducible exact kk2 | with_reducible exact kk1 | with_reducible exact Kp.refl _ | with_reducible refine Kp.drew ?_)); done)) (first | (go_at_call 58; have hh := a2; refine (HJ p1 p2 c1 c2 _ ?q1 ?q2).mono ?_; (case q1 => exact a1.grown k12); (case q2 => exact a2); rintro e v3 ⟨v, rfl, o3, k3⟩; have kk3 : Kp w0 v3 := Kp.trans ?q3 k3; (case q3 => ((repeat (first | with_reducible exact kk3 | with_reducible exact kk2 | with_reducible exact kk1 | with_reducible exact Kp.refl _ | with_reducible refine Kp.drew ?_)); done))) | (go_at_call 59; have hh := a1; refine (HN Y hY _).mono ?_; rintro e v2 ⟨v, rfl, o2, k12⟩; have kk2 : Kp w0 v2 := Kp.trans ?q3 k12; (case q3 => ((repeat (first | with_reducible exact kk3 | with_reducible exact kk2 | with_reducible exact kk1 | with_reducible exact Kp.refl _ | with_reducible refine Kp.drew ?_)); done)); obtain ⟨p2, c2, rfl, a2, -⟩ := o2.arr; rw [by8_len]) | (go_at_call 59; refine (HN X hX _).mono ?_; rintro e v1 ⟨v, rfl, o1, k1⟩; have kk1 : Kp w0 v1 := Kp.trans ?q3 k1; (case q3 => ((repeat (first | with_reducible exact kk3 | with_reducible exact kk2 | with_reducible exact kk1 | with_reducible exact Kp.refl _ | with_reducible refine Kp.drew ?_)); done)); obtain ⟨p1, c1, rfl, a1, -⟩ := o1.arr; rw [by8_len]))
  have hO := o3.mono (Nat.le_trans (Below.size kw) (Below.size kk2))
  have hK := Kp.trans kw kk3
  clear o3 k3 kk3 kk2 kk1 a1 a2 o1 o2 k1 k12 HN HJ x0 x1
  go_wp2
  exact bodyPost_ret (v := v) (by simp [results, Try.results45, go_sem] <;> simp only [*]) rfl ⟨_, rfl, hO, hK⟩
end B8
end Go.Proofs.Ytcckdceijgdgoaa
