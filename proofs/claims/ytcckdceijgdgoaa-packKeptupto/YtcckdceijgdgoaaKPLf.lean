import Derived.Test.YtcckdceijgdgoaaKPKw
namespace Go.Proofs.Ytcckdceijgdgoaa
open Go.RowKit
open Go
namespace B8
def one16 : List Int := [0, 0, 0, 0, 0, 0, 240, 63, 0, 0, 0, 0, 0, 0, 0, 64]
theorem Wb.of {xs : List Int} (h : ∀ x ∈ xs, 0 ≤ x ∧ x < 256) : Wb xs := by
  intro j
  by_cases c : j < xs.length
  · have e : xs.getD j 0 = xs[j] := by simp [List.getD, c]
    rw [e]; exact h _ (List.getElem_mem c)
  · have : xs.getD j 0 = 0 := by rw [List.getD, List.getElem?_eq_none (by omega)]; rfl
    omega
theorem one_wb : Wb one16 := Wb.of (by decide)
theorem one_get : gX one16 = 4607182418800017408 ∧ gY one16 = 4611686018427387904 ∧ gE one16 = 0 := by decide +kernel
theorem arr_lit (w : World) (xs : List Int) (t : TypeId) : Arr (w.alloc (.cells (xs.map (Value.int .u8)).toArray t)) (some ⟨w.heap.size, 0, none⟩) xs := Or.inr ⟨_, 0, rfl, fun j hj => by
  rw [Nat.zero_add]
  have := (World.rowIs_alloc w (xs.map (Value.int .u8)).toArray t (fun j => .int .u8 (xs.getD j 0)) (fun i hi => by
    have hi' : i < xs.length := by simpa using hi
    simp [List.getD, hi'])).cell (i := j) (by simpa using hj)
  exact this⟩
set_option maxRecDepth 20000 in
set_option maxHeartbeats 1000000 in
theorem awake_ (w : World) : Calls Try.prog 8 #[] w fun e w' => e = .returned (.bool true) ∧ Kp w w' := by
  have hg : Calls Try.prog 9 #[.slice (some ⟨w.heap.size, 0, none⟩) 16 16] (w.alloc (.cells #[.int .u8 0, .int .u8 0, .int .u8 0, .int .u8 0, .int .u8 0, .int .u8 0, .int .u8 240, .int .u8 63, .int .u8 0, .int .u8 0, .int .u8 0, .int .u8 0, .int .u8 0, .int .u8 0, .int .u8 0, .int .u8 64] 5)) fun e w' => e = .returned (.tuple #[.agg #[.float .f64 4607182418800017408, .float .f64 4611686018427387904], .int .i64 0]) ∧ Kp (w.alloc (.cells #[.int .u8 0, .int .u8 0, .int .u8 0, .int .u8 0, .int .u8 0, .int .u8 0, .int .u8 240, .int .u8 63, .int .u8 0, .int .u8 0, .int .u8 0, .int .u8 0, .int .u8 0, .int .u8 0, .int .u8 0, .int .u8 64] 5)) w' := by
    have := get_ (some ⟨w.heap.size, 0, none⟩) 16 16 one16 (w.alloc (.cells #[.int .u8 0, .int .u8 0, .int .u8 0, .int .u8 0, .int .u8 0, .int .u8 0, .int .u8 240, .int .u8 63, .int .u8 0, .int .u8 0, .int .u8 0, .int .u8 0, .int .u8 0, .int .u8 0, .int .u8 0, .int .u8 64] 5)) (arr_lit w one16 5) rfl one_wb (Nat.le_refl _)
    rw [one_get.1, one_get.2.1, one_get.2.2] at this
    exact this
  have q1 := Fq.eqInR 4607182418800017408 4607182418800017408
  have q2 := Fq.eqInR 4611686018427387904 4611686018427387904
  rw [show (FloatKind.f64.format.order 4607182418800017408 4607182418800017408 == some Ordering.eq) = true from by decide +kernel] at q1
  rw [show (FloatKind.f64.format.order 4611686018427387904 4611686018427387904 == some Ordering.eq) = true from by decide +kernel] at q2
  have k0 : Kp w (w.alloc (.cells #[.int .u8 0, .int .u8 0, .int .u8 0, .int .u8 0, .int .u8 0, .int .u8 0, .int .u8 240, .int .u8 63, .int .u8 0, .int .u8 0, .int .u8 0, .int .u8 0, .int .u8 0, .int .u8 0, .int .u8 0, .int .u8 64] 5)) := (Kp.refl w).alloc _
  go_enter Try.func8, Try.ntmps8
  go_wp2_with (first | (go_at_call 9; refine hg.mono ?_; rintro e w1 ⟨rfl, g1⟩; have k1 := Kp.trans k0 g1))
  exact bodyPost_ret (v := .bool true) (by simp [results, Try.results8, go_sem]) rfl ⟨rfl, (k1.alloc _)⟩
end B8
end Go.Proofs.Ytcckdceijgdgoaa
