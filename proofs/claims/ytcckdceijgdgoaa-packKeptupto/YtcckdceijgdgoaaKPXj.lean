import Derived.Test.YtcckdceijgdgoaaKPXa
namespace Go.Proofs.Ytcckdceijgdgoaa
open Go.RowKit
open Go
namespace B8
def fm (q : Nat × Nat) : List Int := by8 (Fq.rlo q.1 q.2) ++ by8 (Fq.rhi q.1 q.2)
def fms : List (Nat × Nat) → List Int
  | [] => []
  | q :: r => fm q ++ fms r
def bb (ps : List (Nat × Nat)) : List Int := (ps.length : Int) :: fms ps
def Wq (ps : List (Nat × Nat)) : Prop := ∀ j, (ps.getD j (0, 0)).1 < 18446744073709551616 ∧ (ps.getD j (0, 0)).2 < 18446744073709551616
theorem fm_len (q : Nat × Nat) : (fm q).length = 16 := by unfold fm; rw [List.length_append, by8_len, by8_len]
theorem fms_get : ∀ (ps : List (Nat × Nat)) (k t : Nat), k < ps.length → t < 16 → (fms ps).getD (16 * k + t) 0 = (fm (ps.getD k (0, 0))).getD t 0
  | [], k, t, h, _ => by simp at h
  | q :: r, 0, t, _, ht => by
    rw [Nat.mul_zero, Nat.zero_add]
    simp only [fms, List.getD, List.getElem?_cons_zero, Option.getD_some]
    rw [List.getElem?_append_left (by rw [fm_len]; exact ht)]
  | q :: r, k + 1, t, h, ht => by
    have ih := fms_get r k t (by simpa using h) ht
    rw [List.getD_cons_succ, ← ih]
    simp only [fms, List.getD]
    rw [List.getElem?_append_right (by rw [fm_len]; omega), fm_len, show 16 * (k + 1) + t - 16 = 16 * k + t from by omega]
theorem bb_get (ps : List (Nat × Nat)) (k t : Nat) (hk : k < ps.length) (ht : t < 16) : (bb ps).getD (1 + 16 * k + t) 0 = (fm (ps.getD k (0, 0))).getD t 0 := by
  rw [← fms_get ps k t hk ht, show 1 + 16 * k + t = (16 * k + t) + 1 from by omega]
  unfold bb
  rw [List.getD_cons_succ]
theorem putn_ (a b : Nat) (ha : a < 18446744073709551616) (hb : b < 18446744073709551616) (w : World) : Calls Try.prog 10 #[.agg #[.float .f64 a, .float .f64 b]] w fun e w' => ∃ g, e = .returned (.slice (some ⟨g, 0, none⟩) 16 16) ∧ w.heap.size ≤ g ∧ Rw w' g 16 (fm (a, b)) ∧ Kp w w' := put_ a b _ _ (Fq.read_ a b ha hb) w
theorem rputn_ (a b : Nat) (ha : a < 18446744073709551616) (hb : b < 18446744073709551616) (w : World) : Calls Try.prog 24 #[.agg #[.int .u64 ((a : Nat) : Int), .int .u64 ((b : Nat) : Int)]] w fun e w' => ∃ v, e = .returned v ∧ Own w' w.heap.size v (fm (a, b)) ∧ Kp w w' := by
  obtain ⟨L, H, hx⟩ := Rd.ex a b ha hb
  have h := rput_ a b L H hx w
  rw [← hx.2.2.2.1, ← hx.2.2.2.2] at h
  exact h
end B8
end Go.Proofs.Ytcckdceijgdgoaa
