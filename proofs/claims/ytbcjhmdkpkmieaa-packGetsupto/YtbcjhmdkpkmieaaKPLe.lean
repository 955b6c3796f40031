import Derived.Test.YtbcjhmdkpkmieaaKPLd
namespace Go.Proofs.Ytbcjhmdkpkmieaa
open Go.RowKit
open Go
namespace B8
theorem getslaw_ (p : Option Addr) (c : Nat) (xs : List Int) (w : World) (hx : Arr w p xs) (hw : Wb xs) (lx : xs.length ≤ 1048576) : Calls Try.prog 6 #[.slice p xs.length c] w fun e w' => e = .returned (.bool true) ∧ Kp w w' := by
  obtain ⟨N, hN⟩ : ∃ N, xs.length = N := ⟨_, rfl⟩
  rw [hN] at lx ⊢
  have HR : ∀ W : World, Kp w W → Calls Try.prog 21 #[.slice p N c] W fun e w' => e = .returned (.tuple #[.agg #[.int .u64 ((gX xs : Nat) : Int), .int .u64 ((gY xs : Nat) : Int)], .int .i64 (gE xs)]) ∧ Kp W w' := fun W k => rget_ p c N xs W (hx.grown k) hN hw
  have HRD : ∀ W : World, Kp w W → Calls Try.prog 22 #[.slice p N c] W fun e w' => e = .returned (.tuple #[.agg #[.int .u64 ((gdX xs : Nat) : Int), .int .u64 ((gdY xs : Nat) : Int), .int .i64 (gdD xs)], .int .i64 (gdE xs)]) ∧ Kp W w' := fun W k => rgetdeco_ p c N xs W (hx.grown k) hN hw
  have HM : ∀ W : World, Kp w W → Calls Try.prog 23 #[.slice p N c] W fun e w' => ∃ g d, e = .returned (.tuple #[.slice (some ⟨g, 0, none⟩) N d, .slice (some ⟨g, 0, none⟩) (N + 40) d]) ∧ Own w' W.heap.size (.slice (some ⟨g, 0, none⟩) (N + 40) d) (xs ++ List.replicate 40 201) ∧ N + 40 ≤ d ∧ Kp W w' := fun W k => marked_ p c N xs W (hx.grown k) hN lx
  have HA : ∀ (g d : Nat) (W : World) (base : Nat), Own W base (.slice (some ⟨g, 0, none⟩) (N + 40) d) (xs ++ List.replicate 40 201) → Arr W (some ⟨g, 0, none⟩) (xs ++ List.replicate 40 201) ∧ Arr W (some ⟨g, 0, none⟩) xs := by
    intro g d W base ho
    obtain ⟨p', c', e1, a1, -⟩ := ho.arr
    simp at e1
    rw [← e1.1] at a1
    refine ⟨a1, ?_⟩
    obtain ⟨b, off, e2, hcell⟩ := a1.at (k := 0) (by simp)
    exact Or.inr ⟨b, off, e2, fun j hj => by
      rw [hcell j (by rw [List.length_append]; omega)]
      simp [List.getD, List.getElem?_append, hj]⟩
  have HG : ∀ (g d : Nat) (W : World), N ≤ d → Arr W (some ⟨g, 0, none⟩) xs → Calls Try.prog 24 #[.slice (some ⟨g, 0, none⟩) N d] W fun e w' => e = .returned (.tuple #[.agg #[.float .f64 (gX xs), .float .f64 (gY xs)], .int .i64 (gE xs)]) ∧ Kp W w' := fun g d W h a => get_ _ d N xs W a hN hw h
  have HGD : ∀ (g d : Nat) (W : World), N ≤ d → Arr W (some ⟨g, 0, none⟩) xs → Calls Try.prog 27 #[.slice (some ⟨g, 0, none⟩) N d] W fun e w' => e = .returned (.tuple #[.agg #[.float .f64 (gdX xs), .float .f64 (gdY xs), .int .i64 (gdD xs)], .int .i64 (gdE xs)]) ∧ Kp W w' := fun g d W h a => getdeco_ _ d N xs W a hN hw h
  have HL : ∀ (g d : Nat) (W : World), Kp w W → Arr W (some ⟨g, 0, none⟩) (xs ++ List.replicate 40 201) → N + 40 ≤ d → Calls Try.prog 26 #[.slice p N c, .slice (some ⟨g, 0, none⟩) (N + 40) d] W fun e w' => e = .returned (.bool true) ∧ Kp W w' := fun g d W k a h => left_ p _ c d N (N + 40) xs _ W (hx.grown k) a hN rfl rfl lx h
  have ho := out9_ (gX xs) (gY xs)
  have hod := dout_ (gdX xs) (gdY xs) (gdD xs)
  exact getsA_ p c N xs (xs ++ List.replicate 40 201) _ _ _ _ (gX xs) (gY xs) (gdX xs) (gdY xs) (gE xs) (gdE xs) (gdD xs) w HR HRD HM HA HG HGD HL ho hod
end B8
end Go.Proofs.Ytbcjhmdkpkmieaa
