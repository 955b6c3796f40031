import Derived.Test.YtcckdceijgdgoaaKPXa
import Derived.Test.YtcckdceijgdgoaaKPXb
namespace Go.Proofs.Ytcckdceijgdgoaa
open Go.RowKit
open Go
namespace B8
def RG (w : World) (g n : Nat) (q : Nat → Nat × Nat) : Prop := w.rowIs g 31 (n * 2) (fun j => if j % 2 = 0 then FLV (q (j / 2)).1 else FLV (q (j / 2)).2)
theorem RG.congr {w : World} {g n : Nat} {q r : Nat → Nat × Nat} (h : RG w g n q) (e : ∀ i, i < n → q i = r i) : RG w g n r := World.rowIs.congr h (fun j hj => by rw [e (j / 2) (by omega)])
theorem RG.grown {w w' : World} {g n : Nat} {q : Nat → Nat × Nat} (h : RG w g n q) (k : Kp w w') : RG w' g n q := rowIs_grown h k
theorem RG.put {w : World} {g n : Nat} {q : Nat → Nat × Nat} (h : RG w g n q) (k a b : Nat) : RG ((w.setCell ⟨g, k * 2, none⟩ (.float .f64 a)).setCell ⟨g, k * 2 + 1, none⟩ (.float .f64 b)) g n (fun i => if i = k then (a, b) else q i) := by
  refine World.rowIs.congr (World.rowIs.set (World.rowIs.set h (k * 2) (.float .f64 a)) (k * 2 + 1) (.float .f64 b)) (fun j _ => ?_)
  by_cases c1 : j = k * 2 + 1
  · subst c1
    rw [if_pos rfl, if_neg (by omega), show (k * 2 + 1) / 2 = k from by omega]; simp [FLV]
  · rw [if_neg c1]
    by_cases c2 : j = k * 2
    · subst c2
      rw [if_pos rfl, if_pos (by omega), show (k * 2) / 2 = k from by omega]; simp [FLV]
    · have c3 : ¬ j / 2 = k := by omega
      rw [if_neg c2]; simp [c3]
end B8
end Go.Proofs.Ytcckdceijgdgoaa
