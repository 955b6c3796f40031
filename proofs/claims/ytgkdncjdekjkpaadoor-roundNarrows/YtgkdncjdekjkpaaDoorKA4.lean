import Derived.Test.YtgkdncjdekjkpaaDoorProg
import Derived.Test.YtgkdncjdekjkpaaDoorKA
import Derived.Test.YtgkdncjdekjkpaaDoorKA2
import Derived.WalkKit
import Derived.ProofKit
import Derived.RowKit3
import Derived.WalkSpells
import Derived.StillTactics
import Derived.Deep.QuietTactic
import Derived.BigQuiet
import Derived.Below
import Derived.Deep.OwnRows
import Derived.Laws.IdiomCopy
namespace Go.Proofs.YtgkdncjdekjkpaaDoor
open Go.RowKit

theorem setCells_row {g : Nat} {t : TypeId} {n : Nat} : ∀ (vs : List Value) (o : Nat) (w : World) (f : Nat → Value), w.rowIs g t n f → (w.setCells g o vs).rowIs g t n (fun j => if o ≤ j ∧ j < o + vs.length then vs.getD (j - o) (f j) else f j)
  | [], o, w, f, h => h.congr (fun j _ => by rw [if_neg (by simp)])
  | v :: vs, o, w, f, h => by
    have ih := setCells_row vs (o + 1) _ _ (h.set o v)
    refine World.rowIs.congr ih (fun j _ => ?_)
    by_cases c1 : j = o
    · subst c1
      rw [if_neg (by omega), if_pos rfl, if_pos ⟨Nat.le_refl _, by simp⟩]; simp
    · by_cases c2 : o + 1 ≤ j ∧ j < o + 1 + vs.length
      · have c3 : o ≤ j ∧ j < o + (v :: vs).length := ⟨by omega, by simp; omega⟩
        rw [if_pos c2, if_pos c3, if_neg c1, show j - o = (j - (o + 1)) + 1 from by omega]; simp
      · rw [if_neg c2, if_neg c1, if_neg (by simp; omega)]
theorem setCells_kp {W : World} {g : Nat} (hg : W.heap.size ≤ g) : ∀ (vs : List Value) (o : Nat) (w : World), Kp W w → Kp W (w.setCells g o vs)
  | [], _, _, h => h
  | v :: vs, o, _, h => setCells_kp hg vs (o + 1) _ (h.setCell hg v)
theorem siz32 : (Tryd.prog.info? 41).map (·.size) = some 1 := by kernel_rfl
/-- copy into a row from its head on -/
theorem copy32 (w : World) (g n c : Nat) (p : Option Addr) (xs : List Int) (f : Nat → Value) (hr : w.rowIs g 41 n f) (hx : Arr w p xs) (hl : xs.length ≤ n) :
    ∃ w2, (∀ ty, (Builtin.copy_ #[22, 22] ty #[.slice (some ⟨g, 0, none⟩) n n, .slice p xs.length c]).run Tryd.prog w = .ok (goInt xs.length) w2) ∧
      w2.rowIs g 41 n (fun j => if j < xs.length then .int .u32 (xs.getD j 0) else f j) ∧ (∀ W : World, W.heap.size ≤ g → Kp W w → Kp W w2) := by
  rcases hx with rfl | ⟨b, off, rfl, hc⟩
  · refine ⟨w, fun ty => run_copy_none w 22 22 ty 41 _ _ _ _ _ _ Tryd.underlying22 siz32 (by simp), hr.congr (fun j _ => by rw [if_neg (by simp)]), fun W _ h => h⟩
  · refine ⟨w.setCells g 0 (xs.map (Value.int .u32)), fun ty => ?_, ?_, fun W hW h => setCells_kp hW _ _ _ h⟩
    · have := run_copy_cells (P := Tryd.prog) w 22 22 ty 41 g 0 n n ⟨b, off, none⟩ xs.length c (xs.map (Value.int .u32)) Tryd.underlying22 siz32 (by simp [Nat.min_eq_left hl])
        (fun j v hv => by
          have hj : j < xs.length := by
            have := List.getElem?_eq_some_iff.1 hv
            simpa using this.1
          have e : (⟨b, off, none⟩ : Addr).add j = ⟨b, off + j, none⟩ := by
            unfold Addr.add
            by_cases c : j = 0
            · subst c; simp
            · simp [c]
          rw [e, hc j hj]
          simpa [List.getD, hj] using hv)
        (fun j hj => by rw [Nat.zero_add, hr.cell (by simp at hj; omega)]; rfl) (fun j _ => by rw [Nat.zero_add]; exact hr.frozen j)
        (fun v hv => by obtain ⟨x, _, rfl⟩ := List.mem_map.1 hv; rfl)
      simpa using this
    · refine World.rowIs.congr (setCells_row (xs.map (Value.int .u32)) 0 w f hr) (fun j _ => ?_)
      by_cases c : j < xs.length
      · rw [if_pos c, if_pos ⟨Nat.zero_le _, by simpa using c⟩]; simp [List.getD, c]
      · rw [if_neg c, if_neg (by simp; omega)]
theorem Rw.set {w : World} {g n : Nat} {xs : List Int} (h : Rw w g n xs) (k : Nat) (x : Int) (hk : k < xs.length) : Rw (w.setCell ⟨g, k, none⟩ (.int .u32 x)) g n (xs.set k x) := by
  refine World.rowIs.congr (World.rowIs.set h k (.int .u32 x)) (fun j _ => ?_)
  by_cases c : j = k
  · subst c; rw [if_pos rfl]; simp [List.getD, hk]
  · have c' : ¬ k = j := fun h => c h.symm
    rw [if_neg c]; simp [List.getD, c']
end Go.Proofs.YtgkdncjdekjkpaaDoor
