import Derived.Test.YtbdeppdjelcioaaDoorProg
import Derived.Test.YtbdeppdjelcioaaDoorM
import Derived.Test.YtbdeppdjelcioaaDoorM5
import Derived.Test.YtbdeppdjelcioaaDoorA
import Derived.WalkKit
import Derived.ProofKit
import Derived.RowKit3
import Derived.Deep.RegionHeld3
import Derived.WalkSpells
import Derived.StillTactics
import Derived.Laws.FloatArith
import Derived.Deep.QuietTactic
import Derived.BigQuiet
namespace Go.Proofs.YtbdeppdjelcioaaDoor
open Go.RowKit
set_option maxRecDepth 20000 in
set_option maxHeartbeats 1000000 in
theorem whole_d (n : Bool) (m : Nat) (h1 : m < 9223372036854775808) (w : World) : Calls Tryd.prog 20 #[.float .f64 (wD n m)] w fun e w' => e = .returned (.tuple #[.int .i64 (if wokD n m then wvD n m else 0), .bool (wokD n m)]) ∧ w' = w := by
  obtain ⟨X, hX⟩ : ∃ x : Nat, x = wD n m := ⟨_, rfl⟩
  by_cases c0 : inrD n m = true
  · obtain ⟨a1, a2, a3⟩ := inrD_lt n m c0
    have hc := run_convert_float_int (P := Tryd.prog) w 22 2 .f64 .i64 _ _ (by kernel_rfl) (by kernel_rfl) (convD n m c0)
    have hb := backordD n m c0
    have o1 : (FloatKind.f64.format.order (wD n m) 14114281232179134464 == some .gt || FloatKind.f64.format.order (wD n m) 14114281232179134464 == some .eq) = true := by
      have e : FloatKind.f64.format.order (wD n m) 14114281232179134464 = some (compare (plz n m) (plz true 4890909195324358656)) := ordD n true m 4890909195324358656 (by omega) (by omega)
      have q : plz true 4890909195324358656 ≤ plz n m := by
        have p1 : plz true 4890909195324358656 = -4890909195324358656 := rfl
        unfold inrD at c0; simp at c0
        unfold plz; cases n <;> simp at c0 ⊢ <;> omega
      rw [e]
      rcases (by omega : plz true 4890909195324358656 < plz n m ∨ plz n m = plz true 4890909195324358656) with d | d
      · rw [cmp_gt d]; rfl
      · rw [cmp_eq d]; rfl
    have o2 : (FloatKind.f64.format.order (wD n m) 4890909195324358656 == some .lt) = true := by
      have e : FloatKind.f64.format.order (wD n m) 4890909195324358656 = some (compare (plz n m) (plz false 4890909195324358656)) := ordD n false m 4890909195324358656 (by omega) (by omega)
      have q : plz n m < plz false 4890909195324358656 := by
        have p1 : plz false 4890909195324358656 = 4890909195324358656 := rfl
        unfold inrD at c0; simp at c0
        unfold plz; cases n <;> simp at c0 ⊢ <;> omega
      rw [e, cmp_lt q]; rfl
    obtain ⟨N1, hN⟩ : ∃ x : Nat, x = 14114281232179134464 := ⟨_, rfl⟩
    obtain ⟨b, hbb⟩ : ∃ b : Bool, b = decide (vlD m % unD = 0) := ⟨_, rfl⟩
    have hw : wokD n m = b := by unfold wokD; rw [c0, ← hbb]; rfl
    rw [hw]
    rw [← hbb] at hb
    rw [← hX] at hc hb o1 o2 ⊢
    obtain ⟨v, hv⟩ : ∃ v : Int, v = wvD n m := ⟨_, rfl⟩
    rw [← hv] at hc hb ⊢
    clear hX hN hbb hw hv c0 a1 a2 a3 h1
    cases b
    · have hb2 : (FloatKind.f64.format.order (floatOfInt .f64 v) X != some .eq) = true := hb
      clear hb
      simp only [Bool.false_eq_true, if_false]
      go_enter Tryd.func20, Tryd.ntmps20
      go_wp2
      exact bodyPost_ret (v := .tuple #[.int .i64 0, .bool false]) (by simp [results, Tryd.results20, go_sem] <;> simp only [*]) rfl ⟨rfl, rfl⟩
    · have hb2 : (FloatKind.f64.format.order (floatOfInt .f64 v) X != some .eq) = false := hb
      clear hb
      simp only [if_true]
      go_enter Tryd.func20, Tryd.ntmps20
      go_wp2
      exact bodyPost_ret (v := .tuple #[.int .i64 v, .bool true]) (by simp [results, Tryd.results20, go_sem] <;> simp only [*]) rfl ⟨rfl, rfl⟩
  · have hw : wokD n m = false := by unfold wokD; simp at c0; rw [c0]; rfl
    rw [hw]
    simp only [Bool.false_eq_true, if_false]
    have oo : ((FloatKind.f64.format.order (wD n m) 14114281232179134464 == some .gt || FloatKind.f64.format.order (wD n m) 14114281232179134464 == some .eq) = false) ∨ ((FloatKind.f64.format.order (wD n m) 14114281232179134464 == some .gt || FloatKind.f64.format.order (wD n m) 14114281232179134464 == some .eq) = true ∧ (FloatKind.f64.format.order (wD n m) 4890909195324358656 == some .lt) = false) := by
      by_cases c1 : 9218868437227405312 < m
      · left; rw [ordD_nanl n m _ c1 h1]; rfl
      · have e : FloatKind.f64.format.order (wD n m) 14114281232179134464 = some (compare (plz n m) (plz true 4890909195324358656)) := ordD n true m 4890909195324358656 (by omega) (by omega)
        have e' : FloatKind.f64.format.order (wD n m) 4890909195324358656 = some (compare (plz n m) (plz false 4890909195324358656)) := ordD n false m 4890909195324358656 (by omega) (by omega)
        have p1 : plz true 4890909195324358656 = -4890909195324358656 := rfl
        have p2 : plz false 4890909195324358656 = 4890909195324358656 := rfl
        unfold inrD at c0; simp at c0
        rw [e, e']
        rcases (by omega : plz n m < plz true 4890909195324358656 ∨ plz n m = plz true 4890909195324358656 ∨ plz true 4890909195324358656 < plz n m) with d | d | d
        · left; rw [cmp_lt d]; rfl
        · exfalso; unfold plz at d; cases n <;> simp at c0 d <;> omega
        · right
          refine ⟨by rw [cmp_gt d]; rfl, ?_⟩
          have q : plz false 4890909195324358656 ≤ plz n m := by
            have hm : plz n m = if n then -(m : Int) else m := rfl
            cases n <;> simp at c0 hm <;> omega
          rcases (by omega : plz false 4890909195324358656 < plz n m ∨ plz n m = plz false 4890909195324358656) with d2 | d2
          · rw [cmp_gt d2]; rfl
          · rw [cmp_eq d2]; rfl
    rw [← hX] at oo ⊢
    clear hX hw c0 h1
    rcases oo with o1 | ⟨o1, o2⟩
    · skip
      go_enter Tryd.func20, Tryd.ntmps20
      go_wp2
      exact bodyPost_ret (v := .tuple #[.int .i64 0, .bool false]) (by simp [results, Tryd.results20, go_sem] <;> simp only [*]) rfl ⟨rfl, rfl⟩
    · skip
      go_enter Tryd.func20, Tryd.ntmps20
      go_wp2
      exact bodyPost_ret (v := .tuple #[.int .i64 0, .bool false]) (by simp [results, Tryd.results20, go_sem] <;> simp only [*]) rfl ⟨rfl, rfl⟩

end Go.Proofs.YtbdeppdjelcioaaDoor
