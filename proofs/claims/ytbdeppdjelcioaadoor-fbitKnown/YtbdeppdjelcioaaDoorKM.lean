import Derived.Test.YtbdeppdjelcioaaDoorProg
import Derived.Test.YtbdeppdjelcioaaDoorM
import Derived.Test.YtbdeppdjelcioaaDoorA
import Derived.WalkKit
import Derived.ProofKit
import Derived.RowKit3
import Derived.Deep.RegionHeld3
import Derived.WalkSpells
import Derived.StillTactics
import Derived.Laws.FloatArith
import Derived.Deep.QuietTactic
import Derived.BigQuiet
namespace Go.Proofs.YtbdeppdjelcioaaDoor
open Go.RowKit
theorem q1 : (FloatKind.f64.format.order 1 1 != some .eq) = false := by
  have e : FloatKind.f64.format.order (wD false 1) (wD false 1) = some (compare (plz false 1) (plz false 1)) := ordD false false _ _ (by decide) (by decide)
  have e2 : wD false 1 = 1 := by decide +kernel
  rw [e2] at e
  rw [e, cmp_eq rfl]; rfl
theorem q2 : (FloatKind.f64.format.order 9218868437227405312 9218868437227405312 != some .eq) = false := by
  have e : FloatKind.f64.format.order (wD false 9218868437227405312) (wD false 9218868437227405312) = some (compare (plz false 9218868437227405312) (plz false 9218868437227405312)) := ordD false false _ _ (by decide) (by decide)
  have e2 : wD false 9218868437227405312 = 9218868437227405312 := by decide +kernel
  rw [e2] at e
  rw [e, cmp_eq rfl]; rfl
theorem q3 : (FloatKind.f64.format.order 18442240474082181119 18442240474082181119 != some .eq) = false := by
  have e : FloatKind.f64.format.order (wD true 9218868437227405311) (wD true 9218868437227405311) = some (compare (plz true 9218868437227405311) (plz true 9218868437227405311)) := ordD true true _ _ (by decide) (by decide)
  have e2 : wD true 9218868437227405311 = 18442240474082181119 := by decide +kernel
  rw [e2] at e
  rw [e, cmp_eq rfl]; rfl
theorem q4 : (FloatKind.f64.format.order 3 3 != some .eq) = false := by
  have e : FloatKind.f64.format.order (wD false 3) (wD false 3) = some (compare (plz false 3) (plz false 3)) := ordD false false _ _ (by decide) (by decide)
  have e2 : wD false 3 = 3 := by decide +kernel
  rw [e2] at e
  rw [e, cmp_eq rfl]; rfl
theorem q5 : (FloatKind.f64.format.order 14114281232179134464 14114281232179134464 != some .eq) = false := by
  have e : FloatKind.f64.format.order (wD true 4890909195324358656) (wD true 4890909195324358656) = some (compare (plz true 4890909195324358656) (plz true 4890909195324358656)) := ordD true true _ _ (by decide) (by decide)
  have e2 : wD true 4890909195324358656 = 14114281232179134464 := by decide +kernel
  rw [e2] at e
  rw [e, cmp_eq rfl]; rfl
theorem q6 : (FloatKind.f64.format.order 4890909195324358656 4890909195324358656 != some .eq) = false := by
  have e : FloatKind.f64.format.order (wD false 4890909195324358656) (wD false 4890909195324358656) = some (compare (plz false 4890909195324358656) (plz false 4890909195324358656)) := ordD false false _ _ (by decide) (by decide)
  have e2 : wD false 4890909195324358656 = 4890909195324358656 := by decide +kernel
  rw [e2] at e
  rw [e, cmp_eq rfl]; rfl
theorem q7 : (FloatKind.f32.format.order 1509949441 1509949441 == some .eq) = true := by
  have e : FloatKind.f32.format.order (wS false 1509949441) (wS false 1509949441) = some (compare (plz false 1509949441) (plz false 1509949441)) := ordS false false _ _ (by decide) (by decide)
  have e2 : wS false 1509949441 = 1509949441 := by decide +kernel
  rw [e2] at e
  rw [e, cmp_eq rfl]; rfl
theorem n1 : Op.unary .neg (.float .f64 9218868437227405312) = pure (.float .f64 18442240474082181120) := by
  show pure (Value.float .f64 (Op.negFloat .f64 9218868437227405312)) = _
  have e : Op.negFloat .f64 (wD false 9218868437227405312) = wD true 9218868437227405312 := negD false 9218868437227405312 (by decide)
  have e1 : wD false 9218868437227405312 = 9218868437227405312 := by decide +kernel
  have e2 : wD true 9218868437227405312 = 18442240474082181120 := by decide +kernel
  rw [e1, e2] at e
  rw [e]
theorem n2 : Op.unary .neg (.float .f64 1) = pure (.float .f64 9223372036854775809) := by
  show pure (Value.float .f64 (Op.negFloat .f64 1)) = _
  have e : Op.negFloat .f64 (wD false 1) = wD true 1 := negD false 1 (by decide)
  have e1 : wD false 1 = 1 := by decide +kernel
  have e2 : wD true 1 = 9223372036854775809 := by decide +kernel
  rw [e1, e2] at e
  rw [e]
theorem v1 (w : World) : (binOp .mul 22 (.float .f64 4613937818241073152) (.float .f64 1)).run Tryd.prog w = .ok (.float .f64 3) w := run_float_arith w .mul 22 .f64 _ _ _ (by decide +kernel)
end Go.Proofs.YtbdeppdjelcioaaDoor
