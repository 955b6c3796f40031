import Derived.Test.YtidpeakojcgngaaGreatDoorProg
import Derived.Test.YtidpeakojcgngaaGreatDoorKXA0
import Derived.Test.YtidpeakojcgngaaGreatDoorKXM
import Derived.Test.YtidpeakojcgngaaGreatDoorKXT
import Derived.Test.YtidpeakojcgngaaGreatDoorKXLX
import Derived.Test.YtidpeakojcgngaaGreatDoorKXY
import Derived.Test.YtidpeakojcgngaaGreatDoorKRX
import Derived.Test.YtidpeakojcgngaaGreatDoorKXRL
import Derived.Test.YtidpeakojcgngaaGreatDoorKXCO
import Derived.Test.YtidpeakojcgngaaGreatDoorKLN
import Derived.Test.YtidpeakojcgngaaGreatDoorKXRN
import Derived.Test.YtidpeakojcgngaaGreatDoorKXW4
import Derived.Test.YtidpeakojcgngaaGreatDoorKXBY
import Derived.Test.YtidpeakojcgngaaGreatDoorKXTZ
import Derived.Test.YtidpeakojcgngaaGreatDoorKXG1
import Derived.Test.YtidpeakojcgngaaGreatDoorKXG4
import Derived.Test.YtidpeakojcgngaaGreatDoorKG3D
import Derived.WalkKit
import Derived.ProofKit
import Derived.RowKit3
import Derived.WalkSpells
import Derived.StillTactics
import Derived.Deep.QuietTactic
import Derived.BigQuiet
import Derived.Below
import Derived.Deep.OwnRows
import Derived.OwnWalk
import Derived.Laws.BitsAllLaws
import Derived.Laws.Slices
import Derived.Laws.Bits64b
namespace Go.Proofs.YtidpeakojcgngaaGreatDoor
open Go.RowKit
/-- what the document tells of a ratio -/
def ratW (d : Int) (neg : Bool) (a b : Nat) (exp : Int) : Nat := if 16384 < len32 a ∨ 16384 < len32 b then 9221120237041090561 else if b = 0 then (if a = 0 then 9221120237041090561 else mdW neg 9218868437227405312) else if a = 0 then 0 else mdW neg (finU 53 2098 9218868437227405311 9218868437227405312 (dirN neg d) (rV (dirN neg d) 53 a b (exp + 1074)))
theorem refW_fin (d : Int) (g neg : Bool) (a b a2 b2 : Nat) (e : Int) (hF : FracOf a b e a2 b2) (hg : a ≠ 0 → g = neg) (K : Nat) (hK : K = 1074) : refW 53 K 2098 9218868437227405311 0 d g a2 b2 = if a = 0 then 0 else mdW neg (finU 53 2098 9218868437227405311 9218868437227405312 (dirN neg d) (rV (dirN neg d) 53 a b (e + 1074))) := by
  unfold refW
  by_cases c : a = 0
  · rw [if_pos c, if_pos (hF.2.1.2 c)]
  · rw [if_neg c, if_neg (fun h => c (hF.2.1.1 h)), hg c, hF.2.2.1 _ _ _ c, Nat.pow_zero, Nat.mul_one, show ((K : Nat) : Int) + e = e + 1074 from by omega]
    rfl
set_option maxRecDepth 20000 in
set_option maxHeartbeats 400000 in
theorem rbits_ (d : Int) (neg : Bool) (vn vd : Value) (a b : Nat) (w : World) (hn : Ls w vn (dig a)) (hd : Ls w vd (dig b)) (hb : b ≠ 0) (la : blen a ≤ 4194304) (lb : blen b ≤ 4194304) :
    Calls Tryz.prog 32 #[.int .i64 d, .agg #[.bool neg, vn, vd]] w fun e w' => e = .returned (.int .u64 ((refW 53 1074 2098 9218868437227405311 0 d neg a b : Nat) : Int)) ∧ Kp w w' := by
  obtain ⟨w0, hw0⟩ : ∃ w0, w0 = w.alloc (.cells #[.bool neg, vn, vd] 43) := ⟨_, rfl⟩
  have hk0 : Kp w w0 := by rw [hw0]; exact (Kp.refl w).alloc _
  have h := rrounded_D d neg vn vd a b w0 (hn.kp hk0) (hd.kp hk0) hb la lb
  obtain ⟨Z, hZ⟩ : ∃ Z, Z = refW 53 1074 2098 9218868437227405311 0 d neg a b := ⟨_, rfl⟩
  rw [← hZ] at h ⊢
  clear hn hd hb la lb hZ
  go_enter Tryz.func32, Tryz.ntmps32
  go_wp2_with fail
  rw [← hw0]
  refine h.mono ?_; rintro e w1 ⟨rfl, hk⟩
  have hk1 := hk0.trans hk
  clear h hk hk0 hw0
  go_wp2
  exact bodyPost_ret (v := .int .u64 (Z : Int)) (by simp [results, Tryz.results32, go_sem]) rfl ⟨rfl, hk1⟩
end Go.Proofs.YtidpeakojcgngaaGreatDoor
