import Derived.Test.YtdhndnehicodnaaProg
import Derived.Test.YtdhndnehicodnaaKXA0
import Derived.Test.YtdhndnehicodnaaKQM
import Derived.Test.YtdhndnehicodnaaKQA
import Derived.Test.YtdhndnehicodnaaKXQU
import Derived.Test.YtdhndnehicodnaaKEM
import Derived.Test.YtdhndnehicodnaaKEN
import Derived.Test.YtdhndnehicodnaaKEA
import Derived.Test.YtdhndnehicodnaaKEB
import Derived.Test.YtdhndnehicodnaaKEH
import Derived.Test.YtdhndnehicodnaaKEK
import Derived.Test.YtdhndnehicodnaaKEO
import Derived.Test.YtdhndnehicodnaaKER
import Derived.Test.YtdhndnehicodnaaKES
import Derived.Test.YtdhndnehicodnaaKNRv
import Derived.Test.YtdhndnehicodnaaKNRm
import Derived.Test.YtdhndnehicodnaaKPMm
import Derived.WalkKit
import Derived.ProofKit
import Derived.RowKit3
import Derived.WalkSpells
import Derived.StillTactics
import Derived.Deep.QuietTactic
import Derived.BigQuiet
import Derived.Below
import Derived.Deep.OwnRows
import Derived.OwnWalk
import Derived.Laws.BitsAllLaws
import Derived.Laws.Slices
import Derived.Laws.Bits64b
import Derived.Laws.FloatArith
import Derived.Deep.RegionHeld3
namespace Go.Proofs.Ytdhndnehicodnaa
open Go.RowKit

/-- two patterns, and the places of their ends as they are read -/
def Rd (a b : Nat) (L H : Int) : Prop := a < 18446744073709551616 ∧ b < 18446744073709551616 ∧ VdZ L H ∧ Fq.rlo a b = pw L ∧ Fq.rhi a b = pw H
theorem Rd.ex (a b : Nat) (ha : a < 18446744073709551616) (hb : b < 18446744073709551616) : ∃ L H, Rd a b L H := by
  obtain ⟨L, H, h1, h2, h3⟩ := read_pw a b ha hb
  exact ⟨L, H, ha, hb, h1, h2, h3⟩
theorem Rd.of {L H : Int} (h : VdZ L H) : Rd (pw L) (pw H) L H := ⟨pw_lt L h.lo, pw_lt H h.hi, h, (reread9 L H h).1, (reread9 L H h).2⟩
theorem Rd.vd {a b : Nat} {L H : Int} (h : Rd a b L H) : VdZ L H := h.2.2.1
theorem Rd.call {a b : Nat} {L H : Int} (h : Rd a b L H) (w : World) : Calls Try.prog 16 #[.agg #[.float .f64 a, .float .f64 b]] w fun e w' => e = .returned (.agg #[.float .f64 (pw L), .float .f64 (pw H)]) ∧ Kp w w' := by
  have g := Fq.read_ a b h.1 h.2.1 w
  rw [h.2.2.2.1, h.2.2.2.2] at g
  exact g
theorem emp9 (L H : Int) (h : VdZ L H) : decide (pw L = 9218868437227405312 ∧ pw H = 18442240474082181120) = decide (L = 9218868437227405312) := by
  congr 1; apply propext
  have e1 := pw_inj L 9218868437227405312 h.lo (by unfold BdZ; omega)
  have e2 := pw_inj H (-9218868437227405312) h.hi (by unfold BdZ; omega)
  rw [pw_I] at e1
  rw [pw_MI] at e2
  rw [e1, e2]
  unfold VdZ at h
  omega
theorem void9_ (L H : Int) (h : VdZ L H) (w : World) : Calls Try.prog 29 #[.agg #[.float .f64 (pw L), .float .f64 (pw H)]] w fun e w' => e = .returned (.bool (decide (L = 9218868437227405312))) ∧ Kp w w' := by
  have g := Fq.voidR_ (pw L) (pw H) (pw_lt L h.lo) (pw_lt H h.hi) w
  rw [emp9 L H h] at g
  exact g
theorem min9_ (x y : Int) (hx : BdZ x) (hy : BdZ y) (ts : Array TypeId) (t : TypeId) (w : World) : (Builtin.min_ ts t #[.float .f64 (pw x), .float .f64 (pw y)]).run Try.prog w = .ok (.float .f64 (pw (min x y))) w := by
  have h := min7_ (decide (x < 0)) (decide (y < 0)) x.natAbs y.natAbs (abs_pw x hx) (abs_pw y hy) (pw_ne x hx) (pw_ne y hy) ts t w
  rw [plz_pw, plz_pw] at h
  have e : (if y < x then pw y else pw x) = pw (min x y) := by
    by_cases c : y < x
    · rw [if_pos c, show min x y = y from by omega]
    · rw [if_neg c, show min x y = x from by omega]
  exact e ▸ h
theorem max9_ (x y : Int) (hx : BdZ x) (hy : BdZ y) (ts : Array TypeId) (t : TypeId) (w : World) : (Builtin.max_ ts t #[.float .f64 (pw x), .float .f64 (pw y)]).run Try.prog w = .ok (.float .f64 (pw (max x y))) w := by
  have h := max7_ (decide (x < 0)) (decide (y < 0)) x.natAbs y.natAbs (abs_pw x hx) (abs_pw y hy) (pw_ne x hx) (pw_ne y hy) ts t w
  rw [plz_pw, plz_pw] at h
  have e : (if y > x then pw y else pw x) = pw (max x y) := by
    by_cases c : y > x
    · rw [if_pos c, show max x y = y from by omega]
    · rw [if_neg c, show max x y = x from by omega]
  exact e ▸ h
end Go.Proofs.Ytdhndnehicodnaa
