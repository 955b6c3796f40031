import Derived.Test.YtcckdceijgdgoaaKNRm
import Derived.Test.YtcckdceijgdgoaaKNRv
import Derived.Deep.CutRange
import Derived.Deep.DeepCutAuto
namespace Go.Proofs.Ytcckdceijgdgoaa
open Go.RowKit

def Rd (a b : Nat) (L H : Int) : Prop := a < 18446744073709551616 ∧ b < 18446744073709551616 ∧ VdZ L H ∧ Fq.rlo a b = pw L ∧ Fq.rhi a b = pw H
theorem Rd.ex (a b : Nat) (ha : a < 18446744073709551616) (hb : b < 18446744073709551616) : ∃ L H, Rd a b L H := by
  obtain ⟨L, H, h1, h2, h3⟩ := read_pw a b ha hb
  exact ⟨L, H, ha, hb, h1, h2, h3⟩
theorem Rd.of {L H : Int} (h : VdZ L H) : Rd (pw L) (pw H) L H := ⟨pw_lt L h.lo, pw_lt H h.hi, h, (reread9 L H h).1, (reread9 L H h).2⟩
theorem Rd.vd {a b : Nat} {L H : Int} (h : Rd a b L H) : VdZ L H := h.2.2.1
theorem Rd.call {a b : Nat} {L H : Int} (h : Rd a b L H) (w : World) : Calls Try.prog 31 #[.agg #[.float .f64 a, .float .f64 b]] w fun e w' => e = .returned (.agg #[.float .f64 (pw L), .float .f64 (pw H)]) ∧ Kp w w' := by
  have g := Fq.read_ a b h.1 h.2.1 w
  rw [h.2.2.2.1, h.2.2.2.2] at g
  exact g
theorem emp9 (L H : Int) (h : VdZ L H) : decide (pw L = 9218868437227405312 ∧ pw H = 18442240474082181120) = decide (L = 9218868437227405312) := by
  congr 1; apply propext
  have e1 := pw_inj L 9218868437227405312 h.lo (by unfold BdZ; omega)
  have e2 := pw_inj H (-9218868437227405312) h.hi (by unfold BdZ; omega)
  rw [pw_I] at e1
  rw [pw_MI] at e2
  rw [e1, e2]
  unfold VdZ at h
  omega
theorem void9_ (L H : Int) (h : VdZ L H) (w : World) : Calls Try.prog 64 #[.agg #[.float .f64 (pw L), .float .f64 (pw H)]] w fun e w' => e = .returned (.bool (decide (L = 9218868437227405312))) ∧ Kp w w' := by
  have g := Fq.voidR_ (pw L) (pw H) (pw_lt L h.lo) (pw_lt H h.hi) w
  rw [emp9 L H h] at g
  exact g

def pI (x : Int) : Int := ((pw x : Nat) : Int)
theorem rread9_ (a b : Nat) (L H : Int) (h : Rd a b L H) (w : World) : Calls Try.prog 13 #[.agg #[.int .u64 ((a : Nat) : Int), .int .u64 ((b : Nat) : Int)]] w fun e w' => e = .returned (.agg #[.int .u64 (pI L), .int .u64 (pI H)]) ∧ Kp w w' := by
  have e1 := h.2.2.2.1
  have e2 := h.2.2.2.2
  unfold pI
  rw [← e1, ← e2]
  obtain ⟨n, m, hm, rfl⟩ := Fq.exD a h.1
  obtain ⟨n', m', hm', rfl⟩ := Fq.exD b h.2.1
  exact Fq.rread_ n n' m m' hm hm' w
end Go.Proofs.Ytcckdceijgdgoaa
