import Derived.Test.YtjkbapnndoldgaaKSHm
namespace Go.Proofs.Ytjkbapnndoldgaa
open Go.RowKit

set_option linter.unusedVariables false
theorem cnvN_eq (x : Nat) (w : World) : (convert 38 26 (.float .f64 x)).run Try.prog w = (Conv.floatToFloat .f64 x .f32).run Try.prog w := by kernel_rfl
theorem cnvW_eq (x : Nat) (w : World) : (convert 26 38 (.float .f32 x)).run Try.prog w = (Conv.floatToFloat .f32 x .f64).run Try.prog w := by kernel_rfl
theorem cnvW_ (n : Bool) (m : Nat) (hm : m ≤ 2139095040) (w : World) : (convert 26 38 (.float .f32 (Fq.wS n m))).run Try.prog w = .ok (.float .f64 (Fq.wD n (wdR m))) w := by
  by_cases c : m = 2139095040
  · subst c
    rw [show wdR 2139095040 = 9218868437227405312 from by unfold wdR; rw [if_pos rfl]]
    cases n <;> kernel_rfl
  · have hl : m < 2139095040 := by omega
    rw [cnvW_eq]
    have hd : FloatKind.f32.decode (Fq.wS n m) = .number n (Fq.mM Ieee.single m) (Ieee.single.leastPlace + (Fq.eE Ieee.single m : Nat)) := by
      unfold FloatKind.decode
      rw [show FloatKind.f32.format = Ieee.single from rfl]
      have := Fq.read_fin Ieee.single (Fq.wS n m) (by rw [Fq.rgS n m (by omega), Fq.infS]; exact hl)
      rw [this, Fq.rgS n m (by omega), Fq.ngS n m (by omega)]
    have he : FloatKind.f64.encode (.number n (Fq.mM Ieee.single m) (Ieee.single.leastPlace + (Fq.eE Ieee.single m : Nat))) = Fq.wD n (wdR m) := by
      show Ieee.double.write (.number n (Fq.mM Ieee.single m) (Ieee.single.leastPlace + (Fq.eE Ieee.single m : Nat))) = _
      show Ieee.double.nearest n (Fq.mM Ieee.single m) (Ieee.single.leastPlace + (Fq.eE Ieee.single m : Nat)) = _
      have hk := k9_eq
      rw [lpS9, near_w n (Fq.mM Ieee.single m) _ (Fq.eE Ieee.single m + k9) (by omega), Nat.pow_add, ← Nat.mul_assoc]
      show Fq.wD n (finU 53 2098 9218868437227405311 9218868437227405312 0 (rU 0 53 (Fq.vV Ieee.single m * 2 ^ k9) 1)) = _
      rw [wd_fin 0 m hl]
    have hi : (FloatKind.f64.decode (Fq.wD n (wdR m))).isInfinity = false := by
      have hw := wd_lt m hl
      unfold FloatKind.decode
      rw [show FloatKind.f64.format = Ieee.double from rfl, Fq.read_fin Ieee.double _ (by rw [Fq.rgD n _ (by omega), Fq.infD]; exact hw)]
      rfl
    unfold Conv.floatToFloat
    rw [if_neg (by decide), hd]
    show (if (FloatKind.f64.decode (FloatKind.f64.encode (.number n (Fq.mM Ieee.single m) (Ieee.single.leastPlace + (Fq.eE Ieee.single m : Nat))))).isInfinity = true then _ else _ : Sem Value).run Try.prog w = _
    rw [he, hi]
    rfl
def nrR (m : Nat) : Nat := finU 24 277 2139095039 2139095040 0 (rU 0 24 (Fq.vV Ieee.double m) (2 ^ k9))
theorem cnvN_ (n : Bool) (m : Nat) (hm : m < 9218868437227405312) (hn : nrR m < 2139095040) (w : World) : (convert 38 26 (.float .f64 (Fq.wD n m))).run Try.prog w = .ok (.float .f32 (Fq.wS n (nrR m))) w := by
  rw [cnvN_eq]
  have hd : FloatKind.f64.decode (Fq.wD n m) = .number n (Fq.mM Ieee.double m) (Ieee.double.leastPlace + (Fq.eE Ieee.double m : Nat)) := by
    unfold FloatKind.decode
    rw [show FloatKind.f64.format = Ieee.double from rfl]
    have := Fq.read_fin Ieee.double (Fq.wD n m) (by rw [Fq.rgD n m (by omega), Fq.infD]; exact hm)
    rw [this, Fq.rgD n m (by omega), Fq.ngD n m (by omega)]
  have he : FloatKind.f32.encode (.number n (Fq.mM Ieee.double m) (Ieee.double.leastPlace + (Fq.eE Ieee.double m : Nat))) = Fq.wS n (nrR m) := by
    show Ieee.single.nearest n (Fq.mM Ieee.double m) (Ieee.double.leastPlace + (Fq.eE Ieee.double m : Nat)) = _
    rw [lpD9, near_s n (Fq.mM Ieee.double m) _ (Fq.eE Ieee.double m) (by omega)]
    rfl
  have hi : (FloatKind.f32.decode (Fq.wS n (nrR m))).isInfinity = false := by
    unfold FloatKind.decode
    rw [show FloatKind.f32.format = Ieee.single from rfl, Fq.read_fin Ieee.single _ (by rw [Fq.rgS n _ (by omega), Fq.infS]; exact hn)]
    rfl
  unfold Conv.floatToFloat
  rw [if_neg (by decide), hd]
  show (if (FloatKind.f32.decode (FloatKind.f32.encode (.number n (Fq.mM Ieee.double m) (Ieee.double.leastPlace + (Fq.eE Ieee.double m : Nat))))).isInfinity = true then _ else _ : Sem Value).run Try.prog w = _
  rw [he, hi]
  rfl
end Go.Proofs.Ytjkbapnndoldgaa
