import Derived.Test.YtolghomhigemgaaProg
import Derived.Test.YtolghomhigemgaaKXA0
import Derived.Test.YtolghomhigemgaaKXM
import Derived.Test.YtolghomhigemgaaKXY
import Derived.Test.YtolghomhigemgaaKXQF
import Derived.Test.YtolghomhigemgaaKQA
import Derived.Test.YtolghomhigemgaaKXLB
import Derived.Test.YtolghomhigemgaaKXSL
import Derived.Test.YtolghomhigemgaaKLN
import Derived.Test.YtolghomhigemgaaKW4
import Derived.Test.YtolghomhigemgaaKXN
import Derived.Test.YtolghomhigemgaaKXH2Q
import Derived.Test.YtolghomhigemgaaKMR7Q
import Derived.Test.YtolghomhigemgaaKXG1
import Derived.WalkKit
import Derived.ProofKit
import Derived.RowKit3
import Derived.WalkSpells
import Derived.StillTactics
import Derived.Deep.QuietTactic
import Derived.BigQuiet
import Derived.Below
import Derived.Deep.OwnRows
import Derived.OwnWalk
import Derived.Laws.BitsAllLaws
import Derived.Laws.Slices
import Derived.Laws.Bits64b
import Derived.Laws.Cover1
import Derived.Laws.Small
import Derived.Laws.FloatArith
namespace Go.Proofs.Ytolghomhigemgaa
open Go.RowKit
/-- an exponent, held within 2^21 -/
def conf (e : Int) : Int := min (max e (-2097152)) 2097152
set_option maxRecDepth 20000 in
set_option maxHeartbeats 400000 in
theorem mnan_ (w : World) : Calls Try.prog 18 #[] w fun r w' => r = .returned (.float .f64 9221120237041090561) ∧ w' = w := by
  have h1 : ∀ w : World, (callFunc 23 #[.int .u64 9221120237041090561]).run Try.prog w = .ok (.value (.float .f64 9221120237041090561)) w := fun w => Fq.ff64 9221120237041090561 w
  go_enter Try.func18, Try.ntmps18
  go_wp2
  exact bodyPost_ret (v := .float .f64 9221120237041090561) (by simp [results, Try.results18, go_sem]) rfl ⟨rfl, rfl⟩
/-- what Of tells -/
def ofW (d : Int) (neg : Bool) (a : Nat) (exp : Int) : Nat := if 524288 < blen a then 9221120237041090561 else pW 9223372036854775808 neg (finU 53 2098 9218868437227405311 9218868437227405312 (dirN neg d) (rV (dirN neg d) 53 a 1 (conf exp + 1074)))
theorem of_head (d : Int) (a cut h H : Nat) (t : Int) (hcut : cut = blen a - 56) (hh : h = a / 2 ^ cut) (hH : H = 2 * h + (if a % 2 ^ cut = 0 then 0 else 1)) : rV d 53 H 1 (t + (cut : Int) - 1) = rV d 53 a 1 t ∧ H < 1152921504606846976 := by
  have hp : 0 < 2 ^ cut := Nat.pow_pos (by omega)
  have hl : blen h = blen a - cut := by rw [hh]; exact blen_shr a cut
  have hlt : h < 72057594037927936 := by
    have e : blen h ≤ 56 := by omega
    rw [blen_le_iff, show (2 : Nat) ^ 56 = 72057594037927936 from by decide] at e
    exact e
  have hbig : a % 2 ^ cut = 0 ∨ 36028797018963968 ≤ h := by
    by_cases c : cut = 0
    · left; rw [c, Nat.pow_zero, Nat.mod_one]
    · right
      have h0 : h ≠ 0 := by intro e; rw [e, blen_zero] at hl; omega
      have := (blen_spec h h0).1
      rw [show blen h - 1 = 55 from by omega, show (2 : Nat) ^ 55 = 36028797018963968 from by decide] at this
      exact this
  refine ⟨?_, by rw [hH]; split <;> omega⟩
  rw [← rV_sticky d 53 a (2 ^ cut) h (a % 2 ^ cut) H (t + (cut : Int) - 1) hp (by omega) (by omega) (by rw [hh, Nat.mul_comm]; exact (Nat.div_add_mod _ _).symm) (Nat.mod_lt _ hp) hH hbig]
  have e1 := rV_down d 53 (2 * a) 1 cut (t + (cut : Int) - 1) (by omega)
  rw [Nat.one_mul] at e1
  have e2 := rV_up d 53 a 1 1 (t + (cut : Int) - 1 - (cut : Int)) (by omega)
  rw [Nat.pow_one, Nat.mul_comm a 2] at e2
  rw [e1, e2]
  exact congrArg _ (by omega)
theorem conf_b (e : Int) : -2097152 ≤ conf e ∧ conf e ≤ 2097152 := by unfold conf; omega
end Go.Proofs.Ytolghomhigemgaa
