import Derived.Test.YtolghomhigemgaaProg
import Derived.Test.YtolghomhigemgaaKXA0
import Derived.Test.YtolghomhigemgaaKXM
import Derived.Test.YtolghomhigemgaaKXY
import Derived.Test.YtolghomhigemgaaKXQF
import Derived.Test.YtolghomhigemgaaKQA
import Derived.Test.YtolghomhigemgaaKXQU
import Derived.Test.YtolghomhigemgaaKXEA
import Derived.Test.YtolghomhigemgaaKXEE
import Derived.Test.YtolghomhigemgaaKMR7Q
import Derived.Test.YtolghomhigemgaaKXMR
import Derived.Test.YtolghomhigemgaaKXM3
import Derived.Test.YtolghomhigemgaaKXO
import Derived.Test.YtolghomhigemgaaKXO3
import Derived.Test.YtolghomhigemgaaKXT
import Derived.Test.YtolghomhigemgaaKXLB
import Derived.Test.YtolghomhigemgaaKRX
import Derived.Test.YtolghomhigemgaaKXRL
import Derived.Test.YtolghomhigemgaaKXCO
import Derived.Test.YtolghomhigemgaaKLN
import Derived.Test.YtolghomhigemgaaKXRN
import Derived.Test.YtolghomhigemgaaKW4
import Derived.Test.YtolghomhigemgaaKBY
import Derived.Test.YtolghomhigemgaaKBW
import Derived.Test.YtolghomhigemgaaKXTZ
import Derived.Test.YtolghomhigemgaaKXG1
import Derived.Test.YtolghomhigemgaaKNSm
import Derived.Test.YtolghomhigemgaaKXH2Q
import Derived.Test.YtolghomhigemgaaKXG4
import Derived.Test.YtolghomhigemgaaKEKF
import Derived.Test.YtolghomhigemgaaKXET
import Derived.WalkKit
import Derived.ProofKit
import Derived.RowKit3
import Derived.WalkSpells
import Derived.StillTactics
import Derived.Deep.QuietTactic
import Derived.BigQuiet
import Derived.Below
import Derived.Deep.OwnRows
import Derived.OwnWalk
import Derived.Laws.BitsAllLaws
import Derived.Laws.Slices
import Derived.Laws.Bits64b
import Derived.Laws.FloatArith
import Derived.Deep.RegionHeld3
namespace Go.Proofs.Ytolghomhigemgaa
open Go.RowKit

/-- a set's value, by its flag alone -/
def SV0 (N : Bool) (v : Value) : Prop := ∃ (i j : Int) (s : Bool) (p : Option Addr) (l c : Nat) (q : Option Addr) (k d : Nat) (s2 : Bool) (p2 : Option Addr) (l2 c2 : Nat) (q2 : Option Addr) (k2 d2 : Nat), v = .agg #[.bool N, .int .i64 i, .bool s, .slice p l c, .slice q k d, .int .i64 j, .bool s2, .slice p2 l2 c2, .slice q2 k2 d2]
/-- a set that is not empty, from the end n m to the end n' m' -/
def SV1 (n : Bool) (m : Nat) (n' : Bool) (m' : Nat) (W : World) (v : Value) : Prop := ∃ (s : Bool) (p : Option Addr) (l c : Nat) (q : Option Addr) (k d : Nat) (s2 : Bool) (p2 : Option Addr) (l2 c2 : Nat) (q2 : Option Addr) (k2 d2 : Nat), v = .agg #[.bool false, .int .i64 (infS n m), .bool s, .slice p l c, .slice q k d, .int .i64 (infS n' m'), .bool s2, .slice p2 l2 c2, .slice q2 k2 d2] ∧ RP 0 W s p l c q k d (fN n m) (fM m) ∧ RP 0 W s2 p2 l2 c2 q2 k2 d2 (fN n' m') (fM m')
theorem SV1.sv0 {n : Bool} {m : Nat} {n' : Bool} {m' : Nat} {W : World} {v : Value} (h : SV1 n m n' m' W v) : SV0 false v := by
  obtain ⟨s, p, l, c, q, k, d, s2, p2, l2, c2, q2, k2, d2, e, -, -⟩ := h
  exact ⟨_, _, s, p, l, c, q, k, d, s2, p2, l2, c2, q2, k2, d2, e⟩
theorem SV1.kp {n : Bool} {m : Nat} {n' : Bool} {m' : Nat} {W W' : World} {v : Value} (g : Kp W W') (h : SV1 n m n' m' W v) : SV1 n m n' m' W' v := by
  obtain ⟨s, p, l, c, q, k, d, s2, p2, l2, c2, q2, k2, d2, e, h1, h2⟩ := h
  exact ⟨s, p, l, c, q, k, d, s2, p2, l2, c2, q2, k2, d2, e, h1.kp g, h2.kp g⟩
theorem pla_ne (x : Nat) : Fq.pla x ≠ 9223372036854775808 := by unfold Fq.pla; split <;> omega
theorem rlo_ne (a b : Nat) : Fq.rlo a b ≠ 9223372036854775808 := by
  unfold Fq.rlo
  split
  · exact pla_ne a
  · decide
theorem rhi_ne (a b : Nat) : Fq.rhi a b ≠ 9223372036854775808 := by
  unfold Fq.rhi
  split
  · exact pla_ne b
  · decide
theorem ofEmpty_ (a b : Nat) (ha : a < 18446744073709551616) (hb : b < 18446744073709551616) (hs : Fq.snd a b = false) (w : World) : Calls Try.prog 24 #[.agg #[.int .u64 ((a : Nat) : Int), .int .u64 ((b : Nat) : Int)]] w fun e w' => ∃ v, e = .returned v ∧ SV0 true v ∧ Kp w w' := by
  have hr : ∀ w : World, Calls Try.prog 5 #[.agg #[.int .u64 ((a : Nat) : Int), .int .u64 ((b : Nat) : Int)]] w fun e w' => e = .returned (.agg #[.int .u64 9218868437227405312, .int .u64 18442240474082181120]) ∧ Kp w w' := by
    obtain ⟨n, m, hm, rfl⟩ := Fq.exD a ha
    obtain ⟨n', m', hm', rfl⟩ := Fq.exD b hb
    intro w
    have h := Fq.rread_ n n' m m' hm hm' w
    rw [show Fq.rlo (Fq.wD n m) (Fq.wD n' m') = 9218868437227405312 from by simp [Fq.rlo, hs], show Fq.rhi (Fq.wD n m) (Fq.wD n' m') = 18442240474082181120 from by simp [Fq.rhi, hs]] at h
    exact h
  refine (ofE_ _ _ hr w).mono ?_
  rintro e w' ⟨s, p, l, c, q, k, d, s2, p2, l2, c2, q2, k2, d2, rfl, -, -, g⟩
  exact ⟨_, rfl, ⟨0, 0, s, p, l, c, q, k, d, s2, p2, l2, c2, q2, k2, d2, rfl⟩, g⟩
theorem ofSound_ (a b : Nat) (ha : a < 18446744073709551616) (hb : b < 18446744073709551616) (hs : Fq.snd a b = true) (n n' : Bool) (m m' : Nat) (hm : m ≤ 9218868437227405312) (hm' : m' ≤ 9218868437227405312) (e1 : Fq.rlo a b = Fq.wD n m) (e2 : Fq.rhi a b = Fq.wD n' m') (w : World) : Calls Try.prog 24 #[.agg #[.int .u64 ((a : Nat) : Int), .int .u64 ((b : Nat) : Int)]] w fun e w' => ∃ v, e = .returned v ∧ SV1 n m n' m' w' v ∧ Kp w w' := by
  have hr : ∀ w : World, Calls Try.prog 5 #[.agg #[.int .u64 ((a : Nat) : Int), .int .u64 ((b : Nat) : Int)]] w fun e w' => e = .returned (.agg #[.int .u64 ((Fq.wD n m : Nat) : Int), .int .u64 ((Fq.wD n' m' : Nat) : Int)]) ∧ Kp w w' := by
    rw [← e1, ← e2]
    obtain ⟨n, m, hm, rfl⟩ := Fq.exD a ha
    obtain ⟨n', m', hm', rfl⟩ := Fq.exD b hb
    exact fun w => Fq.rread_ n n' m m' hm hm' w
  have t1 : (((Fq.wD n m : Nat) : Int) == 9218868437227405312) = false := by
    have h1 : Fq.rlo a b ≠ 9218868437227405312 := by
      have h2 : a ≠ 9218868437227405312 := by intro h; rw [h] at hs; simp [Fq.snd] at hs
      simp only [Fq.rlo, hs, if_true, Fq.pla]; split <;> omega
    rw [e1] at h1
    simp; omega
  refine (ofS_ _ _ _ _ _ _ _ _ _ _ hr (bound_ n m hm (e1 ▸ rlo_ne a b)) (bound_ n' m' hm' (e2 ▸ rhi_ne a b)) t1 w).mono ?_
  rintro e w' ⟨s, p, l, c, q, k, d, s2, p2, l2, c2, q2, k2, d2, rfl, h1, h2, g⟩
  exact ⟨_, rfl, ⟨s, p, l, c, q, k, d, s2, p2, l2, c2, q2, k2, d2, rfl, h1.mono (Nat.zero_le _), h2.mono (Nat.zero_le _)⟩, g⟩
end Go.Proofs.Ytolghomhigemgaa
