import Derived.Test.YtolghomhigemgaaProg
import Derived.Test.YtolghomhigemgaaKXA0
import Derived.Test.YtolghomhigemgaaKXM
import Derived.Test.YtolghomhigemgaaKXY
import Derived.Test.YtolghomhigemgaaKXLB
import Derived.Test.YtolghomhigemgaaKRX
import Derived.WalkKit
import Derived.ProofKit
import Derived.RowKit3
import Derived.WalkSpells
import Derived.StillTactics
import Derived.Deep.QuietTactic
import Derived.BigQuiet
import Derived.Below
import Derived.Deep.OwnRows
import Derived.Laws.BitsAllLaws
import Derived.Laws.Slices
import Derived.Laws.Bits64b
import Derived.OwnWalk
namespace Go.Proofs.Ytolghomhigemgaa
open Go.RowKit
theorem w64x (z : Int) (h0 : -1099511627776 ≤ z) (h1 : z ≤ 1099511627776) : wrap64 z = z := by unfold wrap64; omega
theorem greG (sig P x s G : Nat) (hb : blen sig = P) (h0 : sig ≠ 0) (hP : P ≤ 53) (hs : s = min (53 - P) x) (hG : (x - s) * 4503599627370496 + sig * 2 ^ s = G) (hx : P + x ≤ 2098) : rgU 53 (sig * 2 ^ x) = G ∧ blen (sig * 2 ^ x) ≤ 2098 := by
  have h := rgU_mul 53 sig x s h0 (by rw [hb]; exact hs) (by rw [hb]; exact hP)
  rw [show (2 : Nat) ^ (53 - 1) = 4503599627370496 from by decide, hG] at h
  exact ⟨h, by rw [blen_mul _ _ h0, hb]; exact hx⟩
set_option maxRecDepth 20000 in
set_option maxHeartbeats 400000 in
theorem rsign_ (neg : Bool) (vn vd : Value) (n : Nat) (w : World) (hn : Ls w vn (dig n)) (l : blen n ≤ 33554432) :
    Calls Try.prog 13 #[.agg #[.bool neg, vn, vd]] w fun e w' => e = .returned (.int .i64 (if n = 0 then 0 else if neg then -1 else 1)) ∧ Kp w w' := by
  obtain ⟨w0, hw0⟩ : ∃ w0, w0 = w.alloc (.cells #[.bool neg, vn, vd] 27) := ⟨_, rfl⟩
  have hk0 : Kp w w0 := by rw [hw0]; exact (Kp.refl w).alloc _
  have c0 : w0.cell? ⟨w.heap.size, 0, none⟩ = some (.bool neg) := by rw [hw0]; simp [go_sem]
  have hc := normR vn (dig n) w0 (hn.kp hk0) (Wd_dig n) (dlen n 1048576 (by omega))
  rw [val_dig] at hc
  have hlz := dig_len_zero n
  obtain ⟨M, hM⟩ : ∃ M, M = (dig n).length := ⟨_, rfl⟩
  have HM : Hid (M = (dig n).length) := hM
  rw [← hM] at hlz
  clear hn l hM
  by_cases cz : n = 0
  · have hM0 : M = 0 := hlz.2 cz
    rw [if_pos cz]
    clear hlz cz
    go_enter Try.func13, Try.ntmps13
    go_wp2_with fail
    rw [← hw0]
    refine hc.mono ?_; rintro e w1 ⟨v1, rfl, ⟨p1, c1, rfl, _, _⟩, hk⟩
    rw [← HM.out]
    subst hM0
    have K1 : Kp w w1 := hk0.trans hk
    clear hc hk hw0 hk0 c0
    go_wp2
    exact bodyPost_ret (v := .int .i64 0) (by simp [results, Try.results13, go_sem]) rfl ⟨rfl, K1⟩
  · have hM0 : ¬ ((M : Int) = 0) := by have := mt hlz.1 cz; omega
    rw [if_neg cz]
    clear hlz cz
    go_enter Try.func13, Try.ntmps13
    go_wp2_with fail
    rw [← hw0]
    refine hc.mono ?_; rintro e w1 ⟨v1, rfl, ⟨p1, c1, rfl, _, _⟩, hk⟩
    rw [← HM.out]
    have K1 : Kp w w1 := hk0.trans hk
    have c1' := kkeep hk c0
    clear hc hk hw0 hk0 c0
    cases neg
    · go_wp2
      exact bodyPost_ret (v := .int .i64 1) (by simp [results, Try.results13, go_sem]) rfl ⟨rfl, K1⟩
    · go_wp2
      exact bodyPost_ret (v := .int .i64 (-1)) (by simp [results, Try.results13, go_sem]) rfl ⟨rfl, K1⟩
end Go.Proofs.Ytolghomhigemgaa
