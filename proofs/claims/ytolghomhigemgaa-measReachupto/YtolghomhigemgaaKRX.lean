import Derived.Test.YtolghomhigemgaaProg
import Derived.Test.YtolghomhigemgaaKXA0
import Derived.Test.YtolghomhigemgaaKXM
import Derived.Test.YtolghomhigemgaaKXT
import Derived.Test.YtolghomhigemgaaKXLB
import Derived.Test.YtolghomhigemgaaKXY
import Derived.Test.YtolghomhigemgaaKXRL
import Derived.Test.YtolghomhigemgaaKXCO
import Derived.Test.YtolghomhigemgaaKLN
import Derived.Test.YtolghomhigemgaaKXRN
import Derived.Test.YtolghomhigemgaaKW4
import Derived.Test.YtolghomhigemgaaKBY
import Derived.Test.YtolghomhigemgaaKBW
import Derived.WalkKit
import Derived.ProofKit
import Derived.RowKit3
import Derived.WalkSpells
import Derived.StillTactics
import Derived.Deep.QuietTactic
import Derived.BigQuiet
import Derived.Below
import Derived.Deep.OwnRows
import Derived.OwnWalk
namespace Go.Proofs.Ytolghomhigemgaa
open Go.RowKit
set_option maxRecDepth 20000 in
theorem leftR (v : Value) (a m : Nat) (w : World) (h : Ls w v (dig a)) (l : blen a ≤ 16777216) (hm : m ≤ 16777216) :
    Calls Try.prog 44 #[v, .int .i64 (m : Int)] w fun e w' => ∃ v', e = .returned v' ∧ Ls w' v' (dig (a * 2 ^ m)) ∧ Kp w w' := by
  obtain ⟨p, c, rfl, hA, hc⟩ := h
  have h := rleft_ p c m (dig a) w hA (Wd_dig a) (Nat.le_trans (dlen a 524288 (by omega)) (by omega)) hm
  rw [val_dig] at h
  exact h.mono fun e w' ⟨v, h1, h2, h3⟩ => ⟨v, h1, h2.ls, h3⟩
set_option maxRecDepth 20000 in
theorem cmpR (v1 v2 : Value) (a b : Nat) (w : World) (h1 : Ls w v1 (dig a)) (h2 : Ls w v2 (dig b)) (l1 : blen a ≤ 33554432) (l2 : blen b ≤ 33554432) :
    Calls Try.prog 28 #[v1, v2] w fun e w' => e = .returned (.int .i64 (cmpN a b)) ∧ Kp w w' := by
  obtain ⟨p, c, rfl, hA, hc⟩ := h1
  obtain ⟨q, d, rfl, hB, hd⟩ := h2
  have e1 := dlen a 1048576 (by omega)
  have e2 := dlen b 1048576 (by omega)
  have h := rcmp_ p q c d (dig a) (dig b) w hA hB (Wd_dig a) (Wd_dig b) (by omega) (by omega)
  rw [val_dig, val_dig] at h
  exact h
set_option maxRecDepth 20000 in
theorem normR (v : Value) (L : List Int) (w : World) (h : Ls w v L) (hw : Wd L) (l : L.length ≤ 1048576) :
    Calls Try.prog 12 #[v] w fun e w' => ∃ v', e = .returned v' ∧ Ls w' v' (dig (val L)) ∧ Kp w w' := by
  obtain ⟨p, c, rfl, hA, hc⟩ := h
  have h := rnorm_ p c L w hA (by omega)
  rw [nz_dig L hw] at h
  exact h.mono fun e w' ⟨v, h1, h2, h3⟩ => ⟨v, h1, h2.ls, h3⟩
end Go.Proofs.Ytolghomhigemgaa
