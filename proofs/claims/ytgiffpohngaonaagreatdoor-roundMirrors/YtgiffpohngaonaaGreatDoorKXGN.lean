import Derived.Test.YtgiffpohngaonaaGreatDoorProg
import Derived.Test.YtgiffpohngaonaaGreatDoorKXA0
import Derived.Test.YtgiffpohngaonaaGreatDoorKXM
import Derived.Test.YtgiffpohngaonaaGreatDoorKXY
import Derived.Test.YtgiffpohngaonaaGreatDoorKXQF
import Derived.Test.YtgiffpohngaonaaGreatDoorKQA
import Derived.Test.YtgiffpohngaonaaGreatDoorKQP
import Derived.Test.YtgiffpohngaonaaGreatDoorKXQU
import Derived.Test.YtgiffpohngaonaaGreatDoorKQB
import Derived.Test.YtgiffpohngaonaaGreatDoorKQBT
import Derived.Test.YtgiffpohngaonaaGreatDoorKXQJ
import Derived.Test.YtgiffpohngaonaaGreatDoorKXLB
import Derived.Test.YtgiffpohngaonaaGreatDoorKXMR
import Derived.Test.YtgiffpohngaonaaGreatDoorKXG1
import Derived.Test.YtgiffpohngaonaaGreatDoorKXH2Q
import Derived.Test.YtgiffpohngaonaaGreatDoorKXNM
import Derived.Test.YtgiffpohngaonaaGreatDoorKXMQ
import Derived.Test.YtgiffpohngaonaaGreatDoorKXMS
import Derived.Test.YtgiffpohngaonaaGreatDoorKXO3
import Derived.Test.YtgiffpohngaonaaGreatDoorKXO
import Derived.Test.YtgiffpohngaonaaGreatDoorKXP
import Derived.Test.YtgiffpohngaonaaGreatDoorKXS2
import Derived.Test.YtgiffpohngaonaaGreatDoorKXS4
import Derived.Test.YtgiffpohngaonaaGreatDoorKXS8
import Derived.Test.YtgiffpohngaonaaGreatDoorKXU1
import Derived.Test.YtgiffpohngaonaaGreatDoorKXU3
import Derived.Test.YtgiffpohngaonaaGreatDoorKU5
import Derived.Test.YtgiffpohngaonaaGreatDoorKXYC
import Derived.Test.YtgiffpohngaonaaGreatDoorKXZA
import Derived.Test.YtgiffpohngaonaaGreatDoorKXZD
import Derived.Test.YtgiffpohngaonaaGreatDoorKXTZ
import Derived.Test.YtgiffpohngaonaaGreatDoorKXGR
import Derived.Test.YtgiffpohngaonaaGreatDoorKXGM
import Derived.Test.YtgiffpohngaonaaGreatDoorKGMc
import Derived.WalkKit
import Derived.ProofKit
import Derived.RowKit3
import Derived.WalkSpells
import Derived.StillTactics
import Derived.Deep.QuietTactic
import Derived.BigQuiet
import Derived.Below
import Derived.Deep.OwnRows
import Derived.OwnWalk
import Derived.Laws.BitsAllLaws
import Derived.Laws.Slices
import Derived.Laws.Bits64b
import Derived.Laws.FloatArith
namespace Go.Proofs.YtgiffpohngaonaaGreatDoor
open Go.RowKit

set_option linter.unusedVariables false
/-- what is asked, answered -/
def oX (K : Nat) (op d : Int) (n : Bool) (m : Nat) (n' : Bool) (m' : Nat) (nz : Bool) (mz : Nat) : Option Int := if op = 0 then oA d n m n' m' else if op = 1 then oA d n m (!n') m' else if op = 2 then oM K d n m n' m' else if op = 3 then oD K d n m n' m' else oF K d n m n' m' nz mz
theorem okX (K : Nat) (op d : Int) (n : Bool) (m : Nat) (n' : Bool) (m' : Nat) (nz : Bool) (mz : Nat) : okO (oX K op d n m n' m' nz mz) := by
  unfold oX
  split
  · exact okA _ _ _ _ _
  · split
    · exact okA _ _ _ _ _
    · split
      · exact okM _ _ _ _ _ _
      · split
        · exact okD _ _ _ _ _ _
        · exact okF _ _ _ _ _ _ _ _
theorem askX_ (K : Nat) (hK : K = 1074) (op d : Int) (h5 : 0 ≤ op ∧ op < 5) (n n' nz : Bool) (m m' mz : Nat) (hm : m < 9223372036854775808) (hm' : m' < 9223372036854775808) (hmz : mz < 9223372036854775808) (hd1 : -9223372036854775808 ≤ d) (hd2 : d < 9223372036854775808) (w : World) (hT : Tab w) (hQ : Fq.Tab w) : Calls Tryz.prog 5 #[.int .i64 op, .int .i64 d, .float .f64 (Fq.wD n m), .float .f64 (Fq.wD n' m'), .float .f64 (Fq.wD nz mz)] w fun e w' => e = .returned (.int .u64 ((zc (oX K op d n m n' m' nz mz) : Nat) : Int)) ∧ Kp w w' := by
  unfold oX
  by_cases c0 : op = 0
  · rw [if_pos c0, c0]; exact asked0_ d _ _ _ _ w (addO_ d n n' m m' hm hm' hd1 hd2 w hT hQ)
  rw [if_neg c0]
  by_cases c1 : op = 1
  · rw [if_pos c1, c1]; exact asked1_ d _ _ _ _ w (subO_ d n n' m m' hm hm' hd1 hd2 w hT hQ)
  rw [if_neg c1]
  by_cases c2 : op = 2
  · rw [if_pos c2, c2]; exact asked2_ d _ _ _ _ w (mulO_ K hK d n n' m m' hm hm' hd1 hd2 w hT hQ)
  rw [if_neg c2]
  by_cases c3 : op = 3
  · rw [if_pos c3, c3]; exact asked3_ d _ _ _ _ w (divO_ K hK d n n' m m' hm hm' hd1 hd2 w hT hQ)
  rw [if_neg c3, show op = 4 from by omega]
  exact asked4_ d _ _ _ _ w (fmaO_ K hK d n n' nz m m' mz hm hm' hmz hd1 hd2 w hT hQ)
theorem nn9 (b : Bool) : (!(!b)) = b := by cases b <;> rfl
set_option maxHeartbeats 1000000 in
theorem mirrors_ (X Y Z : Nat) (w : World) (hT : Tab w) (hQ : Fq.Tab w) (hX : X < 18446744073709551616) (hY : Y < 18446744073709551616) (hZ : Z < 18446744073709551616) : Calls Tryz.prog 3 #[.agg #[.int .u64 (X : Int), .int .u64 (Y : Int), .int .u64 (Z : Int)]] w fun e w' => e = .returned (.bool true) ∧ Kp w w' := by
  obtain ⟨n0, m0, h0, e0⟩ := Fq.exD X hX
  obtain ⟨n1, m1, h1, e1⟩ := Fq.exD Y hY
  obtain ⟨n2, m2, h2, e2⟩ := Fq.exD Z hZ
  obtain ⟨K, hK⟩ : ∃ K : Nat, K = 1074 := ⟨_, rfl⟩
  have ask : ∀ (op d : Int) (n n' nz : Bool) (m m' mz : Nat), m < 9223372036854775808 → m' < 9223372036854775808 → mz < 9223372036854775808 → 0 ≤ op ∧ op < 5 → -1 ≤ d → d ≤ 1 → ∀ W : World, Kp w W → Calls Tryz.prog 5 #[.int .i64 op, .int .i64 d, .float .f64 (Fq.wD n m), .float .f64 (Fq.wD n' m'), .float .f64 (Fq.wD nz mz)] W fun e w' => e = .returned (.int .u64 ((zc (oX K op d n m n' m' nz mz) : Nat) : Int)) ∧ Kp W w' := fun op d n n' nz m m' mz hm hm' hmz h5 d1 d2 W g => askX_ K hK op d h5 n n' nz m m' mz hm hm' hmz (by omega) (by omega) W (Tab.grown hT g) (Fq.Tab.grown hQ g)
  exact mirrorsA_ (X : Int) (Y : Int) (Z : Int) (Fq.wD n0 m0) (Fq.wD n1 m1) (Fq.wD n2 m2) (Fq.wD (!n0) m0) (Fq.wD (!n1) m1) (Fq.wD (!n2) m2) (fun op d => ((zc (oX K op d n0 m0 n1 m1 n2 m2) : Nat) : Int)) (fun op d => if op < 2 then ((zc (oX K op d (!n0) m0 (!n1) m1 n2 m2) : Nat) : Int) else ((zc (oX K op d (!n0) m0 n1 m1 (!n2) m2) : Nat) : Int)) (fun d => ((zc (oA d n0 m0 n1 m1) : Nat) : Int)) (fun d => ((zc (oA d n0 m0 (!n1) m1) : Nat) : Int)) (fun d => ((zc (oM K d n0 m0 n1 m1) : Nat) : Int)) w
    (fun op d x y z Z => 0 ≤ op ∧ op < 5 → -1 ≤ d → d ≤ 1 → ∀ W : World, Kp w W → Calls Tryz.prog 5 #[.int .i64 op, .int .i64 d, .float .f64 x, .float .f64 y, .float .f64 z] W fun e w' => e = .returned (.int .u64 Z) ∧ Kp W w')
    (fun X Y => X = ((Y : Nat) : Int)) (fun X Y => ∀ W : World, Calls Tryz.prog 6 #[.int .u64 X] W fun e w' => e = .returned (.int .u64 Y) ∧ w' = W)
    (fun op d x y z Z h => h) (fun X Y h W => by rw [h]; exact fl_ Y W) (fun X Y h => h) (fun W g => lives_ W (Tab.grown hT g) (Fq.Tab.grown hQ g)) (negW8 n0 m0 h0) (negW8 n1 m1 h1) (negW8 n2 m2 h2)
    (fun op d => ask op d n0 n1 n2 m0 m1 m2 h0 h1 h2)
    (fun op d ho => by rw [if_pos ho]; exact ask op d (!n0) (!n1) n2 m0 m1 m2 h0 h1 h2)
    (fun op d ho => by rw [if_neg ho]; exact ask op d (!n0) n1 (!n2) m0 m1 m2 h0 h1 h2)
    (fun op d d' h5 hd W => by
      rw [hd]
      by_cases ho : op < 2
      · rw [if_pos ho]
        have g := mir_ (oX K op (-d) (!n0) m0 (!n1) m1 n2 m2) (okX _ _ _ _ _ _ _ _ _) W
        rw [show ng (oX K op (-d) (!n0) m0 (!n1) m1 n2 m2) = oX K op d n0 m0 n1 m1 n2 m2 from by
          unfold oX
          by_cases c0 : op = 0
          · rw [if_pos c0, if_pos c0, oA_mir, ng_ng]
          · rw [if_neg c0, if_neg c0, if_pos (show op = 1 by omega), if_pos (show op = 1 by omega), oA_mir, ng_ng]] at g
        exact g
      · rw [if_neg ho]
        have g := mir_ (oX K op (-d) (!n0) m0 n1 m1 (!n2) m2) (okX _ _ _ _ _ _ _ _ _) W
        rw [show ng (oX K op (-d) (!n0) m0 n1 m1 (!n2) m2) = oX K op d n0 m0 n1 m1 n2 m2 from by
          unfold oX
          rw [if_neg (show ¬ op = 0 by omega), if_neg (show ¬ op = 0 by omega), if_neg (show ¬ op = 1 by omega), if_neg (show ¬ op = 1 by omega)]
          by_cases c2 : op = 2
          · rw [if_pos c2, if_pos c2, oM_mir, ng_ng]
          · rw [if_neg c2, if_neg c2]
            by_cases c3 : op = 3
            · rw [if_pos c3, if_pos c3, oD_mir, ng_ng]
            · rw [if_neg c3, if_neg c3, oF_mir, ng_ng]] at g
        exact g)
    (fun d => ask 0 d n0 n1 false m0 m1 0 h0 h1 (by decide))
    (fun d => by rw [oA_sym]; exact ask 0 d n1 n0 false m1 m0 0 h1 h0 (by decide))
    (fun d => ask 2 d n0 n1 false m0 m1 0 h0 h1 (by decide))
    (fun d => by rw [oM_sym]; exact ask 2 d n1 n0 false m1 m0 0 h1 h0 (by decide))
    (fun d => by
      have h := ask 4 d n1 n0 n2 m1 m0 m2 h1 h0 h2
      rw [show oX K 4 d n1 m1 n0 m0 n2 m2 = oX K 4 d n0 m0 n1 m1 n2 m2 from oF_sym K d n1 m1 n0 m0 n2 m2] at h
      exact h)
    (fun d => ask 1 d n0 n1 false m0 m1 0 h0 h1 (by decide))
    (fun d => ask 0 d n0 (!n1) false m0 m1 0 h0 h1 (by decide))
    (by rw [e0]) (by rw [e1]) (by rw [e2])
end Go.Proofs.YtgiffpohngaonaaGreatDoor
