import Derived.Test.YtejklhnhggaolaaGreatDoorProg
import Derived.Test.YtejklhnhggaolaaGreatDoorKXA0
import Derived.Test.YtejklhnhggaolaaGreatDoorKXM
import Derived.Test.YtejklhnhggaolaaGreatDoorKXY
import Derived.Test.YtejklhnhggaolaaGreatDoorKXQF
import Derived.Test.YtejklhnhggaolaaGreatDoorKQA
import Derived.Test.YtejklhnhggaolaaGreatDoorKQP
import Derived.Test.YtejklhnhggaolaaGreatDoorKXQU
import Derived.Test.YtejklhnhggaolaaGreatDoorKQB
import Derived.Test.YtejklhnhggaolaaGreatDoorKQBT
import Derived.Test.YtejklhnhggaolaaGreatDoorKQJd
import Derived.Test.YtejklhnhggaolaaGreatDoorKMR7Q
import Derived.Test.YtejklhnhggaolaaGreatDoorKXG1
import Derived.Test.YtejklhnhggaolaaGreatDoorKXH2Q
import Derived.Test.YtejklhnhggaolaaGreatDoorKXMR
import Derived.WalkKit
import Derived.ProofKit
import Derived.RowKit3
import Derived.WalkSpells
import Derived.StillTactics
import Derived.Deep.QuietTactic
import Derived.BigQuiet
import Derived.Below
import Derived.Deep.OwnRows
import Derived.Laws.BitsAllLaws
import Derived.Laws.Slices
import Derived.Laws.Bits64b
import Derived.Laws.FloatArith
namespace Go.Proofs.YtejklhnhggaolaaGreatDoor
open Go.RowKit
set_option maxRecDepth 20000 in
set_option maxHeartbeats 400000 in
theorem twoSum_ (n n' : Bool) (m m' K : Nat) (hK : 53 ≤ K) (hK2 : K + 12 ≤ 2097) (hm : m < 9218868437227405312) (hm' : m' < 9218868437227405312) (hx : (Iv n m).natAbs < 2 ^ K) (hy : (Iv n' m').natAbs < 2 ^ K) (V : Int) (hV : V = Iv n m + Iv n' m') : ∃ (s o : Bool) (r ro : Nat), (∀ w : World, Calls Tryz.prog 25 #[.float .f64 (Fq.wD n m), .float .f64 (Fq.wD n' m')] w fun e w' => e = .returned (.tuple #[.float .f64 (Fq.wD s r), .float .f64 (Fq.wD o ro)]) ∧ w' = w) ∧ r < 9218868437227405312 ∧ ro < 9218868437227405312 ∧ r = rgU 53 (rU 0 53 V.natAbs 1) ∧ s = (if V = 0 then n && n' else decide (V < 0)) ∧ Iv o ro = V - Iv s r := by
  obtain ⟨s, p, a, b, c, o, r, pr, ar, br, cr, ro, e1, e2, e3, e4, e5, e6, h1, h2, h3, h4, h5⟩ := two_words n n' m m' K hK hK2 hm hm' hx hy V hV
  refine ⟨s, o, r, ro, fun w => ?_, h1, h2, h3, h4, h5⟩
  obtain ⟨X, hX⟩ : ∃ X, X = Fq.wD n m := ⟨_, rfl⟩
  obtain ⟨Y, hY⟩ : ∃ Y, Y = Fq.wD n' m' := ⟨_, rfl⟩
  obtain ⟨N, hN⟩ : ∃ N, N = Fq.wD s r := ⟨_, rfl⟩
  obtain ⟨P, hP⟩ : ∃ P, P = Fq.wD p pr := ⟨_, rfl⟩
  obtain ⟨B, hB⟩ : ∃ B, B = Fq.wD a ar := ⟨_, rfl⟩
  obtain ⟨C, hC⟩ : ∃ C, C = Fq.wD b br := ⟨_, rfl⟩
  obtain ⟨D, hD⟩ : ∃ D, D = Fq.wD c cr := ⟨_, rfl⟩
  obtain ⟨O, hO⟩ : ∃ O, O = Fq.wD o ro := ⟨_, rfl⟩
  rw [← hX, ← hY, ← hN, ← hO]
  rw [← hX, ← hY, ← hN] at e1
  rw [← hX, ← hN, ← hP] at e2
  rw [← hN, ← hP, ← hB] at e3
  rw [← hX, ← hB, ← hC] at e4
  rw [← hY, ← hP, ← hD] at e5
  rw [← hC, ← hD, ← hO] at e6
  have g1 : ∀ w : World, (binOp .add 26 (.float .f64 X) (.float .f64 Y)).run Tryz.prog w = .ok (.float .f64 N) w := fun w => run_float_arith w .add 26 .f64 X Y N e1
  have g2 : ∀ w : World, (binOp .sub 26 (.float .f64 N) (.float .f64 X)).run Tryz.prog w = .ok (.float .f64 P) w := fun w => run_float_arith w .sub 26 .f64 N X P e2
  have g3 : ∀ w : World, (binOp .sub 26 (.float .f64 N) (.float .f64 P)).run Tryz.prog w = .ok (.float .f64 B) w := fun w => run_float_arith w .sub 26 .f64 N P B e3
  have g4 : ∀ w : World, (binOp .sub 26 (.float .f64 X) (.float .f64 B)).run Tryz.prog w = .ok (.float .f64 C) w := fun w => run_float_arith w .sub 26 .f64 X B C e4
  have g5 : ∀ w : World, (binOp .sub 26 (.float .f64 Y) (.float .f64 P)).run Tryz.prog w = .ok (.float .f64 D) w := fun w => run_float_arith w .sub 26 .f64 Y P D e5
  have g6 : ∀ w : World, (binOp .add 26 (.float .f64 C) (.float .f64 D)).run Tryz.prog w = .ok (.float .f64 O) w := fun w => run_float_arith w .add 26 .f64 C D O e6
  clear hX hY hN hP hB hC hD hO e1 e2 e3 e4 e5 e6 h1 h2 h3 h4 h5 hm hm' hx hy hV
  go_enter Tryz.func25, Tryz.ntmps25
  go_wp2
  exact bodyPost_ret (v := .tuple #[.float .f64 N, .float .f64 O]) (by simp [results, Tryz.results25, go_sem]) rfl ⟨rfl, rfl⟩
set_option maxRecDepth 20000 in
set_option maxHeartbeats 400000 in
theorem stepped_ (d V : Int) (s o sz : Bool) (r ro K : Nat) (hK : 53 ≤ K) (hK2 : K ≤ 2096) (hv : V.natAbs < 2 ^ K) (hr1 : r < 9218868437227405312) (hro : ro < 9218868437227405312) (hr : r = rgU 53 (rU 0 53 V.natAbs 1)) (hs : s = (if V = 0 then sz else decide (V < 0))) (ho : Iv o ro = V - Iv s r) (w : World) :
    Calls Tryz.prog 26 #[.int .i64 d, .float .f64 (Fq.wD s r), .float .f64 (Fq.wD o ro)] w fun e w' => e = .returned (.float .f64 (sumW d V)) ∧ Kp w w' := by
  obtain ⟨S1, S2, S3⟩ := step_w d V s o sz r ro K hK hK2 hv hr hs ho
  have hz : (0 : Nat) = Fq.wD false 0 := rfl
  have hord : FloatKind.f64.format.order (Fq.wD o ro) 0 = some (compare (Fq.plz o ro) 0) := by
    rw [hz, Fq.ordD o false ro 0 (by omega) (by decide)]; rfl
  obtain ⟨P, hP⟩ : ∃ P, P = Fq.plz o ro := ⟨_, rfl⟩
  rw [← hP] at S1 S2 S3 hord
  obtain ⟨O, hO⟩ : ∃ O, O = Fq.wD o ro := ⟨_, rfl⟩
  obtain ⟨Z, hZ⟩ : ∃ Z, Z = sumW d V := ⟨_, rfl⟩
  obtain ⟨N, hN⟩ : ∃ N, N = Fq.wD s r := ⟨_, rfl⟩
  rw [← hZ] at S1 S2 S3
  rw [← hO] at hord
  rw [← hO, ← hZ, ← hN]
  have hup := fun h => Fq.up_d s r (by omega) h w
  have hdn := fun h => Fq.dn_d s r (by omega) h w
  have hpl := Fq.plain_d s r (by omega) w
  rw [← hN] at hup hdn hpl
  clear hO hN hZ hr hs ho hP hz hv hK hK2 hr1 hro
  by_cases c1 : d = -1
  · by_cases c2 : P < 0
    · obtain ⟨a1, a2⟩ := S1 c1 c2
      have hc := hdn a1
      rw [a2] at hc
      have o1 : (FloatKind.f64.format.order O 0 == some .lt) = true := by rw [hord, Int.compare_eq_lt.2 c2]; rfl
      subst c1
      clear S1 S2 S3 hup hdn hpl hord c2 a1 a2
      go_enter Tryz.func26, Tryz.ntmps26
      go_wp2_with fail
      refine hc.mono ?_; rintro e w1 ⟨rfl, hk⟩
      clear hc
      go_wp2
      exact bodyPost_ret (v := .float .f64 Z) (by simp [results, Tryz.results26, go_sem]) rfl ⟨rfl, hk⟩
    · have hc := hpl
      rw [S3 (fun h => c2 h.2) (fun h => by omega)] at hc
      have o1 : (FloatKind.f64.format.order O 0 == some .lt) = false := by
        rw [hord]
        rcases Int.lt_trichotomy P 0 with h | h | h
        · exact absurd h c2
        · rw [Int.compare_eq_eq.2 h]; rfl
        · rw [Int.compare_eq_gt.2 h]; rfl
      subst c1
      clear S1 S2 S3 hup hdn hpl hord c2
      go_enter Tryz.func26, Tryz.ntmps26
      go_wp2_with fail
      refine hc.mono ?_; rintro e w1 ⟨rfl, hw⟩
      obtain rfl := hw.symm
      clear hc
      go_wp2
      exact bodyPost_ret (v := .float .f64 Z) (by simp [results, Tryz.results26, go_sem]) rfl ⟨rfl, Kp.refl _⟩
  · have e1 : (d == -1) = false := by simp [c1]
    by_cases c3 : d = 1
    · by_cases c2 : 0 < P
      · obtain ⟨a1, a2⟩ := S2 c3 c2
        have hc := hup a1
        rw [a2] at hc
        have o1 : (FloatKind.f64.format.order O 0 == some .gt) = true := by rw [hord, Int.compare_eq_gt.2 c2]; rfl
        subst c3
        clear S1 S2 S3 hup hdn hpl hord c2 a1 a2 c1
        go_enter Tryz.func26, Tryz.ntmps26
        go_wp2_with fail
        refine hc.mono ?_; rintro e w1 ⟨rfl, hk⟩
        clear hc
        go_wp2
        exact bodyPost_ret (v := .float .f64 Z) (by simp [results, Tryz.results26, go_sem]) rfl ⟨rfl, hk⟩
      · have hc := hpl
        rw [S3 (fun h => c1 h.1) (fun h => c2 h.2)] at hc
        have o1 : (FloatKind.f64.format.order O 0 == some .gt) = false := by
          rw [hord]
          rcases Int.lt_trichotomy P 0 with h | h | h
          · rw [Int.compare_eq_lt.2 h]; rfl
          · rw [Int.compare_eq_eq.2 h]; rfl
          · exact absurd h c2
        subst c3
        clear S1 S2 S3 hup hdn hpl hord c2 c1
        go_enter Tryz.func26, Tryz.ntmps26
        go_wp2_with fail
        refine hc.mono ?_; rintro e w1 ⟨rfl, hw⟩
        obtain rfl := hw.symm
        clear hc
        go_wp2
        exact bodyPost_ret (v := .float .f64 Z) (by simp [results, Tryz.results26, go_sem]) rfl ⟨rfl, Kp.refl _⟩
    · have e2 : (d == 1) = false := by simp [c3]
      have hc := hpl
      rw [S3 (fun h => c1 h.1) (fun h => c3 h.1)] at hc
      clear S1 S2 S3 hup hdn hpl hord c1 c3
      go_enter Tryz.func26, Tryz.ntmps26
      go_wp2_with fail
      refine hc.mono ?_; rintro e w1 ⟨rfl, hw⟩
      obtain rfl := hw.symm
      clear hc
      go_wp2
      exact bodyPost_ret (v := .float .f64 Z) (by simp [results, Tryz.results26, go_sem]) rfl ⟨rfl, Kp.refl _⟩
end Go.Proofs.YtejklhnhggaolaaGreatDoor
