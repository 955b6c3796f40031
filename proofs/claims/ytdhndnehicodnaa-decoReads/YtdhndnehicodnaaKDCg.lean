import Derived.Test.YtdhndnehicodnaaProg
import Derived.Test.YtdhndnehicodnaaKXA0
import Derived.Test.YtdhndnehicodnaaKQM
import Derived.Test.YtdhndnehicodnaaKQA
import Derived.Test.YtdhndnehicodnaaKXQU
import Derived.Test.YtdhndnehicodnaaKEM
import Derived.Test.YtdhndnehicodnaaKEN
import Derived.Test.YtdhndnehicodnaaKEA
import Derived.Test.YtdhndnehicodnaaKEB
import Derived.Test.YtdhndnehicodnaaKEH
import Derived.Test.YtdhndnehicodnaaKEK
import Derived.Test.YtdhndnehicodnaaKEO
import Derived.Test.YtdhndnehicodnaaKER
import Derived.Test.YtdhndnehicodnaaKES
import Derived.Test.YtdhndnehicodnaaKNRv
import Derived.Test.YtdhndnehicodnaaKNRm
import Derived.Test.YtdhndnehicodnaaKNRa
import Derived.Test.YtdhndnehicodnaaKNRb
import Derived.Test.YtdhndnehicodnaaKNRc
import Derived.Test.YtdhndnehicodnaaKNRj
import Derived.Test.YtdhndnehicodnaaKNKa
import Derived.Test.YtdhndnehicodnaaKDCa
import Derived.Test.YtdhndnehicodnaaKDCb
import Derived.Test.YtdhndnehicodnaaKDCc
import Derived.Test.YtdhndnehicodnaaKDCd
import Derived.Test.YtdhndnehicodnaaKDCe
import Derived.Test.YtdhndnehicodnaaKDCf
import Derived.WalkKit
import Derived.ProofKit
import Derived.RowKit3
import Derived.WalkSpells
import Derived.StillTactics
import Derived.Deep.QuietTactic
import Derived.BigQuiet
import Derived.Below
import Derived.Deep.OwnRows
import Derived.OwnWalk
import Derived.Laws.BitsAllLaws
import Derived.Laws.Slices
import Derived.Laws.Bits64b
import Derived.Laws.FloatArith
import Derived.Deep.RegionHeld3
import Derived.Deep.CutRange
import Derived.Deep.DeepCutAuto
namespace Go.Proofs.Ytdhndnehicodnaa
open Go.RowKit

theorem rsound9_ (a b : Nat) (L H : Int) (h : Rd a b L H) (w : World) : Calls Try.prog 21 #[.agg #[.int .u64 ((a : Nat) : Int), .int .u64 ((b : Nat) : Int)]] w fun e w' => e = .returned (.bool (!decide (L = 9218868437227405312))) ∧ Kp w w' := by
  have e : Fq.snd a b = !decide (L = 9218868437227405312) := by
    have h1 := Fq.void_read a b
    rw [h.2.2.2.1, h.2.2.2.2, emp9 L H h.vd] at h1
    rw [h1]; simp
  rw [← e]
  obtain ⟨n, m, hm, rfl⟩ := Fq.exD a h.1
  obtain ⟨n', m', hm', rfl⟩ := Fq.exD b h.2.1
  refine (Fq.sound_ n n' m m' hm hm' w).mono ?_
  rintro e w' ⟨rfl, rfl⟩
  exact ⟨rfl, (Kp.refl w).alloc _⟩
theorem emp_void (a b : Nat) (L H : Int) (h : Rd a b L H) (e : a = 9218868437227405312 ∧ b = 18442240474082181120) : L = 9218868437227405312 ∧ H = -9218868437227405312 := by
  have s1 : Fq.snd a b = false := by rw [e.1]; simp [Fq.snd]
  have h1 := Fq.void_read a b
  rw [h.2.2.2.1, h.2.2.2.2, emp9 L H h.vd, s1] at h1
  have h2 : L = 9218868437227405312 := of_decide_eq_true h1
  have := h.vd
  unfold VdZ at this
  omega
theorem rdread_ (a b : Nat) (L H D : Int) (h : Rd a b L H) (w : World) : Calls Try.prog 7 #[.agg #[.int .u64 ((a : Nat) : Int), .int .u64 ((b : Nat) : Int), .int .i64 D]] w fun e w' => e = .returned (.agg #[.int .u64 ((dL a b L (dN L H D) : Nat) : Int), .int .u64 ((dH a b L H (dN L H D) : Nat) : Int), .int .i64 (dR a b L (dN L H D))]) ∧ Kp w w' := by
  have hd := h.vd
  have hs := rsound9_ a b L H h
  have hr := rread9_ a b L H h
  by_cases dd : D = 4 ∨ D = 8 ∨ D = 12 ∨ D = 16
  · by_cases e : a = 9218868437227405312 ∧ b = 18442240474082181120
    · obtain ⟨l1, l2⟩ := emp_void a b L H h e
      have z : dN L H D = 4 := by
        unfold dN fallN
        rw [decide_eq_true l1]
        rcases dd with rfl | rfl | rfl | rfl <;> rfl
      have nz : ¬ (dN L H D = 0 ∨ (L = 9218868437227405312 ∧ ¬ (a = 9218868437227405312 ∧ b = 18442240474082181120))) := fun g => g.elim (fun g => by rw [z] at g; cases g) (fun g => g.2 e)
      unfold dL dH dR
      rw [if_neg nz, if_neg nz, if_neg nz, z, l1, l2, pw_I, pw_MI]
      clear z nz hr hs
      obtain ⟨rfl, rfl⟩ := e
      rcases dd with rfl | rfl | rfl | rfl
      · exact rdreadE4_ _ _ (by decide) (by decide) w
      · exact rdreadE8_ _ _ (by decide) (by decide) w
      · exact rdreadE12_ _ _ (by decide) (by decide) w
      · exact rdreadE16_ _ _ (by decide) (by decide) w
    · have u : (((a : Int) == 9218868437227405312) && ((b : Int) == 18442240474082181120)) = false := by
        by_cases c1 : a = 9218868437227405312
        · have c2 : ¬ b = 18442240474082181120 := fun c2 => e ⟨c1, c2⟩
          have : ((b : Int) == 18442240474082181120) = false := by simp; omega
          rw [this]; simp
        · have : ((a : Int) == 9218868437227405312) = false := by simp; omega
          rw [this]; simp
      by_cases c : L = 9218868437227405312
      · rw [decide_eq_true c] at hs
        have nz : dN L H D = 0 ∨ (L = 9218868437227405312 ∧ ¬ (a = 9218868437227405312 ∧ b = 18442240474082181120)) := Or.inr ⟨c, e⟩
        unfold dL dH dR
        rw [if_pos nz, if_pos nz, if_pos nz]
        clear nz hr
        rcases dd with rfl | rfl | rfl | rfl
        · exact rdreadN4_ _ _ _ _ rfl rfl u hs w
        · exact rdreadN8_ _ _ _ _ rfl rfl u hs w
        · exact rdreadN12_ _ _ _ _ rfl rfl u hs w
        · exact rdreadN16_ _ _ _ _ rfl rfl u hs w
      · rw [decide_eq_false c] at hs
        have i3 := pI_inj L (-9218868437227405312) hd.lo (by unfold BdZ; omega)
        have i4 := pI_inj H 9218868437227405312 hd.hi (by unfold BdZ; omega)
        rw [show pI (-9218868437227405312) = 18442240474082181120 from by decide] at i3
        rw [show pI 9218868437227405312 = 9218868437227405312 from by decide] at i4
        have hb := bounded_ (pI L) (pI H) _ _ rfl rfl
        have eC : ((pI L != 18442240474082181120) && (pI H != 9218868437227405312)) = (!decide (L = 9218868437227405312 ∨ L = -9218868437227405312) && !decide (H = 9218868437227405312 ∨ H = -9218868437227405312)) := by
          unfold VdZ at hd
          rw [show (pI L != 18442240474082181120) = !decide (L = -9218868437227405312) from by by_cases c1 : L = -9218868437227405312; rw [decide_eq_true c1]; simpa using i3.2 c1; rw [decide_eq_false c1]; simpa using fun g => c1 (i3.1 g)]
          rw [show (pI H != 9218868437227405312) = !decide (H = 9218868437227405312) from by by_cases c1 : H = 9218868437227405312; rw [decide_eq_true c1]; simpa using i4.2 c1; rw [decide_eq_false c1]; simpa using fun g => c1 (i4.1 g)]
          rw [show decide (L = 9218868437227405312 ∨ L = -9218868437227405312) = decide (L = -9218868437227405312) from by congr 1; apply propext; omega, show decide (H = 9218868437227405312 ∨ H = -9218868437227405312) = decide (H = 9218868437227405312) from by congr 1; apply propext; omega]
        rw [eC] at hb
        have key : ∀ R : Int, dN L H D = R → R ≠ 0 → dL a b L (dN L H D) = pw L ∧ dH a b L H (dN L H D) = pw H ∧ dR a b L (dN L H D) = R := by
          intro R hR z
          have nz : ¬ (dN L H D = 0 ∨ (L = 9218868437227405312 ∧ ¬ (a = 9218868437227405312 ∧ b = 18442240474082181120))) := fun g => g.elim (fun g => z (hR.symm.trans g)) (fun g => c g.1)
          unfold dL dH dR
          rw [if_neg nz, if_neg nz, if_neg nz]
          exact ⟨rfl, rfl, hR⟩
        clear i3 i4 eC
        rcases dd with rfl | rfl | rfl | rfl
        · obtain ⟨k1, k2, k3⟩ := key 4 (by unfold dN fallN; rw [decide_eq_false c]; rfl) (by decide)
          rw [k1, k2, k3]
          exact rdreadS4_ _ _ _ _ _ _ rfl rfl u hs hr w
        · obtain ⟨k1, k2, k3⟩ := key 8 (by unfold dN fallN; rw [decide_eq_false c]; rfl) (by decide)
          rw [k1, k2, k3]
          exact rdreadS8_ _ _ _ _ _ _ rfl rfl u hs hr w
        · obtain ⟨k1, k2, k3⟩ := key 12 (by unfold dN fallN; rw [decide_eq_false c]; rfl) (by decide)
          rw [k1, k2, k3]
          exact rdreadS12_ _ _ _ _ _ _ rfl rfl u hs hr w
        · by_cases cc : (!decide (L = 9218868437227405312 ∨ L = -9218868437227405312) && !decide (H = 9218868437227405312 ∨ H = -9218868437227405312)) = true
          · rw [cc] at hb
            obtain ⟨k1, k2, k3⟩ := key 16 (by unfold dN fallN; rw [decide_eq_false c, cc]; rfl) (by decide)
            rw [k1, k2, k3]
            exact rdreadS16_ _ _ _ _ _ _ rfl rfl u hs hr hb w
          · have cc : (!decide (L = 9218868437227405312 ∨ L = -9218868437227405312) && !decide (H = 9218868437227405312 ∨ H = -9218868437227405312)) = false := by simpa using cc
            rw [cc] at hb
            obtain ⟨k1, k2, k3⟩ := key 12 (by unfold dN fallN; rw [decide_eq_false c, cc]; rfl) (by decide)
            rw [k1, k2, k3]
            exact rdreadT16_ _ _ _ _ _ _ rfl rfl u hs hr hb w
  · have z : dN L H D = 0 := by
      unfold dN fallN
      rw [if_neg (by omega), if_neg (by omega), if_neg (by omega), if_neg (by omega)]
    have nz : dN L H D = 0 ∨ (L = 9218868437227405312 ∧ ¬ (a = 9218868437227405312 ∧ b = 18442240474082181120)) := Or.inl z
    unfold dL dH dR
    rw [if_pos nz, if_pos nz, if_pos nz]
    clear nz z hr hs
    exact rdread0_ _ _ D (by simp; omega) (by simp; omega) (by simp; omega) (by simp; omega) w
set_option maxRecDepth 20000 in
set_option maxHeartbeats 1000000 in
theorem rnewA_ (X1 X2 L H R : Int) (hr : ∀ w : World, Calls Try.prog 7 #[.agg #[.int .u64 X1, .int .u64 X2, .int .i64 16]] w fun e w' => e = .returned (.agg #[.int .u64 L, .int .u64 H, .int .i64 R]) ∧ Kp w w') (w : World) : Calls Try.prog 11 #[.agg #[.int .u64 X1, .int .u64 X2]] w fun e w' => e = .returned (.agg #[.int .u64 L, .int .u64 H, .int .i64 R]) ∧ Kp w w' := by
  go_enter Try.func11, Try.ntmps11
  go_wp2_with (first | (go_at_call 7; refine (hr _).mono ?_; rintro e w5 ⟨rfl, g5⟩; have k5 : Kp w w5 := Kp.trans (((Kp.refl w).alloc _).alloc _) g5; obtain ⟨r0, r1, r2, r3, r4, r5⟩ := H3c.keep (H3c.two w #[.int .u64 X1, .int .u64 X2] (.int .u64 0) (.int .u64 0) (.int .i64 0) 24 26) g5))
  exact bodyPost_ret (v := .agg #[.int .u64 L, .int .u64 H, .int .i64 R]) (by simp [results, Try.results11, go_sem, r0, r1, r2]) rfl ⟨rfl, (((k5.setCell (by simp) _).setCell (by simp) _).setCell (by simp) _)⟩
end Go.Proofs.Ytdhndnehicodnaa
