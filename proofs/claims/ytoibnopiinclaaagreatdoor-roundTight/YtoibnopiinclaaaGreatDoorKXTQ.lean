import Derived.Test.YtoibnopiinclaaaGreatDoorKXTE
import Derived.Test.YtoibnopiinclaaaGreatDoorKXTJ
import Derived.Test.YtoibnopiinclaaaGreatDoorKXTK
import Derived.Test.YtoibnopiinclaaaGreatDoorKXTL
import Derived.Test.YtoibnopiinclaaaGreatDoorKXTM
set_option maxHeartbeats 2000000
set_option maxRecDepth 20000
namespace Go.Proofs.YtoibnopiinclaaaGreatDoor
open Go.RowKit
set_option linter.unusedVariables false
theorem tightXE_ (K:Nat) (hK:K = 1074) (A:Int) (B N:Nat) (hB:0 < B) (hN:N≤40000) (lo hi ne:Int) (e1:lo = hi) (e2:ne = lo) (a3:-((9218868437227405312:Nat):Int) < lo) (a4:lo < ((9218868437227405312:Nat):Int)) (a5:vZ lo * (B:Int) = A) s p l c q k d (w:World) (hq:XP 0 w s p l c q k d A (B * 2 ^ K) N):Calls Tryz.prog 12 #[.agg #[.bool s,.slice p l c,.slice q k d],.int .u64 ((pz lo:Nat):Int),.int .u64 ((pz hi:Nat):Int),.int .u64 ((pz ne:Nat):Int)] w fun e w'=>e = .returned (.bool true)∧Kp w w':=by
  replace e2:=e2.symm
  subst e2
  subst e1
  have hP:=Nat.two_pow_pos K
  have fin:∀ z:Int,-9218868437227405312 < z→z < 9218868437227405312→∀ W:World,Calls Tryz.prog 4 #[.int .u64 ((pz z:Nat):Int)] W fun e w'=>e = .returned (.bool true)∧w' = W:=fun z h1 h2 W=>by
    have g:=fin_ (decide (z < 0)) z.natAbs (by omega) W
    rw [decide_eq_true (show z.natAbs < 9218868437227405312 by omega)] at g
    exact g
  have inf:∀ z:Int,z.natAbs = 9218868437227405312→∀ W:World,Calls Tryz.prog 4 #[.int .u64 ((pz z:Nat):Int)] W fun e w'=>e = .returned (.bool false)∧w' = W:=fun z h1 W=>by
    have g:=fin_ (decide (z < 0)) z.natAbs (by omega) W
    rw [decide_eq_false (show ¬ z.natAbs < 9218868437227405312 by omega)] at g
    exact g
  have fb:∀ z:Int,-9218868437227405312 < z→z < 9218868437227405312→∀ W:World,Calls Tryz.prog 9 #[.int .u64 ((pz z:Nat):Int)] W fun e w'=>∃ s3 p3 l3 c3 q3 k3 d3,e = .returned (.agg #[.bool s3,.slice p3 l3 c3,.slice q3 k3 d3])∧XP W.heap.size w' s3 p3 l3 c3 q3 k3 d3 (vZ z) (2 ^ K) 1500∧Kp W w':=fun z h1 h2 W=>by
    refine (fromR_ (decide (z < 0)) z.natAbs (by omega) W).mono ?_
    rintro e w' ⟨s3,p3,l3,c3,q3,k3,d3,rfl,hp,g⟩
    exact ⟨s3,p3,l3,c3,q3,k3,d3,rfl,hp.xp K hK,g⟩
  have pv:=pz_val lo
  have b1:(lo.natAbs:Int) < 9218868437227405312:=by omega
  refine tightE_ (pz lo) s p l c q k d w (fun W v=>∃ s2 p2 l2 c2 q2 k2 d2,v = .agg #[.bool s2,.slice p2 l2 c2,.slice q2 k2 d2]∧XP 0 W s2 p2 l2 c2 q2 k2 d2 (vZ lo) (2 ^ K) 1500) ?_ ?_ ?_ ?_ (fin lo (by omega) (by omega)) ?_ ?_
  · rw [pv];split <;> omega
  · rw [pv];split <;> omega
  · rw [pv];split <;> omega
  · rw [pv];split <;> omega
  · intro W g
    refine (fb lo (by omega) (by omega) W).mono ?_
    rintro e w' ⟨s3,p3,l3,c3,q3,k3,d3,rfl,hp,g3⟩
    exact ⟨s3,p3,l3,c3,q3,k3,d3,rfl,⟨s3,p3,l3,c3,q3,k3,d3,rfl,hp.mono (Nat.zero_le _)⟩,g3⟩
  · rintro W s2 p2 l2 c2 q2 k2 d2 g ⟨s3,p3,l3,c3,q3,k3,d3,e3,hp⟩
    simp at e3
    obtain ⟨rfl,⟨rfl,rfl,rfl⟩,rfl,rfl,rfl⟩:=e3
    have h:=xcmp_ 0 0 (vZ lo) A (2 ^ K) (B * 2 ^ K) 1500 N (by omega) (by omega) s2 p2 l2 c2 q2 k2 d2 s p l c q k d W hp (hq.kp g)
    rw [(cmX_end (vZ lo) A B (2 ^ K) hP).1,cmX_eq _ _ a5] at h
    exact h
set_option linter.unusedVariables false
theorem tightXI_ (K:Nat) (hK:K = 1074) (A:Int) (B N:Nat) (hB:0 < B) (hN:N≤40000) (lo hi ne:Int) (a1:hi = lo + 1) (a2:-((9218868437227405312:Nat):Int)≤lo) (a3:hi≤((9218868437227405312:Nat):Int)) (a4:-((9218868437227405312:Nat):Int) < lo→vZ lo * (B:Int) < A) (a4':hi < ((9218868437227405312:Nat):Int)→A < vZ hi * (B:Int)) (a5:(2 * A < (vZ lo + vZ hi) * (B:Int)∧ne = lo)∨((vZ lo + vZ hi) * (B:Int) < 2 * A∧ne = hi)∨(2 * A = (vZ lo + vZ hi) * (B:Int)∧(ne = lo∨ne = hi)∧ne % 2 = 0)) (c1:lo = -9218868437227405312) s p l c q k d (w:World) (hq:XP 0 w s p l c q k d A (B * 2 ^ K) N):Calls Tryz.prog 12 #[.agg #[.bool s,.slice p l c,.slice q k d],.int .u64 ((pz lo:Nat):Int),.int .u64 ((pz hi:Nat):Int),.int .u64 ((pz ne:Nat):Int)] w fun e w'=>e = .returned (.bool true)∧Kp w w':=by
  have hP:=Nat.two_pow_pos K
  have fin:∀ z:Int,-9218868437227405312 < z→z < 9218868437227405312→∀ W:World,Calls Tryz.prog 4 #[.int .u64 ((pz z:Nat):Int)] W fun e w'=>e = .returned (.bool true)∧w' = W:=fun z h1 h2 W=>by
    have g:=fin_ (decide (z < 0)) z.natAbs (by omega) W
    rw [decide_eq_true (show z.natAbs < 9218868437227405312 by omega)] at g
    exact g
  have inf:∀ z:Int,z.natAbs = 9218868437227405312→∀ W:World,Calls Tryz.prog 4 #[.int .u64 ((pz z:Nat):Int)] W fun e w'=>e = .returned (.bool false)∧w' = W:=fun z h1 W=>by
    have g:=fin_ (decide (z < 0)) z.natAbs (by omega) W
    rw [decide_eq_false (show ¬ z.natAbs < 9218868437227405312 by omega)] at g
    exact g
  have fb:∀ z:Int,-9218868437227405312 < z→z < 9218868437227405312→∀ W:World,Calls Tryz.prog 9 #[.int .u64 ((pz z:Nat):Int)] W fun e w'=>∃ s3 p3 l3 c3 q3 k3 d3,e = .returned (.agg #[.bool s3,.slice p3 l3 c3,.slice q3 k3 d3])∧XP W.heap.size w' s3 p3 l3 c3 q3 k3 d3 (vZ z) (2 ^ K) 1500∧Kp W w':=fun z h1 h2 W=>by
    refine (fromR_ (decide (z < 0)) z.natAbs (by omega) W).mono ?_
    rintro e w' ⟨s3,p3,l3,c3,q3,k3,d3,rfl,hp,g⟩
    exact ⟨s3,p3,l3,c3,q3,k3,d3,rfl,hp.xp K hK,g⟩
  have pv1:=pz_val lo
  have pv2:=pz_val hi
  have glo1:pz lo≠9221120237041090561:=by rw [pv1];split <;> omega
  have glo2:pz lo≠9218868437227405312:=by rw [pv1];split <;> omega
  have glo4:pz lo≠9223372036854775808:=by rw [pv1];split <;> omega
  have ghi1:pz hi≠9221120237041090561:=by rw [pv2];split <;> omega
  have ghi2:pz hi≠18442240474082181120:=by rw [pv2];split <;> omega
  have ghi4:pz hi≠9223372036854775808:=by rw [pv2];split <;> omega
  have hne:pz lo≠pz hi:=by rw [pv1,pv2];split <;> split <;> omega
  have hst:∀ W:World,Calls Tryz.prog 32 #[.int .u64 ((pz lo:Nat):Int)] W fun e w'=>e = .returned (.int .u64 ((pz hi:Nat):Int))∧w' = W:=fun W=>by
    refine stepB_ (pz lo) (pz hi) (by rw [pv1];split <;> omega) ?_ (by rw [pv1];split <;> omega) W
    rw [pv1,pv2]
    by_cases c:lo < 0
    · rw [if_pos c]
      by_cases c1:lo = -1
      · rw [if_neg (show ¬ hi < 0 by omega),if_pos (Or.inl (by omega))];omega
      · rw [if_pos (show hi < 0 by omega),if_neg (by omega),if_pos (by omega)];omega
    · rw [if_neg c,if_neg (show ¬ hi < 0 by omega),if_neg (by omega),if_neg (by omega)];omega
  have even:∀ z:Int,-9218868437227405312≤z∧z≤9218868437227405312∧z % 2 = 0→bits BinOp.and IntKind.u64 ((pz z:Nat):Int) 1 = 0:=fun z hz=>by
    have pv:=pz_val z
    have h1:pz z < 18446744073709551616:=by rw [pv];split <;> omega
    have h2:pz z % 2 = 0:=by rw [pv];split <;> omega
    have:=u64_and_nat (pz z) 1 h1 (by omega)
    rw [Nat.and_one_is_mod,h2] at this
    exact this
  have hTT:=vV_inf K hK
  have hZ:∀ W:World,Kp w W→Calls Tryz.prog 9 #[.int .u64 18442240474082181119] W fun e w'=>∃ s2 p2 l2 c2 q2 k2 d2,e = .returned (.agg #[.bool s2,.slice p2 l2 c2,.slice q2 k2 d2])∧Kp W w':=fun W g=>by
    have h:=fromR_ true 9218868437227405311 (by decide) W
    rw [show ((Fq.wD true 9218868437227405311:Nat):Int) = 18442240474082181119 from by decide] at h
    refine h.mono ?_
    rintro e w' ⟨s3,p3,l3,c3,q3,k3,d3,rfl,-,g3⟩
    exact ⟨s3,p3,l3,c3,q3,k3,d3,rfl,g3⟩
  rw [Int.add_mul] at a5
  have vlo:vZ lo = rvI true (Fq.vV Ieee.double 9218868437227405312):=by rw [c1,vZ_neg,vZ_pos _ (by decide)];rfl
  have b2:=a4' (by omega)
  rcases a5 with ⟨a5,e9⟩ | ⟨a5,e9⟩ | ⟨a5,e9 | e9,a7⟩
  · rw [e9];exact tightIFl_ (pz lo) (pz hi) (vZ lo) (2 ^ K) 1500 (vZ hi) (2 ^ K) 1500 _ _ _ _ _ _ s p l c q k d w glo1 glo2 glo4 ghi1 ghi2 ghi4 hne hst (inf lo (by omega)) (fin hi (by omega) (by omega)) hZ (fun W g=>by rw [vlo];exact frac1_ true K hK _ hTT W) (fun W g=>fb hi (by omega) (by omega) W) (fun W s5 p5 l5 c5 q5 k5 d5 g hp=>by have h:=xcmp_ 0 0 A (vZ hi) (B * 2 ^ K) (2 ^ K) N 1500 (by omega) (by omega) s p l c q k d s5 p5 l5 c5 q5 k5 d5 W (hq.kp g) hp;rw [(cmX_end (vZ hi) A B (2 ^ K) hP).2,cmX_lt _ _ (by omega)] at h;exact h) (fun W s3 p3 l3 c3 q3 k3 d3 g hp=>(xsub_ A (vZ lo) (B * 2 ^ K) (2 ^ K) N 1500 (by omega) s p l c q k d s3 p3 l3 c3 q3 k3 d3 0 0 W (hq.kp g) hp).mono (fun e w'=>by rintro ⟨s6,p6,l6,c6,q6,k6,d6,rfl,h6,g6⟩;exact ⟨s6,p6,l6,c6,q6,k6,d6,rfl,h6.mono (Nat.zero_le _),g6⟩)) (fun W s5 p5 l5 c5 q5 k5 d5 g hp=>(xsub_ (vZ hi) A (2 ^ K) (B * 2 ^ K) 1500 N (by omega) s5 p5 l5 c5 q5 k5 d5 s p l c q k d 0 0 W hp (hq.kp g)).mono (fun e w'=>by rintro ⟨s7,p7,l7,c7,q7,k7,d7,rfl,h7,g7⟩;exact ⟨s7,p7,l7,c7,q7,k7,d7,rfl,h7.mono (Nat.zero_le _),g7⟩)) (fun W s6 p6 l6 c6 q6 k6 d6 s7 p7 l7 c7 q7 k7 d7 h6 h7=>by have h:=xcmp_ 0 0 _ _ _ _ _ _ (by omega) (by omega) s6 p6 l6 c6 q6 k6 d6 s7 p7 l7 c7 q7 k7 d7 W h6 h7;rw [cmX_mid (vZ lo) (vZ hi) A B (2 ^ K) hB hP,cmX_lt _ _ (by omega)] at h;exact h) (fun W g=>(frac1_ false K hK _ hTT W).mono (fun e w'=>by rintro ⟨s3,p3,l3,c3,q3,k3,d3,rfl,-,g3⟩;exact ⟨s3,p3,l3,c3,q3,k3,d3,rfl,g3⟩))
  · rw [e9];exact tightIFh_ (pz lo) (pz hi) (vZ lo) (2 ^ K) 1500 (vZ hi) (2 ^ K) 1500 _ _ _ _ _ _ s p l c q k d w glo1 glo2 glo4 ghi1 ghi2 ghi4 hne hst (inf lo (by omega)) (fin hi (by omega) (by omega)) hZ (fun W g=>by rw [vlo];exact frac1_ true K hK _ hTT W) (fun W g=>fb hi (by omega) (by omega) W) (fun W s5 p5 l5 c5 q5 k5 d5 g hp=>by have h:=xcmp_ 0 0 A (vZ hi) (B * 2 ^ K) (2 ^ K) N 1500 (by omega) (by omega) s p l c q k d s5 p5 l5 c5 q5 k5 d5 W (hq.kp g) hp;rw [(cmX_end (vZ hi) A B (2 ^ K) hP).2,cmX_lt _ _ (by omega)] at h;exact h) (fun W s3 p3 l3 c3 q3 k3 d3 g hp=>(xsub_ A (vZ lo) (B * 2 ^ K) (2 ^ K) N 1500 (by omega) s p l c q k d s3 p3 l3 c3 q3 k3 d3 0 0 W (hq.kp g) hp).mono (fun e w'=>by rintro ⟨s6,p6,l6,c6,q6,k6,d6,rfl,h6,g6⟩;exact ⟨s6,p6,l6,c6,q6,k6,d6,rfl,h6.mono (Nat.zero_le _),g6⟩)) (fun W s5 p5 l5 c5 q5 k5 d5 g hp=>(xsub_ (vZ hi) A (2 ^ K) (B * 2 ^ K) 1500 N (by omega) s5 p5 l5 c5 q5 k5 d5 s p l c q k d 0 0 W hp (hq.kp g)).mono (fun e w'=>by rintro ⟨s7,p7,l7,c7,q7,k7,d7,rfl,h7,g7⟩;exact ⟨s7,p7,l7,c7,q7,k7,d7,rfl,h7.mono (Nat.zero_le _),g7⟩)) (fun W s6 p6 l6 c6 q6 k6 d6 s7 p7 l7 c7 q7 k7 d7 h6 h7=>by have h:=xcmp_ 0 0 _ _ _ _ _ _ (by omega) (by omega) s6 p6 l6 c6 q6 k6 d6 s7 p7 l7 c7 q7 k7 d7 W h6 h7;rw [cmX_mid (vZ lo) (vZ hi) A B (2 ^ K) hB hP,cmX_gt _ _ (by omega)] at h;exact h) (fun W g=>(frac1_ false K hK _ hTT W).mono (fun e w'=>by rintro ⟨s3,p3,l3,c3,q3,k3,d3,rfl,-,g3⟩;exact ⟨s3,p3,l3,c3,q3,k3,d3,rfl,g3⟩))
  · rw [e9] at a7 ⊢;exact tightIFle_ (pz lo) (pz hi) (vZ lo) (2 ^ K) 1500 (vZ hi) (2 ^ K) 1500 _ _ _ _ _ _ s p l c q k d w glo1 glo2 glo4 ghi1 ghi2 ghi4 hne hst (inf lo (by omega)) (fin hi (by omega) (by omega)) hZ (fun W g=>by rw [vlo];exact frac1_ true K hK _ hTT W) (fun W g=>fb hi (by omega) (by omega) W) (fun W s5 p5 l5 c5 q5 k5 d5 g hp=>by have h:=xcmp_ 0 0 A (vZ hi) (B * 2 ^ K) (2 ^ K) N 1500 (by omega) (by omega) s p l c q k d s5 p5 l5 c5 q5 k5 d5 W (hq.kp g) hp;rw [(cmX_end (vZ hi) A B (2 ^ K) hP).2,cmX_lt _ _ (by omega)] at h;exact h) (fun W s3 p3 l3 c3 q3 k3 d3 g hp=>(xsub_ A (vZ lo) (B * 2 ^ K) (2 ^ K) N 1500 (by omega) s p l c q k d s3 p3 l3 c3 q3 k3 d3 0 0 W (hq.kp g) hp).mono (fun e w'=>by rintro ⟨s6,p6,l6,c6,q6,k6,d6,rfl,h6,g6⟩;exact ⟨s6,p6,l6,c6,q6,k6,d6,rfl,h6.mono (Nat.zero_le _),g6⟩)) (fun W s5 p5 l5 c5 q5 k5 d5 g hp=>(xsub_ (vZ hi) A (2 ^ K) (B * 2 ^ K) 1500 N (by omega) s5 p5 l5 c5 q5 k5 d5 s p l c q k d 0 0 W hp (hq.kp g)).mono (fun e w'=>by rintro ⟨s7,p7,l7,c7,q7,k7,d7,rfl,h7,g7⟩;exact ⟨s7,p7,l7,c7,q7,k7,d7,rfl,h7.mono (Nat.zero_le _),g7⟩)) (fun W s6 p6 l6 c6 q6 k6 d6 s7 p7 l7 c7 q7 k7 d7 h6 h7=>by have h:=xcmp_ 0 0 _ _ _ _ _ _ (by omega) (by omega) s6 p6 l6 c6 q6 k6 d6 s7 p7 l7 c7 q7 k7 d7 W h6 h7;rw [cmX_mid (vZ lo) (vZ hi) A B (2 ^ K) hB hP,cmX_eq _ _ (by omega)] at h;exact h) (even _ (by omega)) (fun W g=>(frac1_ false K hK _ hTT W).mono (fun e w'=>by rintro ⟨s3,p3,l3,c3,q3,k3,d3,rfl,-,g3⟩;exact ⟨s3,p3,l3,c3,q3,k3,d3,rfl,g3⟩))
  · rw [e9] at a7 ⊢;exact tightIFhe_ (pz lo) (pz hi) (vZ lo) (2 ^ K) 1500 (vZ hi) (2 ^ K) 1500 _ _ _ _ _ _ s p l c q k d w glo1 glo2 glo4 ghi1 ghi2 ghi4 hne hst (inf lo (by omega)) (fin hi (by omega) (by omega)) hZ (fun W g=>by rw [vlo];exact frac1_ true K hK _ hTT W) (fun W g=>fb hi (by omega) (by omega) W) (fun W s5 p5 l5 c5 q5 k5 d5 g hp=>by have h:=xcmp_ 0 0 A (vZ hi) (B * 2 ^ K) (2 ^ K) N 1500 (by omega) (by omega) s p l c q k d s5 p5 l5 c5 q5 k5 d5 W (hq.kp g) hp;rw [(cmX_end (vZ hi) A B (2 ^ K) hP).2,cmX_lt _ _ (by omega)] at h;exact h) (fun W s3 p3 l3 c3 q3 k3 d3 g hp=>(xsub_ A (vZ lo) (B * 2 ^ K) (2 ^ K) N 1500 (by omega) s p l c q k d s3 p3 l3 c3 q3 k3 d3 0 0 W (hq.kp g) hp).mono (fun e w'=>by rintro ⟨s6,p6,l6,c6,q6,k6,d6,rfl,h6,g6⟩;exact ⟨s6,p6,l6,c6,q6,k6,d6,rfl,h6.mono (Nat.zero_le _),g6⟩)) (fun W s5 p5 l5 c5 q5 k5 d5 g hp=>(xsub_ (vZ hi) A (2 ^ K) (B * 2 ^ K) 1500 N (by omega) s5 p5 l5 c5 q5 k5 d5 s p l c q k d 0 0 W hp (hq.kp g)).mono (fun e w'=>by rintro ⟨s7,p7,l7,c7,q7,k7,d7,rfl,h7,g7⟩;exact ⟨s7,p7,l7,c7,q7,k7,d7,rfl,h7.mono (Nat.zero_le _),g7⟩)) (fun W s6 p6 l6 c6 q6 k6 d6 s7 p7 l7 c7 q7 k7 d7 h6 h7=>by have h:=xcmp_ 0 0 _ _ _ _ _ _ (by omega) (by omega) s6 p6 l6 c6 q6 k6 d6 s7 p7 l7 c7 q7 k7 d7 W h6 h7;rw [cmX_mid (vZ lo) (vZ hi) A B (2 ^ K) hB hP,cmX_eq _ _ (by omega)] at h;exact h) (even _ (by omega)) (fun W g=>(frac1_ false K hK _ hTT W).mono (fun e w'=>by rintro ⟨s3,p3,l3,c3,q3,k3,d3,rfl,-,g3⟩;exact ⟨s3,p3,l3,c3,q3,k3,d3,rfl,g3⟩))
set_option linter.unusedVariables false
theorem tightXJ_ (K:Nat) (hK:K = 1074) (A:Int) (B N:Nat) (hB:0 < B) (hN:N≤40000) (lo hi ne:Int) (a1:hi = lo + 1) (a2:-((9218868437227405312:Nat):Int)≤lo) (a3:hi≤((9218868437227405312:Nat):Int)) (a4:-((9218868437227405312:Nat):Int) < lo→vZ lo * (B:Int) < A) (a4':hi < ((9218868437227405312:Nat):Int)→A < vZ hi * (B:Int)) (a5:(2 * A < (vZ lo + vZ hi) * (B:Int)∧ne = lo)∨((vZ lo + vZ hi) * (B:Int) < 2 * A∧ne = hi)∨(2 * A = (vZ lo + vZ hi) * (B:Int)∧(ne = lo∨ne = hi)∧ne % 2 = 0)) (c1:lo≠-9218868437227405312) (c2:hi = 9218868437227405312) s p l c q k d (w:World) (hq:XP 0 w s p l c q k d A (B * 2 ^ K) N):Calls Tryz.prog 12 #[.agg #[.bool s,.slice p l c,.slice q k d],.int .u64 ((pz lo:Nat):Int),.int .u64 ((pz hi:Nat):Int),.int .u64 ((pz ne:Nat):Int)] w fun e w'=>e = .returned (.bool true)∧Kp w w':=by
  have hP:=Nat.two_pow_pos K
  have fin:∀ z:Int,-9218868437227405312 < z→z < 9218868437227405312→∀ W:World,Calls Tryz.prog 4 #[.int .u64 ((pz z:Nat):Int)] W fun e w'=>e = .returned (.bool true)∧w' = W:=fun z h1 h2 W=>by
    have g:=fin_ (decide (z < 0)) z.natAbs (by omega) W
    rw [decide_eq_true (show z.natAbs < 9218868437227405312 by omega)] at g
    exact g
  have inf:∀ z:Int,z.natAbs = 9218868437227405312→∀ W:World,Calls Tryz.prog 4 #[.int .u64 ((pz z:Nat):Int)] W fun e w'=>e = .returned (.bool false)∧w' = W:=fun z h1 W=>by
    have g:=fin_ (decide (z < 0)) z.natAbs (by omega) W
    rw [decide_eq_false (show ¬ z.natAbs < 9218868437227405312 by omega)] at g
    exact g
  have fb:∀ z:Int,-9218868437227405312 < z→z < 9218868437227405312→∀ W:World,Calls Tryz.prog 9 #[.int .u64 ((pz z:Nat):Int)] W fun e w'=>∃ s3 p3 l3 c3 q3 k3 d3,e = .returned (.agg #[.bool s3,.slice p3 l3 c3,.slice q3 k3 d3])∧XP W.heap.size w' s3 p3 l3 c3 q3 k3 d3 (vZ z) (2 ^ K) 1500∧Kp W w':=fun z h1 h2 W=>by
    refine (fromR_ (decide (z < 0)) z.natAbs (by omega) W).mono ?_
    rintro e w' ⟨s3,p3,l3,c3,q3,k3,d3,rfl,hp,g⟩
    exact ⟨s3,p3,l3,c3,q3,k3,d3,rfl,hp.xp K hK,g⟩
  have pv1:=pz_val lo
  have pv2:=pz_val hi
  have glo1:pz lo≠9221120237041090561:=by rw [pv1];split <;> omega
  have glo2:pz lo≠9218868437227405312:=by rw [pv1];split <;> omega
  have glo4:pz lo≠9223372036854775808:=by rw [pv1];split <;> omega
  have ghi1:pz hi≠9221120237041090561:=by rw [pv2];split <;> omega
  have ghi2:pz hi≠18442240474082181120:=by rw [pv2];split <;> omega
  have ghi4:pz hi≠9223372036854775808:=by rw [pv2];split <;> omega
  have hne:pz lo≠pz hi:=by rw [pv1,pv2];split <;> split <;> omega
  have hst:∀ W:World,Calls Tryz.prog 32 #[.int .u64 ((pz lo:Nat):Int)] W fun e w'=>e = .returned (.int .u64 ((pz hi:Nat):Int))∧w' = W:=fun W=>by
    refine stepB_ (pz lo) (pz hi) (by rw [pv1];split <;> omega) ?_ (by rw [pv1];split <;> omega) W
    rw [pv1,pv2]
    by_cases c:lo < 0
    · rw [if_pos c]
      by_cases c1:lo = -1
      · rw [if_neg (show ¬ hi < 0 by omega),if_pos (Or.inl (by omega))];omega
      · rw [if_pos (show hi < 0 by omega),if_neg (by omega),if_pos (by omega)];omega
    · rw [if_neg c,if_neg (show ¬ hi < 0 by omega),if_neg (by omega),if_neg (by omega)];omega
  have even:∀ z:Int,-9218868437227405312≤z∧z≤9218868437227405312∧z % 2 = 0→bits BinOp.and IntKind.u64 ((pz z:Nat):Int) 1 = 0:=fun z hz=>by
    have pv:=pz_val z
    have h1:pz z < 18446744073709551616:=by rw [pv];split <;> omega
    have h2:pz z % 2 = 0:=by rw [pv];split <;> omega
    have:=u64_and_nat (pz z) 1 h1 (by omega)
    rw [Nat.and_one_is_mod,h2] at this
    exact this
  have hTT:=vV_inf K hK
  have hZ:∀ W:World,Kp w W→Calls Tryz.prog 9 #[.int .u64 18442240474082181119] W fun e w'=>∃ s2 p2 l2 c2 q2 k2 d2,e = .returned (.agg #[.bool s2,.slice p2 l2 c2,.slice q2 k2 d2])∧Kp W w':=fun W g=>by
    have h:=fromR_ true 9218868437227405311 (by decide) W
    rw [show ((Fq.wD true 9218868437227405311:Nat):Int) = 18442240474082181119 from by decide] at h
    refine h.mono ?_
    rintro e w' ⟨s3,p3,l3,c3,q3,k3,d3,rfl,-,g3⟩
    exact ⟨s3,p3,l3,c3,q3,k3,d3,rfl,g3⟩
  rw [Int.add_mul] at a5
  have b1:=a4 (by omega)
  have vhi:vZ hi = rvI false (Fq.vV Ieee.double 9218868437227405312):=by rw [c2,vZ_pos _ (by decide)];rfl
  rcases a5 with ⟨a5,e9⟩ | ⟨a5,e9⟩ | ⟨a5,e9 | e9,a7⟩
  · rw [e9];exact tightFIl_ (pz lo) (pz hi) (vZ lo) (2 ^ K) 1500 (vZ hi) (2 ^ K) 1500 _ _ _ _ _ _ s p l c q k d w glo1 glo2 glo4 ghi1 ghi2 ghi4 hne hst (fin lo (by omega) (by omega)) (inf hi (by omega)) hZ (fun W g=>fb lo (by omega) (by omega) W) (fun W s3 p3 l3 c3 q3 k3 d3 g hp=>by have h:=xcmp_ 0 0 (vZ lo) A (2 ^ K) (B * 2 ^ K) 1500 N (by omega) (by omega) s3 p3 l3 c3 q3 k3 d3 s p l c q k d W hp (hq.kp g);rw [(cmX_end (vZ lo) A B (2 ^ K) hP).1,cmX_lt _ _ (by omega)] at h;exact h) (fun W s3 p3 l3 c3 q3 k3 d3 g hp=>(xsub_ A (vZ lo) (B * 2 ^ K) (2 ^ K) N 1500 (by omega) s p l c q k d s3 p3 l3 c3 q3 k3 d3 0 0 W (hq.kp g) hp).mono (fun e w'=>by rintro ⟨s6,p6,l6,c6,q6,k6,d6,rfl,h6,g6⟩;exact ⟨s6,p6,l6,c6,q6,k6,d6,rfl,h6.mono (Nat.zero_le _),g6⟩)) (fun W s5 p5 l5 c5 q5 k5 d5 g hp=>(xsub_ (vZ hi) A (2 ^ K) (B * 2 ^ K) 1500 N (by omega) s5 p5 l5 c5 q5 k5 d5 s p l c q k d 0 0 W hp (hq.kp g)).mono (fun e w'=>by rintro ⟨s7,p7,l7,c7,q7,k7,d7,rfl,h7,g7⟩;exact ⟨s7,p7,l7,c7,q7,k7,d7,rfl,h7.mono (Nat.zero_le _),g7⟩)) (fun W s6 p6 l6 c6 q6 k6 d6 s7 p7 l7 c7 q7 k7 d7 h6 h7=>by have h:=xcmp_ 0 0 _ _ _ _ _ _ (by omega) (by omega) s6 p6 l6 c6 q6 k6 d6 s7 p7 l7 c7 q7 k7 d7 W h6 h7;rw [cmX_mid (vZ lo) (vZ hi) A B (2 ^ K) hB hP,cmX_lt _ _ (by omega)] at h;exact h) (fun W g=>(frac1_ false K hK _ hTT W).mono (fun e w'=>by rintro ⟨s3,p3,l3,c3,q3,k3,d3,rfl,h3,g3⟩;rw [← vhi] at h3;exact ⟨s3,p3,l3,c3,q3,k3,d3,rfl,h3.mono (Nat.zero_le _),g3⟩))
  · rw [e9];exact tightFIh_ (pz lo) (pz hi) (vZ lo) (2 ^ K) 1500 (vZ hi) (2 ^ K) 1500 _ _ _ _ _ _ s p l c q k d w glo1 glo2 glo4 ghi1 ghi2 ghi4 hne hst (fin lo (by omega) (by omega)) (inf hi (by omega)) hZ (fun W g=>fb lo (by omega) (by omega) W) (fun W s3 p3 l3 c3 q3 k3 d3 g hp=>by have h:=xcmp_ 0 0 (vZ lo) A (2 ^ K) (B * 2 ^ K) 1500 N (by omega) (by omega) s3 p3 l3 c3 q3 k3 d3 s p l c q k d W hp (hq.kp g);rw [(cmX_end (vZ lo) A B (2 ^ K) hP).1,cmX_lt _ _ (by omega)] at h;exact h) (fun W s3 p3 l3 c3 q3 k3 d3 g hp=>(xsub_ A (vZ lo) (B * 2 ^ K) (2 ^ K) N 1500 (by omega) s p l c q k d s3 p3 l3 c3 q3 k3 d3 0 0 W (hq.kp g) hp).mono (fun e w'=>by rintro ⟨s6,p6,l6,c6,q6,k6,d6,rfl,h6,g6⟩;exact ⟨s6,p6,l6,c6,q6,k6,d6,rfl,h6.mono (Nat.zero_le _),g6⟩)) (fun W s5 p5 l5 c5 q5 k5 d5 g hp=>(xsub_ (vZ hi) A (2 ^ K) (B * 2 ^ K) 1500 N (by omega) s5 p5 l5 c5 q5 k5 d5 s p l c q k d 0 0 W hp (hq.kp g)).mono (fun e w'=>by rintro ⟨s7,p7,l7,c7,q7,k7,d7,rfl,h7,g7⟩;exact ⟨s7,p7,l7,c7,q7,k7,d7,rfl,h7.mono (Nat.zero_le _),g7⟩)) (fun W s6 p6 l6 c6 q6 k6 d6 s7 p7 l7 c7 q7 k7 d7 h6 h7=>by have h:=xcmp_ 0 0 _ _ _ _ _ _ (by omega) (by omega) s6 p6 l6 c6 q6 k6 d6 s7 p7 l7 c7 q7 k7 d7 W h6 h7;rw [cmX_mid (vZ lo) (vZ hi) A B (2 ^ K) hB hP,cmX_gt _ _ (by omega)] at h;exact h) (fun W g=>(frac1_ false K hK _ hTT W).mono (fun e w'=>by rintro ⟨s3,p3,l3,c3,q3,k3,d3,rfl,h3,g3⟩;rw [← vhi] at h3;exact ⟨s3,p3,l3,c3,q3,k3,d3,rfl,h3.mono (Nat.zero_le _),g3⟩))
  · rw [e9] at a7 ⊢;exact tightFIle_ (pz lo) (pz hi) (vZ lo) (2 ^ K) 1500 (vZ hi) (2 ^ K) 1500 _ _ _ _ _ _ s p l c q k d w glo1 glo2 glo4 ghi1 ghi2 ghi4 hne hst (fin lo (by omega) (by omega)) (inf hi (by omega)) hZ (fun W g=>fb lo (by omega) (by omega) W) (fun W s3 p3 l3 c3 q3 k3 d3 g hp=>by have h:=xcmp_ 0 0 (vZ lo) A (2 ^ K) (B * 2 ^ K) 1500 N (by omega) (by omega) s3 p3 l3 c3 q3 k3 d3 s p l c q k d W hp (hq.kp g);rw [(cmX_end (vZ lo) A B (2 ^ K) hP).1,cmX_lt _ _ (by omega)] at h;exact h) (fun W s3 p3 l3 c3 q3 k3 d3 g hp=>(xsub_ A (vZ lo) (B * 2 ^ K) (2 ^ K) N 1500 (by omega) s p l c q k d s3 p3 l3 c3 q3 k3 d3 0 0 W (hq.kp g) hp).mono (fun e w'=>by rintro ⟨s6,p6,l6,c6,q6,k6,d6,rfl,h6,g6⟩;exact ⟨s6,p6,l6,c6,q6,k6,d6,rfl,h6.mono (Nat.zero_le _),g6⟩)) (fun W s5 p5 l5 c5 q5 k5 d5 g hp=>(xsub_ (vZ hi) A (2 ^ K) (B * 2 ^ K) 1500 N (by omega) s5 p5 l5 c5 q5 k5 d5 s p l c q k d 0 0 W hp (hq.kp g)).mono (fun e w'=>by rintro ⟨s7,p7,l7,c7,q7,k7,d7,rfl,h7,g7⟩;exact ⟨s7,p7,l7,c7,q7,k7,d7,rfl,h7.mono (Nat.zero_le _),g7⟩)) (fun W s6 p6 l6 c6 q6 k6 d6 s7 p7 l7 c7 q7 k7 d7 h6 h7=>by have h:=xcmp_ 0 0 _ _ _ _ _ _ (by omega) (by omega) s6 p6 l6 c6 q6 k6 d6 s7 p7 l7 c7 q7 k7 d7 W h6 h7;rw [cmX_mid (vZ lo) (vZ hi) A B (2 ^ K) hB hP,cmX_eq _ _ (by omega)] at h;exact h) (even _ (by omega)) (fun W g=>(frac1_ false K hK _ hTT W).mono (fun e w'=>by rintro ⟨s3,p3,l3,c3,q3,k3,d3,rfl,h3,g3⟩;rw [← vhi] at h3;exact ⟨s3,p3,l3,c3,q3,k3,d3,rfl,h3.mono (Nat.zero_le _),g3⟩))
  · rw [e9] at a7 ⊢;exact tightFIhe_ (pz lo) (pz hi) (vZ lo) (2 ^ K) 1500 (vZ hi) (2 ^ K) 1500 _ _ _ _ _ _ s p l c q k d w glo1 glo2 glo4 ghi1 ghi2 ghi4 hne hst (fin lo (by omega) (by omega)) (inf hi (by omega)) hZ (fun W g=>fb lo (by omega) (by omega) W) (fun W s3 p3 l3 c3 q3 k3 d3 g hp=>by have h:=xcmp_ 0 0 (vZ lo) A (2 ^ K) (B * 2 ^ K) 1500 N (by omega) (by omega) s3 p3 l3 c3 q3 k3 d3 s p l c q k d W hp (hq.kp g);rw [(cmX_end (vZ lo) A B (2 ^ K) hP).1,cmX_lt _ _ (by omega)] at h;exact h) (fun W s3 p3 l3 c3 q3 k3 d3 g hp=>(xsub_ A (vZ lo) (B * 2 ^ K) (2 ^ K) N 1500 (by omega) s p l c q k d s3 p3 l3 c3 q3 k3 d3 0 0 W (hq.kp g) hp).mono (fun e w'=>by rintro ⟨s6,p6,l6,c6,q6,k6,d6,rfl,h6,g6⟩;exact ⟨s6,p6,l6,c6,q6,k6,d6,rfl,h6.mono (Nat.zero_le _),g6⟩)) (fun W s5 p5 l5 c5 q5 k5 d5 g hp=>(xsub_ (vZ hi) A (2 ^ K) (B * 2 ^ K) 1500 N (by omega) s5 p5 l5 c5 q5 k5 d5 s p l c q k d 0 0 W hp (hq.kp g)).mono (fun e w'=>by rintro ⟨s7,p7,l7,c7,q7,k7,d7,rfl,h7,g7⟩;exact ⟨s7,p7,l7,c7,q7,k7,d7,rfl,h7.mono (Nat.zero_le _),g7⟩)) (fun W s6 p6 l6 c6 q6 k6 d6 s7 p7 l7 c7 q7 k7 d7 h6 h7=>by have h:=xcmp_ 0 0 _ _ _ _ _ _ (by omega) (by omega) s6 p6 l6 c6 q6 k6 d6 s7 p7 l7 c7 q7 k7 d7 W h6 h7;rw [cmX_mid (vZ lo) (vZ hi) A B (2 ^ K) hB hP,cmX_eq _ _ (by omega)] at h;exact h) (even _ (by omega)) (fun W g=>(frac1_ false K hK _ hTT W).mono (fun e w'=>by rintro ⟨s3,p3,l3,c3,q3,k3,d3,rfl,h3,g3⟩;rw [← vhi] at h3;exact ⟨s3,p3,l3,c3,q3,k3,d3,rfl,h3.mono (Nat.zero_le _),g3⟩))
set_option linter.unusedVariables false
theorem tightXF_ (K:Nat) (hK:K = 1074) (A:Int) (B N:Nat) (hB:0 < B) (hN:N≤40000) (lo hi ne:Int) (a1:hi = lo + 1) (a2:-((9218868437227405312:Nat):Int)≤lo) (a3:hi≤((9218868437227405312:Nat):Int)) (a4:-((9218868437227405312:Nat):Int) < lo→vZ lo * (B:Int) < A) (a4':hi < ((9218868437227405312:Nat):Int)→A < vZ hi * (B:Int)) (a5:(2 * A < (vZ lo + vZ hi) * (B:Int)∧ne = lo)∨((vZ lo + vZ hi) * (B:Int) < 2 * A∧ne = hi)∨(2 * A = (vZ lo + vZ hi) * (B:Int)∧(ne = lo∨ne = hi)∧ne % 2 = 0)) (c1:lo≠-9218868437227405312) (c2:hi≠9218868437227405312) s p l c q k d (w:World) (hq:XP 0 w s p l c q k d A (B * 2 ^ K) N):Calls Tryz.prog 12 #[.agg #[.bool s,.slice p l c,.slice q k d],.int .u64 ((pz lo:Nat):Int),.int .u64 ((pz hi:Nat):Int),.int .u64 ((pz ne:Nat):Int)] w fun e w'=>e = .returned (.bool true)∧Kp w w':=by
  have hP:=Nat.two_pow_pos K
  have fin:∀ z:Int,-9218868437227405312 < z→z < 9218868437227405312→∀ W:World,Calls Tryz.prog 4 #[.int .u64 ((pz z:Nat):Int)] W fun e w'=>e = .returned (.bool true)∧w' = W:=fun z h1 h2 W=>by
    have g:=fin_ (decide (z < 0)) z.natAbs (by omega) W
    rw [decide_eq_true (show z.natAbs < 9218868437227405312 by omega)] at g
    exact g
  have inf:∀ z:Int,z.natAbs = 9218868437227405312→∀ W:World,Calls Tryz.prog 4 #[.int .u64 ((pz z:Nat):Int)] W fun e w'=>e = .returned (.bool false)∧w' = W:=fun z h1 W=>by
    have g:=fin_ (decide (z < 0)) z.natAbs (by omega) W
    rw [decide_eq_false (show ¬ z.natAbs < 9218868437227405312 by omega)] at g
    exact g
  have fb:∀ z:Int,-9218868437227405312 < z→z < 9218868437227405312→∀ W:World,Calls Tryz.prog 9 #[.int .u64 ((pz z:Nat):Int)] W fun e w'=>∃ s3 p3 l3 c3 q3 k3 d3,e = .returned (.agg #[.bool s3,.slice p3 l3 c3,.slice q3 k3 d3])∧XP W.heap.size w' s3 p3 l3 c3 q3 k3 d3 (vZ z) (2 ^ K) 1500∧Kp W w':=fun z h1 h2 W=>by
    refine (fromR_ (decide (z < 0)) z.natAbs (by omega) W).mono ?_
    rintro e w' ⟨s3,p3,l3,c3,q3,k3,d3,rfl,hp,g⟩
    exact ⟨s3,p3,l3,c3,q3,k3,d3,rfl,hp.xp K hK,g⟩
  have pv1:=pz_val lo
  have pv2:=pz_val hi
  have glo1:pz lo≠9221120237041090561:=by rw [pv1];split <;> omega
  have glo2:pz lo≠9218868437227405312:=by rw [pv1];split <;> omega
  have glo4:pz lo≠9223372036854775808:=by rw [pv1];split <;> omega
  have ghi1:pz hi≠9221120237041090561:=by rw [pv2];split <;> omega
  have ghi2:pz hi≠18442240474082181120:=by rw [pv2];split <;> omega
  have ghi4:pz hi≠9223372036854775808:=by rw [pv2];split <;> omega
  have hne:pz lo≠pz hi:=by rw [pv1,pv2];split <;> split <;> omega
  have hst:∀ W:World,Calls Tryz.prog 32 #[.int .u64 ((pz lo:Nat):Int)] W fun e w'=>e = .returned (.int .u64 ((pz hi:Nat):Int))∧w' = W:=fun W=>by
    refine stepB_ (pz lo) (pz hi) (by rw [pv1];split <;> omega) ?_ (by rw [pv1];split <;> omega) W
    rw [pv1,pv2]
    by_cases c:lo < 0
    · rw [if_pos c]
      by_cases c1:lo = -1
      · rw [if_neg (show ¬ hi < 0 by omega),if_pos (Or.inl (by omega))];omega
      · rw [if_pos (show hi < 0 by omega),if_neg (by omega),if_pos (by omega)];omega
    · rw [if_neg c,if_neg (show ¬ hi < 0 by omega),if_neg (by omega),if_neg (by omega)];omega
  have even:∀ z:Int,-9218868437227405312≤z∧z≤9218868437227405312∧z % 2 = 0→bits BinOp.and IntKind.u64 ((pz z:Nat):Int) 1 = 0:=fun z hz=>by
    have pv:=pz_val z
    have h1:pz z < 18446744073709551616:=by rw [pv];split <;> omega
    have h2:pz z % 2 = 0:=by rw [pv];split <;> omega
    have:=u64_and_nat (pz z) 1 h1 (by omega)
    rw [Nat.and_one_is_mod,h2] at this
    exact this
  have hTT:=vV_inf K hK
  have hZ:∀ W:World,Kp w W→Calls Tryz.prog 9 #[.int .u64 18442240474082181119] W fun e w'=>∃ s2 p2 l2 c2 q2 k2 d2,e = .returned (.agg #[.bool s2,.slice p2 l2 c2,.slice q2 k2 d2])∧Kp W w':=fun W g=>by
    have h:=fromR_ true 9218868437227405311 (by decide) W
    rw [show ((Fq.wD true 9218868437227405311:Nat):Int) = 18442240474082181119 from by decide] at h
    refine h.mono ?_
    rintro e w' ⟨s3,p3,l3,c3,q3,k3,d3,rfl,-,g3⟩
    exact ⟨s3,p3,l3,c3,q3,k3,d3,rfl,g3⟩
  rw [Int.add_mul] at a5
  have b1:=a4 (by omega)
  have b2:=a4' (by omega)
  rcases a5 with ⟨a5,e9⟩ | ⟨a5,e9⟩ | ⟨a5,e9 | e9,a7⟩
  · rw [e9];exact tightFFl_ (pz lo) (pz hi) (vZ lo) (2 ^ K) 1500 (vZ hi) (2 ^ K) 1500 _ _ _ _ _ _ s p l c q k d w glo1 glo2 glo4 ghi1 ghi2 ghi4 hne hst (fin lo (by omega) (by omega)) (fin hi (by omega) (by omega)) hZ (fun W g=>fb lo (by omega) (by omega) W) (fun W s3 p3 l3 c3 q3 k3 d3 g hp=>by have h:=xcmp_ 0 0 (vZ lo) A (2 ^ K) (B * 2 ^ K) 1500 N (by omega) (by omega) s3 p3 l3 c3 q3 k3 d3 s p l c q k d W hp (hq.kp g);rw [(cmX_end (vZ lo) A B (2 ^ K) hP).1,cmX_lt _ _ (by omega)] at h;exact h) (fun W g=>fb hi (by omega) (by omega) W) (fun W s5 p5 l5 c5 q5 k5 d5 g hp=>by have h:=xcmp_ 0 0 A (vZ hi) (B * 2 ^ K) (2 ^ K) N 1500 (by omega) (by omega) s p l c q k d s5 p5 l5 c5 q5 k5 d5 W (hq.kp g) hp;rw [(cmX_end (vZ hi) A B (2 ^ K) hP).2,cmX_lt _ _ (by omega)] at h;exact h) (fun W s3 p3 l3 c3 q3 k3 d3 g hp=>(xsub_ A (vZ lo) (B * 2 ^ K) (2 ^ K) N 1500 (by omega) s p l c q k d s3 p3 l3 c3 q3 k3 d3 0 0 W (hq.kp g) hp).mono (fun e w'=>by rintro ⟨s6,p6,l6,c6,q6,k6,d6,rfl,h6,g6⟩;exact ⟨s6,p6,l6,c6,q6,k6,d6,rfl,h6.mono (Nat.zero_le _),g6⟩)) (fun W s5 p5 l5 c5 q5 k5 d5 g hp=>(xsub_ (vZ hi) A (2 ^ K) (B * 2 ^ K) 1500 N (by omega) s5 p5 l5 c5 q5 k5 d5 s p l c q k d 0 0 W hp (hq.kp g)).mono (fun e w'=>by rintro ⟨s7,p7,l7,c7,q7,k7,d7,rfl,h7,g7⟩;exact ⟨s7,p7,l7,c7,q7,k7,d7,rfl,h7.mono (Nat.zero_le _),g7⟩)) (fun W s6 p6 l6 c6 q6 k6 d6 s7 p7 l7 c7 q7 k7 d7 h6 h7=>by have h:=xcmp_ 0 0 _ _ _ _ _ _ (by omega) (by omega) s6 p6 l6 c6 q6 k6 d6 s7 p7 l7 c7 q7 k7 d7 W h6 h7;rw [cmX_mid (vZ lo) (vZ hi) A B (2 ^ K) hB hP,cmX_lt _ _ (by omega)] at h;exact h) (fun W g=>(frac1_ false K hK _ hTT W).mono (fun e w'=>by rintro ⟨s3,p3,l3,c3,q3,k3,d3,rfl,-,g3⟩;exact ⟨s3,p3,l3,c3,q3,k3,d3,rfl,g3⟩))
  · rw [e9];exact tightFFh_ (pz lo) (pz hi) (vZ lo) (2 ^ K) 1500 (vZ hi) (2 ^ K) 1500 _ _ _ _ _ _ s p l c q k d w glo1 glo2 glo4 ghi1 ghi2 ghi4 hne hst (fin lo (by omega) (by omega)) (fin hi (by omega) (by omega)) hZ (fun W g=>fb lo (by omega) (by omega) W) (fun W s3 p3 l3 c3 q3 k3 d3 g hp=>by have h:=xcmp_ 0 0 (vZ lo) A (2 ^ K) (B * 2 ^ K) 1500 N (by omega) (by omega) s3 p3 l3 c3 q3 k3 d3 s p l c q k d W hp (hq.kp g);rw [(cmX_end (vZ lo) A B (2 ^ K) hP).1,cmX_lt _ _ (by omega)] at h;exact h) (fun W g=>fb hi (by omega) (by omega) W) (fun W s5 p5 l5 c5 q5 k5 d5 g hp=>by have h:=xcmp_ 0 0 A (vZ hi) (B * 2 ^ K) (2 ^ K) N 1500 (by omega) (by omega) s p l c q k d s5 p5 l5 c5 q5 k5 d5 W (hq.kp g) hp;rw [(cmX_end (vZ hi) A B (2 ^ K) hP).2,cmX_lt _ _ (by omega)] at h;exact h) (fun W s3 p3 l3 c3 q3 k3 d3 g hp=>(xsub_ A (vZ lo) (B * 2 ^ K) (2 ^ K) N 1500 (by omega) s p l c q k d s3 p3 l3 c3 q3 k3 d3 0 0 W (hq.kp g) hp).mono (fun e w'=>by rintro ⟨s6,p6,l6,c6,q6,k6,d6,rfl,h6,g6⟩;exact ⟨s6,p6,l6,c6,q6,k6,d6,rfl,h6.mono (Nat.zero_le _),g6⟩)) (fun W s5 p5 l5 c5 q5 k5 d5 g hp=>(xsub_ (vZ hi) A (2 ^ K) (B * 2 ^ K) 1500 N (by omega) s5 p5 l5 c5 q5 k5 d5 s p l c q k d 0 0 W hp (hq.kp g)).mono (fun e w'=>by rintro ⟨s7,p7,l7,c7,q7,k7,d7,rfl,h7,g7⟩;exact ⟨s7,p7,l7,c7,q7,k7,d7,rfl,h7.mono (Nat.zero_le _),g7⟩)) (fun W s6 p6 l6 c6 q6 k6 d6 s7 p7 l7 c7 q7 k7 d7 h6 h7=>by have h:=xcmp_ 0 0 _ _ _ _ _ _ (by omega) (by omega) s6 p6 l6 c6 q6 k6 d6 s7 p7 l7 c7 q7 k7 d7 W h6 h7;rw [cmX_mid (vZ lo) (vZ hi) A B (2 ^ K) hB hP,cmX_gt _ _ (by omega)] at h;exact h) (fun W g=>(frac1_ false K hK _ hTT W).mono (fun e w'=>by rintro ⟨s3,p3,l3,c3,q3,k3,d3,rfl,-,g3⟩;exact ⟨s3,p3,l3,c3,q3,k3,d3,rfl,g3⟩))
  · rw [e9] at a7 ⊢;exact tightFFle_ (pz lo) (pz hi) (vZ lo) (2 ^ K) 1500 (vZ hi) (2 ^ K) 1500 _ _ _ _ _ _ s p l c q k d w glo1 glo2 glo4 ghi1 ghi2 ghi4 hne hst (fin lo (by omega) (by omega)) (fin hi (by omega) (by omega)) hZ (fun W g=>fb lo (by omega) (by omega) W) (fun W s3 p3 l3 c3 q3 k3 d3 g hp=>by have h:=xcmp_ 0 0 (vZ lo) A (2 ^ K) (B * 2 ^ K) 1500 N (by omega) (by omega) s3 p3 l3 c3 q3 k3 d3 s p l c q k d W hp (hq.kp g);rw [(cmX_end (vZ lo) A B (2 ^ K) hP).1,cmX_lt _ _ (by omega)] at h;exact h) (fun W g=>fb hi (by omega) (by omega) W) (fun W s5 p5 l5 c5 q5 k5 d5 g hp=>by have h:=xcmp_ 0 0 A (vZ hi) (B * 2 ^ K) (2 ^ K) N 1500 (by omega) (by omega) s p l c q k d s5 p5 l5 c5 q5 k5 d5 W (hq.kp g) hp;rw [(cmX_end (vZ hi) A B (2 ^ K) hP).2,cmX_lt _ _ (by omega)] at h;exact h) (fun W s3 p3 l3 c3 q3 k3 d3 g hp=>(xsub_ A (vZ lo) (B * 2 ^ K) (2 ^ K) N 1500 (by omega) s p l c q k d s3 p3 l3 c3 q3 k3 d3 0 0 W (hq.kp g) hp).mono (fun e w'=>by rintro ⟨s6,p6,l6,c6,q6,k6,d6,rfl,h6,g6⟩;exact ⟨s6,p6,l6,c6,q6,k6,d6,rfl,h6.mono (Nat.zero_le _),g6⟩)) (fun W s5 p5 l5 c5 q5 k5 d5 g hp=>(xsub_ (vZ hi) A (2 ^ K) (B * 2 ^ K) 1500 N (by omega) s5 p5 l5 c5 q5 k5 d5 s p l c q k d 0 0 W hp (hq.kp g)).mono (fun e w'=>by rintro ⟨s7,p7,l7,c7,q7,k7,d7,rfl,h7,g7⟩;exact ⟨s7,p7,l7,c7,q7,k7,d7,rfl,h7.mono (Nat.zero_le _),g7⟩)) (fun W s6 p6 l6 c6 q6 k6 d6 s7 p7 l7 c7 q7 k7 d7 h6 h7=>by have h:=xcmp_ 0 0 _ _ _ _ _ _ (by omega) (by omega) s6 p6 l6 c6 q6 k6 d6 s7 p7 l7 c7 q7 k7 d7 W h6 h7;rw [cmX_mid (vZ lo) (vZ hi) A B (2 ^ K) hB hP,cmX_eq _ _ (by omega)] at h;exact h) (even _ (by omega)) (fun W g=>(frac1_ false K hK _ hTT W).mono (fun e w'=>by rintro ⟨s3,p3,l3,c3,q3,k3,d3,rfl,-,g3⟩;exact ⟨s3,p3,l3,c3,q3,k3,d3,rfl,g3⟩))
  · rw [e9] at a7 ⊢;exact tightFFhe_ (pz lo) (pz hi) (vZ lo) (2 ^ K) 1500 (vZ hi) (2 ^ K) 1500 _ _ _ _ _ _ s p l c q k d w glo1 glo2 glo4 ghi1 ghi2 ghi4 hne hst (fin lo (by omega) (by omega)) (fin hi (by omega) (by omega)) hZ (fun W g=>fb lo (by omega) (by omega) W) (fun W s3 p3 l3 c3 q3 k3 d3 g hp=>by have h:=xcmp_ 0 0 (vZ lo) A (2 ^ K) (B * 2 ^ K) 1500 N (by omega) (by omega) s3 p3 l3 c3 q3 k3 d3 s p l c q k d W hp (hq.kp g);rw [(cmX_end (vZ lo) A B (2 ^ K) hP).1,cmX_lt _ _ (by omega)] at h;exact h) (fun W g=>fb hi (by omega) (by omega) W) (fun W s5 p5 l5 c5 q5 k5 d5 g hp=>by have h:=xcmp_ 0 0 A (vZ hi) (B * 2 ^ K) (2 ^ K) N 1500 (by omega) (by omega) s p l c q k d s5 p5 l5 c5 q5 k5 d5 W (hq.kp g) hp;rw [(cmX_end (vZ hi) A B (2 ^ K) hP).2,cmX_lt _ _ (by omega)] at h;exact h) (fun W s3 p3 l3 c3 q3 k3 d3 g hp=>(xsub_ A (vZ lo) (B * 2 ^ K) (2 ^ K) N 1500 (by omega) s p l c q k d s3 p3 l3 c3 q3 k3 d3 0 0 W (hq.kp g) hp).mono (fun e w'=>by rintro ⟨s6,p6,l6,c6,q6,k6,d6,rfl,h6,g6⟩;exact ⟨s6,p6,l6,c6,q6,k6,d6,rfl,h6.mono (Nat.zero_le _),g6⟩)) (fun W s5 p5 l5 c5 q5 k5 d5 g hp=>(xsub_ (vZ hi) A (2 ^ K) (B * 2 ^ K) 1500 N (by omega) s5 p5 l5 c5 q5 k5 d5 s p l c q k d 0 0 W hp (hq.kp g)).mono (fun e w'=>by rintro ⟨s7,p7,l7,c7,q7,k7,d7,rfl,h7,g7⟩;exact ⟨s7,p7,l7,c7,q7,k7,d7,rfl,h7.mono (Nat.zero_le _),g7⟩)) (fun W s6 p6 l6 c6 q6 k6 d6 s7 p7 l7 c7 q7 k7 d7 h6 h7=>by have h:=xcmp_ 0 0 _ _ _ _ _ _ (by omega) (by omega) s6 p6 l6 c6 q6 k6 d6 s7 p7 l7 c7 q7 k7 d7 W h6 h7;rw [cmX_mid (vZ lo) (vZ hi) A B (2 ^ K) hB hP,cmX_eq _ _ (by omega)] at h;exact h) (even _ (by omega)) (fun W g=>(frac1_ false K hK _ hTT W).mono (fun e w'=>by rintro ⟨s3,p3,l3,c3,q3,k3,d3,rfl,-,g3⟩;exact ⟨s3,p3,l3,c3,q3,k3,d3,rfl,g3⟩))
theorem tightX_ (K:Nat) (hK:K = 1074) (A:Int) (B N:Nat) (hB:0 < B) (hN:N≤40000) (lo hi ne:Int) (hts:TS 9218868437227405312 (Fq.vV Ieee.double) A (B:Int) lo hi ne) s p l c q k d (w:World) (hq:XP 0 w s p l c q k d A (B * 2 ^ K) N):Calls Tryz.prog 12 #[.agg #[.bool s,.slice p l c,.slice q k d],.int .u64 ((pz lo:Nat):Int),.int .u64 ((pz hi:Nat):Int),.int .u64 ((pz ne:Nat):Int)] w fun e w'=>e = .returned (.bool true)∧Kp w w':=by
  rcases hts vZ vZ_pos vZ_neg with ⟨e1,e2,a3,a4,a5⟩ | ⟨a1,a2,a3,a4,a4',a5⟩
  · exact tightXE_ K hK A B N hB hN lo hi ne e1 e2 a3 a4 a5 s p l c q k d w hq
  · by_cases c1:lo = -9218868437227405312
    · exact tightXI_ K hK A B N hB hN lo hi ne a1 a2 a3 a4 a4' a5 c1 s p l c q k d w hq
    · by_cases c2:hi = 9218868437227405312
      · exact tightXJ_ K hK A B N hB hN lo hi ne a1 a2 a3 a4 a4' a5 c1 c2 s p l c q k d w hq
      · exact tightXF_ K hK A B N hB hN lo hi ne a1 a2 a3 a4 a4' a5 c1 c2 s p l c q k d w hq
end Go.Proofs.YtoibnopiinclaaaGreatDoor
