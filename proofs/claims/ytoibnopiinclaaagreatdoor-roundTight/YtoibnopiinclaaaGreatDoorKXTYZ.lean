import Derived.Test.YtoibnopiinclaaaGreatDoorKXTE
import Derived.Test.YtoibnopiinclaaaGreatDoorKXTJ
import Derived.Test.YtoibnopiinclaaaGreatDoorKXTK
import Derived.Test.YtoibnopiinclaaaGreatDoorKXTL
import Derived.Test.YtoibnopiinclaaaGreatDoorKXTM
set_option maxHeartbeats 1000000
set_option maxRecDepth 20000
namespace Go.Proofs.YtoibnopiinclaaaGreatDoor
open Go.RowKit
set_option linter.unusedVariables false
theorem exacX0_ (K:Nat) (n0 n1 n2:Bool) (m0 m1 m2:Nat) s p l c q k d s2 p2 l2 c2 q2 k2 d2 s4 p4 l4 c4 q4 k4 d4 (w:World) (h1:XP 0 w s p l c q k d (Iv n0 m0) (2 ^ K) 1500) (h2:XP 0 w s2 p2 l2 c2 q2 k2 d2 (Iv n1 m1) (2 ^ K) 1500) (h4:XP 0 w s4 p4 l4 c4 q4 k4 d4 (Iv n2 m2) (2 ^ K) 1500):Calls Tryz.prog 13 #[.int .i64 0,.agg #[.bool s,.slice p l c,.slice q k d],.agg #[.bool s2,.slice p2 l2 c2,.slice q2 k2 d2],.agg #[.bool s4,.slice p4 l4 c4,.slice q4 k4 d4]] w fun e w'=>∃ s3 p3 l3 c3 q3 k3 d3,e = .returned (.agg #[.bool s3,.slice p3 l3 c3,.slice q3 k3 d3])∧XP 0 w' s3 p3 l3 c3 q3 k3 d3 ((Iv n0 m0 + Iv n1 m1) * ((1:Nat):Int)) (1 * 2 ^ K) 20000∧Kp w w':=by
  have hP:=Nat.two_pow_pos K
  have hc:1 * 2 ^ K≠0:=by exact Nat.mul_ne_zero (by omega) (by omega)
  have eq:(Iv n0 m0 * ((2 ^ K:Nat):Int) + Iv n1 m1 * ((2 ^ K:Nat):Int)) * ((1 * 2 ^ K:Nat):Int) = ((Iv n0 m0 + Iv n1 m1) * ((1:Nat):Int)) * ((2 ^ K * 2 ^ K:Nat):Int):=by
    rw [← Int.add_mul]
    simp only [Int.natCast_mul,Int.natCast_one,Int.mul_one,Int.one_mul]
    ac_rfl
  refine (exac0_ (fun W w' v=>∃ s3 p3 l3 c3 q3 k3 d3,v = .agg #[.bool s3,.slice p3 l3 c3,.slice q3 k3 d3]∧XP W.heap.size w' s3 p3 l3 c3 q3 k3 d3 ((Iv n0 m0 + Iv n1 m1) * ((1:Nat):Int)) (1 * 2 ^ K) 20000) s p l c q k d s2 p2 l2 c2 q2 k2 d2 s4 p4 l4 c4 q4 k4 d4 w (fun W g=>by
    refine (xadd_ (Iv n0 m0) (Iv n1 m1) (2 ^ K) (2 ^ K) 1500 1500 (by omega) s p l c q k d s2 p2 l2 c2 q2 k2 d2 0 0 W (h1.kp g) (h2.kp g)).mono ?_
    rintro e w' ⟨s3,p3,l3,c3,q3,k3,d3,rfl,hq,g2⟩
    exact ⟨s3,p3,l3,c3,q3,k3,d3,rfl,⟨s3,p3,l3,c3,q3,k3,d3,rfl,hq.as _ _ 20000 hc eq (by omega)⟩,g2⟩)).mono ?_
  rintro e w' ⟨W,wh,s3,p3,l3,c3,q3,k3,d3,rfl,⟨s6,p6,l6,c6,q6,k6,d6,e6,hq⟩,rfl,hlt,g⟩
  simp at e6
  obtain ⟨rfl,⟨rfl,rfl,rfl⟩,rfl,rfl,rfl⟩:=e6
  exact ⟨s3,p3,l3,c3,q3,k3,d3,rfl,XP.mono ((((hq).set (x:=⟨w.heap.size + 3,0,none⟩) hlt (.bool s3)).set (x:=⟨w.heap.size + 3,1,none⟩) hlt (.slice p3 l3 c3)).set (x:=⟨w.heap.size + 3,2,none⟩) hlt (.slice q3 k3 d3)) (Nat.zero_le _),(((g).setCell (by simp <;> omega) _).setCell (by simp <;> omega) _).setCell (by simp <;> omega) _⟩
set_option linter.unusedVariables false
theorem exacX1_ (K:Nat) (n0 n1 n2:Bool) (m0 m1 m2:Nat) s p l c q k d s2 p2 l2 c2 q2 k2 d2 s4 p4 l4 c4 q4 k4 d4 (w:World) (h1:XP 0 w s p l c q k d (Iv n0 m0) (2 ^ K) 1500) (h2:XP 0 w s2 p2 l2 c2 q2 k2 d2 (Iv n1 m1) (2 ^ K) 1500) (h4:XP 0 w s4 p4 l4 c4 q4 k4 d4 (Iv n2 m2) (2 ^ K) 1500):Calls Tryz.prog 13 #[.int .i64 1,.agg #[.bool s,.slice p l c,.slice q k d],.agg #[.bool s2,.slice p2 l2 c2,.slice q2 k2 d2],.agg #[.bool s4,.slice p4 l4 c4,.slice q4 k4 d4]] w fun e w'=>∃ s3 p3 l3 c3 q3 k3 d3,e = .returned (.agg #[.bool s3,.slice p3 l3 c3,.slice q3 k3 d3])∧XP 0 w' s3 p3 l3 c3 q3 k3 d3 ((Iv n0 m0 - Iv n1 m1) * ((1:Nat):Int)) (1 * 2 ^ K) 20000∧Kp w w':=by
  have hP:=Nat.two_pow_pos K
  have hc:1 * 2 ^ K≠0:=by exact Nat.mul_ne_zero (by omega) (by omega)
  have eq:(Iv n0 m0 * ((2 ^ K:Nat):Int) - Iv n1 m1 * ((2 ^ K:Nat):Int)) * ((1 * 2 ^ K:Nat):Int) = ((Iv n0 m0 - Iv n1 m1) * ((1:Nat):Int)) * ((2 ^ K * 2 ^ K:Nat):Int):=by
    rw [← Int.sub_mul]
    simp only [Int.natCast_mul,Int.natCast_one,Int.mul_one,Int.one_mul]
    ac_rfl
  refine (exac1_ (fun W w' v=>∃ s3 p3 l3 c3 q3 k3 d3,v = .agg #[.bool s3,.slice p3 l3 c3,.slice q3 k3 d3]∧XP W.heap.size w' s3 p3 l3 c3 q3 k3 d3 ((Iv n0 m0 - Iv n1 m1) * ((1:Nat):Int)) (1 * 2 ^ K) 20000) s p l c q k d s2 p2 l2 c2 q2 k2 d2 s4 p4 l4 c4 q4 k4 d4 w (fun W g=>by
    refine (xsub_ (Iv n0 m0) (Iv n1 m1) (2 ^ K) (2 ^ K) 1500 1500 (by omega) s p l c q k d s2 p2 l2 c2 q2 k2 d2 0 0 W (h1.kp g) (h2.kp g)).mono ?_
    rintro e w' ⟨s3,p3,l3,c3,q3,k3,d3,rfl,hq,g2⟩
    exact ⟨s3,p3,l3,c3,q3,k3,d3,rfl,⟨s3,p3,l3,c3,q3,k3,d3,rfl,hq.as _ _ 20000 hc eq (by omega)⟩,g2⟩)).mono ?_
  rintro e w' ⟨W,wh,s3,p3,l3,c3,q3,k3,d3,rfl,⟨s6,p6,l6,c6,q6,k6,d6,e6,hq⟩,rfl,hlt,g⟩
  simp at e6
  obtain ⟨rfl,⟨rfl,rfl,rfl⟩,rfl,rfl,rfl⟩:=e6
  exact ⟨s3,p3,l3,c3,q3,k3,d3,rfl,XP.mono ((((hq).set (x:=⟨w.heap.size + 3,0,none⟩) hlt (.bool s3)).set (x:=⟨w.heap.size + 3,1,none⟩) hlt (.slice p3 l3 c3)).set (x:=⟨w.heap.size + 3,2,none⟩) hlt (.slice q3 k3 d3)) (Nat.zero_le _),(((g).setCell (by simp <;> omega) _).setCell (by simp <;> omega) _).setCell (by simp <;> omega) _⟩
set_option linter.unusedVariables false
theorem exacX2_ (K:Nat) (n0 n1 n2:Bool) (m0 m1 m2:Nat) s p l c q k d s2 p2 l2 c2 q2 k2 d2 s4 p4 l4 c4 q4 k4 d4 (w:World) (h1:XP 0 w s p l c q k d (Iv n0 m0) (2 ^ K) 1500) (h2:XP 0 w s2 p2 l2 c2 q2 k2 d2 (Iv n1 m1) (2 ^ K) 1500) (h4:XP 0 w s4 p4 l4 c4 q4 k4 d4 (Iv n2 m2) (2 ^ K) 1500):Calls Tryz.prog 13 #[.int .i64 2,.agg #[.bool s,.slice p l c,.slice q k d],.agg #[.bool s2,.slice p2 l2 c2,.slice q2 k2 d2],.agg #[.bool s4,.slice p4 l4 c4,.slice q4 k4 d4]] w fun e w'=>∃ s3 p3 l3 c3 q3 k3 d3,e = .returned (.agg #[.bool s3,.slice p3 l3 c3,.slice q3 k3 d3])∧XP 0 w' s3 p3 l3 c3 q3 k3 d3 (Iv n0 m0 * Iv n1 m1 * ((1:Nat):Int)) (2 ^ K * 2 ^ K) 20000∧Kp w w':=by
  have hP:=Nat.two_pow_pos K
  have hc:2 ^ K * 2 ^ K≠0:=by exact Nat.mul_ne_zero (by omega) (by omega)
  have eq:(Iv n0 m0 * (Iv n1 m1)) * ((2 ^ K * 2 ^ K:Nat):Int) = (Iv n0 m0 * Iv n1 m1 * ((1:Nat):Int)) * ((2 ^ K * 2 ^ K:Nat):Int):=by
    simp only [Int.natCast_mul,Int.natCast_one,Int.mul_one]
  refine (exac2_ (fun W w' v=>∃ s3 p3 l3 c3 q3 k3 d3,v = .agg #[.bool s3,.slice p3 l3 c3,.slice q3 k3 d3]∧XP W.heap.size w' s3 p3 l3 c3 q3 k3 d3 (Iv n0 m0 * Iv n1 m1 * ((1:Nat):Int)) (2 ^ K * 2 ^ K) 20000) s p l c q k d s2 p2 l2 c2 q2 k2 d2 s4 p4 l4 c4 q4 k4 d4 w (fun W g=>by
    refine (xmul_ (Iv n0 m0) (Iv n1 m1) (2 ^ K) (2 ^ K) 1500 1500 (by omega) s p l c q k d s2 p2 l2 c2 q2 k2 d2 0 0 W (h1.kp g) (h2.kp g)).mono ?_
    rintro e w' ⟨s3,p3,l3,c3,q3,k3,d3,rfl,hq,g2⟩
    exact ⟨s3,p3,l3,c3,q3,k3,d3,rfl,⟨s3,p3,l3,c3,q3,k3,d3,rfl,hq.as _ _ 20000 hc eq (by omega)⟩,g2⟩)).mono ?_
  rintro e w' ⟨W,wh,s3,p3,l3,c3,q3,k3,d3,rfl,⟨s6,p6,l6,c6,q6,k6,d6,e6,hq⟩,rfl,hlt,g⟩
  simp at e6
  obtain ⟨rfl,⟨rfl,rfl,rfl⟩,rfl,rfl,rfl⟩:=e6
  exact ⟨s3,p3,l3,c3,q3,k3,d3,rfl,XP.mono ((((hq).set (x:=⟨w.heap.size + 3,0,none⟩) hlt (.bool s3)).set (x:=⟨w.heap.size + 3,1,none⟩) hlt (.slice p3 l3 c3)).set (x:=⟨w.heap.size + 3,2,none⟩) hlt (.slice q3 k3 d3)) (Nat.zero_le _),(((g).setCell (by simp <;> omega) _).setCell (by simp <;> omega) _).setCell (by simp <;> omega) _⟩
set_option linter.unusedVariables false
theorem exacX3_ (K:Nat) (n0 n1 n2:Bool) (m0 m1 m2:Nat) (z1:Fq.vV Ieee.double m1≠0) s p l c q k d s2 p2 l2 c2 q2 k2 d2 s4 p4 l4 c4 q4 k4 d4 (w:World) (h1:XP 0 w s p l c q k d (Iv n0 m0) (2 ^ K) 1500) (h2:XP 0 w s2 p2 l2 c2 q2 k2 d2 (Iv n1 m1) (2 ^ K) 1500) (h4:XP 0 w s4 p4 l4 c4 q4 k4 d4 (Iv n2 m2) (2 ^ K) 1500):Calls Tryz.prog 13 #[.int .i64 3,.agg #[.bool s,.slice p l c,.slice q k d],.agg #[.bool s2,.slice p2 l2 c2,.slice q2 k2 d2],.agg #[.bool s4,.slice p4 l4 c4,.slice q4 k4 d4]] w fun e w'=>∃ s3 p3 l3 c3 q3 k3 d3,e = .returned (.agg #[.bool s3,.slice p3 l3 c3,.slice q3 k3 d3])∧XP 0 w' s3 p3 l3 c3 q3 k3 d3 (Iv (n0 ^^ n1) m0 * ((2 ^ K:Nat):Int)) (Fq.vV Ieee.double m1 * 2 ^ K) 20000∧Kp w w':=by
  have hP:=Nat.two_pow_pos K
  have hc:Fq.vV Ieee.double m1 * 2 ^ K≠0:=by exact Nat.mul_ne_zero z1 (by omega)
  have eq:(rvI n1 1 * (Iv n0 m0) * ((2 ^ K:Nat):Int)) * ((Fq.vV Ieee.double m1 * 2 ^ K:Nat):Int) = (Iv (n0 ^^ n1) m0 * ((2 ^ K:Nat):Int)) * ((2 ^ K * Fq.vV Ieee.double m1:Nat):Int):=by
    have e0:Iv (n0 ^^ n1) m0 = rvI n1 1 * Iv n0 m0:=by unfold Iv rvI;cases n0 <;> cases n1 <;> simp
    rw [e0]
    simp only [Int.natCast_mul]
    ac_rfl
  refine (exac3_ (fun W w' v=>∃ s3 p3 l3 c3 q3 k3 d3,v = .agg #[.bool s3,.slice p3 l3 c3,.slice q3 k3 d3]∧XP W.heap.size w' s3 p3 l3 c3 q3 k3 d3 (Iv (n0 ^^ n1) m0 * ((2 ^ K:Nat):Int)) (Fq.vV Ieee.double m1 * 2 ^ K) 20000) s p l c q k d s2 p2 l2 c2 q2 k2 d2 s4 p4 l4 c4 q4 k4 d4 w (fun W g=>by
    refine (xquo_ (Iv n0 m0) (Fq.vV Ieee.double m1) n1 z1 (2 ^ K) (2 ^ K) 1500 1500 (by omega) s p l c q k d s2 p2 l2 c2 q2 k2 d2 0 0 W (h1.kp g) (h2.kp g)).mono ?_
    rintro e w' ⟨s3,p3,l3,c3,q3,k3,d3,rfl,hq,g2⟩
    exact ⟨s3,p3,l3,c3,q3,k3,d3,rfl,⟨s3,p3,l3,c3,q3,k3,d3,rfl,hq.as _ _ 20000 hc eq (by omega)⟩,g2⟩)).mono ?_
  rintro e w' ⟨W,wh,s3,p3,l3,c3,q3,k3,d3,rfl,⟨s6,p6,l6,c6,q6,k6,d6,e6,hq⟩,rfl,hlt,g⟩
  simp at e6
  obtain ⟨rfl,⟨rfl,rfl,rfl⟩,rfl,rfl,rfl⟩:=e6
  exact ⟨s3,p3,l3,c3,q3,k3,d3,rfl,XP.mono ((((hq).set (x:=⟨w.heap.size + 3,0,none⟩) hlt (.bool s3)).set (x:=⟨w.heap.size + 3,1,none⟩) hlt (.slice p3 l3 c3)).set (x:=⟨w.heap.size + 3,2,none⟩) hlt (.slice q3 k3 d3)) (Nat.zero_le _),(((g).setCell (by simp <;> omega) _).setCell (by simp <;> omega) _).setCell (by simp <;> omega) _⟩
set_option linter.unusedVariables false
theorem exacX4_ (K:Nat) (n0 n1 n2:Bool) (m0 m1 m2:Nat) s p l c q k d s2 p2 l2 c2 q2 k2 d2 s4 p4 l4 c4 q4 k4 d4 (w:World) (h1:XP 0 w s p l c q k d (Iv n0 m0) (2 ^ K) 1500) (h2:XP 0 w s2 p2 l2 c2 q2 k2 d2 (Iv n1 m1) (2 ^ K) 1500) (h4:XP 0 w s4 p4 l4 c4 q4 k4 d4 (Iv n2 m2) (2 ^ K) 1500):Calls Tryz.prog 13 #[.int .i64 4,.agg #[.bool s,.slice p l c,.slice q k d],.agg #[.bool s2,.slice p2 l2 c2,.slice q2 k2 d2],.agg #[.bool s4,.slice p4 l4 c4,.slice q4 k4 d4]] w fun e w'=>∃ s3 p3 l3 c3 q3 k3 d3,e = .returned (.agg #[.bool s3,.slice p3 l3 c3,.slice q3 k3 d3])∧XP 0 w' s3 p3 l3 c3 q3 k3 d3 ((Iv n0 m0 * Iv n1 m1 + Iv n2 m2 * ((2 ^ K:Nat):Int)) * ((1:Nat):Int)) (2 ^ K * 2 ^ K) 20000∧Kp w w':=by
  have hP:=Nat.two_pow_pos K
  have hc:2 ^ K * 2 ^ K≠0:=by exact Nat.mul_ne_zero (by omega) (by omega)
  have eq:(Iv n0 m0 * Iv n1 m1 * ((2 ^ K:Nat):Int) + Iv n2 m2 * ((2 ^ K * 2 ^ K:Nat):Int)) * ((2 ^ K * 2 ^ K:Nat):Int) = ((Iv n0 m0 * Iv n1 m1 + Iv n2 m2 * ((2 ^ K:Nat):Int)) * ((1:Nat):Int)) * ((2 ^ K * 2 ^ K * 2 ^ K:Nat):Int):=by
    obtain ⟨P,hPP⟩:∃ P:Int,P = ((2 ^ K:Nat):Int):=⟨_,rfl⟩
    have e0:Iv n0 m0 * Iv n1 m1 * P + Iv n2 m2 * (P * P) = (Iv n0 m0 * Iv n1 m1 + Iv n2 m2 * P) * P:=by rw [Int.add_mul];ac_rfl
    simp only [Int.natCast_mul,Int.natCast_one,Int.mul_one,← hPP]
    rw [e0]
    ac_rfl
  refine (exac4_ (fun W w' v=>∃ s3 p3 l3 c3 q3 k3 d3,v = .agg #[.bool s3,.slice p3 l3 c3,.slice q3 k3 d3]∧XP W.heap.size w' s3 p3 l3 c3 q3 k3 d3 ((Iv n0 m0 * Iv n1 m1 + Iv n2 m2 * ((2 ^ K:Nat):Int)) * ((1:Nat):Int)) (2 ^ K * 2 ^ K) 20000) s p l c q k d s2 p2 l2 c2 q2 k2 d2 s4 p4 l4 c4 q4 k4 d4 w (fun _ w' v=>∃ s5 p5 l5 c5 q5 k5 d5,v = .agg #[.bool s5,.slice p5 l5 c5,.slice q5 k5 d5]∧XP 0 w' s5 p5 l5 c5 q5 k5 d5 (Iv n0 m0 * Iv n1 m1) (2 ^ K * 2 ^ K) 6003) (fun W g=>by
    refine (xmul_ (Iv n0 m0) (Iv n1 m1) (2 ^ K) (2 ^ K) 1500 1500 (by omega) s p l c q k d s2 p2 l2 c2 q2 k2 d2 0 0 W (h1.kp g) (h2.kp g)).mono ?_
    rintro e w' ⟨s5,p5,l5,c5,q5,k5,d5,rfl,hq,g2⟩
    exact ⟨s5,p5,l5,c5,q5,k5,d5,rfl,⟨s5,p5,l5,c5,q5,k5,d5,rfl,hq.mono (Nat.zero_le _)⟩,g2⟩) (fun W s5 p5 l5 c5 q5 k5 d5 g hq=>by
    obtain ⟨s9,p9,l9,c9,q9,k9,d9,e9,hq⟩:=hq
    simp at e9
    obtain ⟨rfl,⟨rfl,rfl,rfl⟩,rfl,rfl,rfl⟩:=e9
    refine (xadd_ (Iv n0 m0 * Iv n1 m1) (Iv n2 m2) (2 ^ K * 2 ^ K) (2 ^ K) 6003 1500 (by omega) s5 p5 l5 c5 q5 k5 d5 s4 p4 l4 c4 q4 k4 d4 0 0 W hq (h4.kp g)).mono ?_
    rintro e w' ⟨s3,p3,l3,c3,q3,k3,d3,rfl,hq,g2⟩
    exact ⟨s3,p3,l3,c3,q3,k3,d3,rfl,⟨s3,p3,l3,c3,q3,k3,d3,rfl,hq.as _ _ 20000 hc eq (by omega)⟩,g2⟩)).mono ?_
  rintro e w' ⟨W,wh,s3,p3,l3,c3,q3,k3,d3,rfl,⟨s6,p6,l6,c6,q6,k6,d6,e6,hq⟩,rfl,hlt,g⟩
  simp at e6
  obtain ⟨rfl,⟨rfl,rfl,rfl⟩,rfl,rfl,rfl⟩:=e6
  exact ⟨s3,p3,l3,c3,q3,k3,d3,rfl,XP.mono ((((hq).set (x:=⟨w.heap.size + 3,0,none⟩) hlt (.bool s3)).set (x:=⟨w.heap.size + 3,1,none⟩) hlt (.slice p3 l3 c3)).set (x:=⟨w.heap.size + 3,2,none⟩) hlt (.slice q3 k3 d3)) (Nat.zero_le _),(((g).setCell (by simp <;> omega) _).setCell (by simp <;> omega) _).setCell (by simp <;> omega) _⟩
set_option linter.unusedVariables false
set_option linter.unusedSimpArgs false
theorem lawA_ (X Y Z V0 V1 V2:Int) (C:Nat) (w:World) (fi0:∀ W:World,Calls Tryz.prog 4 #[.int .u64 X] W fun e w'=>e = .returned (.bool true)∧w' = W) (fi1:∀ W:World,Calls Tryz.prog 4 #[.int .u64 Y] W fun e w'=>e = .returned (.bool true)∧w' = W) (fi2:∀ W:World,Calls Tryz.prog 4 #[.int .u64 Z] W fun e w'=>e = .returned (.bool true)∧w' = W) (fb0:∀ W:World,Kp w W→Calls Tryz.prog 9 #[.int .u64 X] W fun e w'=>∃ s3 p3 l3 c3 q3 k3 d3,e = .returned (.agg #[.bool s3,.slice p3 l3 c3,.slice q3 k3 d3])∧XP 0 w' s3 p3 l3 c3 q3 k3 d3 V0 C 1500∧Kp W w') (fb1:∀ W:World,Kp w W→Calls Tryz.prog 9 #[.int .u64 Y] W fun e w'=>∃ s3 p3 l3 c3 q3 k3 d3,e = .returned (.agg #[.bool s3,.slice p3 l3 c3,.slice q3 k3 d3])∧XP 0 w' s3 p3 l3 c3 q3 k3 d3 V1 C 1500∧Kp W w') (fb2:∀ W:World,Kp w W→Calls Tryz.prog 9 #[.int .u64 Z] W fun e w'=>∃ s3 p3 l3 c3 q3 k3 d3,e = .returned (.agg #[.bool s3,.slice p3 l3 c3,.slice q3 k3 d3])∧XP 0 w' s3 p3 l3 c3 q3 k3 d3 V2 C 1500∧Kp W w') (SG:Int) (sg9:∀ (W:World) (sb:Bool) (pb:Option Addr) (lb cb:Nat) (qb:Option Addr) (kb db:Nat),Kp w W→XP 0 W sb pb lb cb qb kb db V1 C 1500→Calls Tryz.prog 10 #[.agg #[.bool sb,.slice pb lb cb,.slice qb kb db]] W fun e w'=>e = .returned (.int .i64 SG)∧Kp W w') (li9:∀ W:World,Kp w W→Calls Tryz.prog 5 #[] W fun e w'=>e = .returned (.bool true)∧Kp W w') (f0 f1 f2:Nat) (L:Int→Int→Int) (PF:Int→Nat→Prop) (PQ:Int→World→Value→Prop) (p0:PF X f0) (p1:PF Y f1) (p2:PF Z f2) (fl9:∀ X Y,PF X Y→∀ W:World,Calls Tryz.prog 8 #[.int .u64 X] W fun e w'=>e = .returned (.float .f64 Y)∧w' = W) (as9:∀ op d:Int,0≤op∧op < 5→-1≤d→d≤1→∀ W:World,Kp w W→Calls Tryz.prog 11 #[.int .i64 op,.int .i64 d,.float .f64 f0,.float .f64 f1,.float .f64 f2] W fun e w'=>e = .returned (.int .u64 (L op d))∧Kp W w') (ex9:∀ op:Int,0≤op→op < 5→(op = 3→SG≠0)→∀ (W:World) (sa:Bool) (pa:Option Addr) (la ca:Nat) (qa:Option Addr) (ka da:Nat) (sb:Bool) (pb:Option Addr) (lb cb:Nat) (qb:Option Addr) (kb db:Nat) (sc:Bool) (pc:Option Addr) (lc cc:Nat) (qc:Option Addr) (kc dc:Nat),Kp w W→XP 0 W sa pa la ca qa ka da V0 C 1500→XP 0 W sb pb lb cb qb kb db V1 C 1500→XP 0 W sc pc lc cc qc kc dc V2 C 1500→Calls Tryz.prog 13 #[.int .i64 op,.agg #[.bool sa,.slice pa la ca,.slice qa ka da],.agg #[.bool sb,.slice pb lb cb,.slice qb kb db],.agg #[.bool sc,.slice pc lc cc,.slice qc kc dc]] W fun e w'=>∃ s3 p3 l3 c3 q3 k3 d3,e = .returned (.agg #[.bool s3,.slice p3 l3 c3,.slice q3 k3 d3])∧PQ op w' (.agg #[.bool s3,.slice p3 l3 c3,.slice q3 k3 d3])∧Kp W w') (ti9:∀ op:Int,0≤op→op < 5→(op = 3→SG≠0)→∀ (W:World) s3 p3 l3 c3 q3 k3 d3,Kp w W→PQ op W (.agg #[.bool s3,.slice p3 l3 c3,.slice q3 k3 d3])→Calls Tryz.prog 12 #[.agg #[.bool s3,.slice p3 l3 c3,.slice q3 k3 d3],.int .u64 (L op (-1)),.int .u64 (L op 1),.int .u64 (L op 0)] W fun e w'=>e = .returned (.bool true)∧Kp W w'):Calls Tryz.prog 3 #[.agg #[.int .u64 X,.int .u64 Y,.int .u64 Z]] w fun e w'=>e = .returned (.bool true)∧Kp w w':=by
  have HX:=H3c.new w (.int .u64 X) (.int .u64 Y) (.int .u64 Z) 23
  have kW:Kp w (w.alloc (.cells #[.int .u64 X,.int .u64 Y,.int .u64 Z] 23)):=(Kp.refl w).alloc _
  go_enter Tryz.func3,Tryz.ntmps3
  go_upto_region 2 with fail
  generalize w.alloc (.cells #[.int .u64 X,.int .u64 Y,.int .u64 Z] 23) = W0 at HX kW ⊢
  go_loopw [3] (fun s3 wr=>(s3 = .int .i64 0∨s3 = .int .i64 1∨s3 = .int .i64 2∨s3 = .int .i64 3)∧wr = W0) (fun s3 _=>(3 - intOf s3).toNat)
  case atStart=>exact ⟨Or.inl rfl,rfl⟩
  case round =>
    obtain ⟨hk,rfl⟩:=hrel
    rcases hk with hk | hk | hk | hk
    · subst hk
      obtain ⟨x0,x1,x2,-,-,-⟩:=id HX
      go_wp2_with (first | (go_at_call 4;refine (fi0 _).mono ?_;rintro e wn ⟨rfl,hw9⟩;obtain rfl:=hw9.symm;clear hw9))
      exact ⟨⟨Or.inr (Or.inl (by go_num)),trivial⟩,by simp [intOf]⟩
    · subst hk
      obtain ⟨x0,x1,x2,-,-,-⟩:=id HX
      go_wp2_with (first | (go_at_call 4;refine (fi1 _).mono ?_;rintro e wn ⟨rfl,hw9⟩;obtain rfl:=hw9.symm;clear hw9))
      exact ⟨⟨Or.inr (Or.inr (Or.inl (by go_num))),trivial⟩,by simp [intOf]⟩
    · subst hk
      obtain ⟨x0,x1,x2,-,-,-⟩:=id HX
      go_wp2_with (first | (go_at_call 4;refine (fi2 _).mono ?_;rintro e wn ⟨rfl,hw9⟩;obtain rfl:=hw9.symm;clear hw9))
      exact ⟨⟨Or.inr (Or.inr (Or.inr ((by go_num)))),trivial⟩,by simp [intOf]⟩
    · subst hk
      obtain ⟨x0,x1,x2,-,-,-⟩:=id HX
      go_wp2_with fail
      refine (fb0 _ kW).mono ?_;rintro e wa ⟨sa,pa,la,ca,qa,ka,da,rfl,hpa,ga⟩
      have ga':Kp wa (wa.alloc (.cells #[.bool sa,.slice pa la ca,.slice qa ka da] 32)):=(Kp.refl wa).alloc _
      have Ha:=H3c.new wa (.bool sa) (.slice pa la ca) (.slice qa ka da) 32
      replace HX:=(HX.keep ga).keep ga'
      replace kW:=(kW.trans ga).trans ga'
      replace hpa:=hpa.kp ga'
      clear x0 x1 x2
      obtain ⟨x0,x1,x2,-,-,-⟩:=id HX
      go_wp2_with fail
      clear x0 x1 x2
      generalize wa.alloc (.cells #[.bool sa,.slice pa la ca,.slice qa ka da] 32) = Wa at HX kW hpa Ha ⊢
      generalize wa.heap.size = ba at Ha ⊢
      clear ga ga'
      obtain ⟨x0,x1,x2,-,-,-⟩:=id HX
      refine (fb1 _ kW).mono ?_;rintro e wb ⟨sb,pb,lb,cb,qb,kb,db,rfl,hpb,gb⟩
      have gb':Kp wb (wb.alloc (.cells #[.bool sb,.slice pb lb cb,.slice qb kb db] 32)):=(Kp.refl wb).alloc _
      have Hb:=H3c.new wb (.bool sb) (.slice pb lb cb) (.slice qb kb db) 32
      replace HX:=(HX.keep gb).keep gb'
      replace kW:=(kW.trans gb).trans gb'
      replace hpb:=hpb.kp gb'
      replace Ha:=(Ha.keep gb).keep gb'
      replace hpa:=(hpa.kp gb).kp gb'
      clear x0 x1 x2
      obtain ⟨x0,x1,x2,-,-,-⟩:=id HX
      go_wp2_with fail
      clear x0 x1 x2
      generalize wb.alloc (.cells #[.bool sb,.slice pb lb cb,.slice qb kb db] 32) = Wb at HX kW hpb Hb Ha hpa ⊢
      generalize wb.heap.size = bb at Hb ⊢
      clear gb gb'
      obtain ⟨x0,x1,x2,-,-,-⟩:=id HX
      refine (fb2 _ kW).mono ?_;rintro e wc ⟨sc,pc,lc,cc,qc,kc,dc,rfl,hpc,gc⟩
      have gc':Kp wc (wc.alloc (.cells #[.bool sc,.slice pc lc cc,.slice qc kc dc] 32)):=(Kp.refl wc).alloc _
      have Hc:=H3c.new wc (.bool sc) (.slice pc lc cc) (.slice qc kc dc) 32
      replace HX:=(HX.keep gc).keep gc'
      replace kW:=(kW.trans gc).trans gc'
      replace hpc:=hpc.kp gc'
      replace Ha:=(Ha.keep gc).keep gc'
      replace hpa:=(hpa.kp gc).kp gc'
      replace Hb:=(Hb.keep gc).keep gc'
      replace hpb:=(hpb.kp gc).kp gc'
      clear x0 x1 x2
      obtain ⟨x0,x1,x2,-,-,-⟩:=id HX
      go_upto_region 1 with fail
      clear x0 x1 x2
      generalize wc.alloc (.cells #[.bool sc,.slice pc lc cc,.slice qc kc dc] 32) = Wc at HX kW hpc Hc Ha hpa Hb hpb ⊢
      generalize wc.heap.size = bc at Hc ⊢
      clear gc gc'
      go_loopw [7] (fun s7 wr=>(s7 = .int .i64 0∨s7 = .int .i64 1∨s7 = .int .i64 2∨s7 = .int .i64 3∨s7 = .int .i64 4∨s7 = .int .i64 5)∧Kp Wc wr) (fun s7 _=>(5 - intOf s7).toNat)
      case atStart=>exact ⟨Or.inl rfl,Kp.refl _⟩
      case round =>
        obtain ⟨hk,gR⟩:=hrel
        replace kW:=kW.trans gR
        replace HX:=HX.keep gR
        replace Ha:=Ha.keep gR
        replace Hb:=Hb.keep gR
        replace Hc:=Hc.keep gR
        replace hpa:=hpa.kp gR
        replace hpb:=hpb.kp gR
        replace hpc:=hpc.kp gR
        obtain ⟨x0,x1,x2,-,-,-⟩:=id HX
        obtain ⟨a0,a1,a2,-,-,-⟩:=id Ha
        obtain ⟨b0,b1,b2,-,-,-⟩:=id Hb
        obtain ⟨c0,c1,c2,-,-,-⟩:=id Hc
        rcases hk with hk | hk | hk | hk | hk | hk
        · subst hk
          go_wp2_with fail
          have dx0:wr.drew.cell? ⟨w.heap.size,0,none⟩ = some (.int .u64 X):=x0
          have dx1:wr.drew.cell? ⟨w.heap.size,1,none⟩ = some (.int .u64 Y):=x1
          have dx2:wr.drew.cell? ⟨w.heap.size,2,none⟩ = some (.int .u64 Z):=x2
          go_region_held3 (fun w'=>w'.cell? ⟨w.heap.size,0,none⟩ = some (.int .u64 X)∧w'.cell? ⟨w.heap.size,1,none⟩ = some (.int .u64 Y)∧w'.cell? ⟨w.heap.size,2,none⟩ = some (.int .u64 Z)) (first | (with_reducible exact ⟨x0,x1,x2⟩) | (with_reducible exact ⟨dx0,dx1,dx2⟩) | (with_reducible exact ⟨y0,y1,y2⟩)) (first | (go_at_call 8;refine (fl9 _ _ (by with_reducible first | exact p0 | exact p1 | exact p2) _).mono ?_;rintro e wn ⟨rfl,hw9⟩;obtain rfl:=hw9.symm;clear hw9) | (go_at_call 11;refine (as9 0 (-1) (by decide) (by decide) (by decide) _ ?q0).mono ?_;(case q0=>exact kW.drew);rintro e w1 ⟨rfl,gn⟩;have kn:Kp wr w1:=Kp.trans (Kp.drew (Kp.refl _)) gn;have y0:=kkeep kn x0;have y1:=kkeep kn x1;have y2:=kkeep kn x2))
          clear x0 x1 x2 a0 a1 a2 b0 b1 b2 c0 c1 c2
          clear dx0 dx1 dx2 y0 y1 y2 gn
          replace HX:=HX.keep kn
          replace Ha:=Ha.keep kn
          replace Hb:=Hb.keep kn
          replace Hc:=Hc.keep kn
          replace hpa:=hpa.kp kn
          replace hpb:=hpb.kp kn
          replace hpc:=hpc.kp kn
          replace kW:=kW.trans kn
          replace gR:=gR.trans kn
          clear kn
          obtain ⟨x0,x1,x2,-,-,-⟩:=id HX
          obtain ⟨a0,a1,a2,-,-,-⟩:=id Ha
          obtain ⟨b0,b1,b2,-,-,-⟩:=id Hb
          obtain ⟨c0,c1,c2,-,-,-⟩:=id Hc
          go_wp2_with fail
          have dx0:w1.drew.cell? ⟨w.heap.size,0,none⟩ = some (.int .u64 X):=x0
          have dx1:w1.drew.cell? ⟨w.heap.size,1,none⟩ = some (.int .u64 Y):=x1
          have dx2:w1.drew.cell? ⟨w.heap.size,2,none⟩ = some (.int .u64 Z):=x2
          go_region_held3 (fun w'=>w'.cell? ⟨w.heap.size,0,none⟩ = some (.int .u64 X)∧w'.cell? ⟨w.heap.size,1,none⟩ = some (.int .u64 Y)∧w'.cell? ⟨w.heap.size,2,none⟩ = some (.int .u64 Z)) (first | (with_reducible exact ⟨x0,x1,x2⟩) | (with_reducible exact ⟨dx0,dx1,dx2⟩) | (with_reducible exact ⟨y0,y1,y2⟩)) (first | (go_at_call 8;refine (fl9 _ _ (by with_reducible first | exact p0 | exact p1 | exact p2) _).mono ?_;rintro e wn ⟨rfl,hw9⟩;obtain rfl:=hw9.symm;clear hw9) | (go_at_call 11;refine (as9 0 1 (by decide) (by decide) (by decide) _ ?q0).mono ?_;(case q0=>exact kW.drew);rintro e w2 ⟨rfl,gn⟩;have kn:Kp w1 w2:=Kp.trans (Kp.drew (Kp.refl _)) gn;have y0:=kkeep kn x0;have y1:=kkeep kn x1;have y2:=kkeep kn x2))
          clear x0 x1 x2 a0 a1 a2 b0 b1 b2 c0 c1 c2
          clear dx0 dx1 dx2 y0 y1 y2 gn
          replace HX:=HX.keep kn
          replace Ha:=Ha.keep kn
          replace Hb:=Hb.keep kn
          replace Hc:=Hc.keep kn
          replace hpa:=hpa.kp kn
          replace hpb:=hpb.kp kn
          replace hpc:=hpc.kp kn
          replace kW:=kW.trans kn
          replace gR:=gR.trans kn
          clear kn
          obtain ⟨x0,x1,x2,-,-,-⟩:=id HX
          obtain ⟨a0,a1,a2,-,-,-⟩:=id Ha
          obtain ⟨b0,b1,b2,-,-,-⟩:=id Hb
          obtain ⟨c0,c1,c2,-,-,-⟩:=id Hc
          go_wp2_with fail
          have dx0:w2.drew.cell? ⟨w.heap.size,0,none⟩ = some (.int .u64 X):=x0
          have dx1:w2.drew.cell? ⟨w.heap.size,1,none⟩ = some (.int .u64 Y):=x1
          have dx2:w2.drew.cell? ⟨w.heap.size,2,none⟩ = some (.int .u64 Z):=x2
          go_region_held3 (fun w'=>w'.cell? ⟨w.heap.size,0,none⟩ = some (.int .u64 X)∧w'.cell? ⟨w.heap.size,1,none⟩ = some (.int .u64 Y)∧w'.cell? ⟨w.heap.size,2,none⟩ = some (.int .u64 Z)) (first | (with_reducible exact ⟨x0,x1,x2⟩) | (with_reducible exact ⟨dx0,dx1,dx2⟩) | (with_reducible exact ⟨y0,y1,y2⟩)) (first | (go_at_call 8;refine (fl9 _ _ (by with_reducible first | exact p0 | exact p1 | exact p2) _).mono ?_;rintro e wn ⟨rfl,hw9⟩;obtain rfl:=hw9.symm;clear hw9) | (go_at_call 11;refine (as9 0 0 (by decide) (by decide) (by decide) _ ?q0).mono ?_;(case q0=>exact kW.drew);rintro e w3 ⟨rfl,gn⟩;have kn:Kp w2 w3:=Kp.trans (Kp.drew (Kp.refl _)) gn;have y0:=kkeep kn x0;have y1:=kkeep kn x1;have y2:=kkeep kn x2))
          clear x0 x1 x2 a0 a1 a2 b0 b1 b2 c0 c1 c2
          clear dx0 dx1 dx2 y0 y1 y2 gn
          replace HX:=HX.keep kn
          replace Ha:=Ha.keep kn
          replace Hb:=Hb.keep kn
          replace Hc:=Hc.keep kn
          replace hpa:=hpa.kp kn
          replace hpb:=hpb.kp kn
          replace hpc:=hpc.kp kn
          replace kW:=kW.trans kn
          replace gR:=gR.trans kn
          clear kn
          obtain ⟨x0,x1,x2,-,-,-⟩:=id HX
          obtain ⟨a0,a1,a2,-,-,-⟩:=id Ha
          obtain ⟨b0,b1,b2,-,-,-⟩:=id Hb
          obtain ⟨c0,c1,c2,-,-,-⟩:=id Hc
          go_wp2_with fail
          refine (ex9 0 (by decide) (by decide) (fun h=>absurd h (by decide)) _ sa pa la ca qa ka da sb pb lb cb qb kb db sc pc lc cc qc kc dc kW hpa hpb hpc).mono ?_;rintro e wl ⟨s9,p9,l9,c9,q9,k9,d9,rfl,hq9,gl⟩
          replace kW:=kW.trans gl
          replace gR:=gR.trans gl
          go_wp2_with fail
          refine (ti9 0 (by decide) (by decide) (fun h=>absurd h (by decide)) _ s9 p9 l9 c9 q9 k9 d9 kW hq9).mono ?_;rintro e wh ⟨rfl,gh⟩
          replace gR:=gR.trans gh
          clear x0 x1 x2 a0 a1 a2 b0 b1 b2 c0 c1 c2
          go_wp2_with fail
          exact ⟨⟨Or.inr (Or.inl (by go_num)),gR⟩,by simp [intOf]⟩
        · subst hk
          go_wp2_with fail
          have dx0:wr.drew.cell? ⟨w.heap.size,0,none⟩ = some (.int .u64 X):=x0
          have dx1:wr.drew.cell? ⟨w.heap.size,1,none⟩ = some (.int .u64 Y):=x1
          have dx2:wr.drew.cell? ⟨w.heap.size,2,none⟩ = some (.int .u64 Z):=x2
          go_region_held3 (fun w'=>w'.cell? ⟨w.heap.size,0,none⟩ = some (.int .u64 X)∧w'.cell? ⟨w.heap.size,1,none⟩ = some (.int .u64 Y)∧w'.cell? ⟨w.heap.size,2,none⟩ = some (.int .u64 Z)) (first | (with_reducible exact ⟨x0,x1,x2⟩) | (with_reducible exact ⟨dx0,dx1,dx2⟩) | (with_reducible exact ⟨y0,y1,y2⟩)) (first | (go_at_call 8;refine (fl9 _ _ (by with_reducible first | exact p0 | exact p1 | exact p2) _).mono ?_;rintro e wn ⟨rfl,hw9⟩;obtain rfl:=hw9.symm;clear hw9) | (go_at_call 11;refine (as9 1 (-1) (by decide) (by decide) (by decide) _ ?q0).mono ?_;(case q0=>exact kW.drew);rintro e w1 ⟨rfl,gn⟩;have kn:Kp wr w1:=Kp.trans (Kp.drew (Kp.refl _)) gn;have y0:=kkeep kn x0;have y1:=kkeep kn x1;have y2:=kkeep kn x2))
          clear x0 x1 x2 a0 a1 a2 b0 b1 b2 c0 c1 c2
          clear dx0 dx1 dx2 y0 y1 y2 gn
          replace HX:=HX.keep kn
          replace Ha:=Ha.keep kn
          replace Hb:=Hb.keep kn
          replace Hc:=Hc.keep kn
          replace hpa:=hpa.kp kn
          replace hpb:=hpb.kp kn
          replace hpc:=hpc.kp kn
          replace kW:=kW.trans kn
          replace gR:=gR.trans kn
          clear kn
          obtain ⟨x0,x1,x2,-,-,-⟩:=id HX
          obtain ⟨a0,a1,a2,-,-,-⟩:=id Ha
          obtain ⟨b0,b1,b2,-,-,-⟩:=id Hb
          obtain ⟨c0,c1,c2,-,-,-⟩:=id Hc
          go_wp2_with fail
          have dx0:w1.drew.cell? ⟨w.heap.size,0,none⟩ = some (.int .u64 X):=x0
          have dx1:w1.drew.cell? ⟨w.heap.size,1,none⟩ = some (.int .u64 Y):=x1
          have dx2:w1.drew.cell? ⟨w.heap.size,2,none⟩ = some (.int .u64 Z):=x2
          go_region_held3 (fun w'=>w'.cell? ⟨w.heap.size,0,none⟩ = some (.int .u64 X)∧w'.cell? ⟨w.heap.size,1,none⟩ = some (.int .u64 Y)∧w'.cell? ⟨w.heap.size,2,none⟩ = some (.int .u64 Z)) (first | (with_reducible exact ⟨x0,x1,x2⟩) | (with_reducible exact ⟨dx0,dx1,dx2⟩) | (with_reducible exact ⟨y0,y1,y2⟩)) (first | (go_at_call 8;refine (fl9 _ _ (by with_reducible first | exact p0 | exact p1 | exact p2) _).mono ?_;rintro e wn ⟨rfl,hw9⟩;obtain rfl:=hw9.symm;clear hw9) | (go_at_call 11;refine (as9 1 1 (by decide) (by decide) (by decide) _ ?q0).mono ?_;(case q0=>exact kW.drew);rintro e w2 ⟨rfl,gn⟩;have kn:Kp w1 w2:=Kp.trans (Kp.drew (Kp.refl _)) gn;have y0:=kkeep kn x0;have y1:=kkeep kn x1;have y2:=kkeep kn x2))
          clear x0 x1 x2 a0 a1 a2 b0 b1 b2 c0 c1 c2
          clear dx0 dx1 dx2 y0 y1 y2 gn
          replace HX:=HX.keep kn
          replace Ha:=Ha.keep kn
          replace Hb:=Hb.keep kn
          replace Hc:=Hc.keep kn
          replace hpa:=hpa.kp kn
          replace hpb:=hpb.kp kn
          replace hpc:=hpc.kp kn
          replace kW:=kW.trans kn
          replace gR:=gR.trans kn
          clear kn
          obtain ⟨x0,x1,x2,-,-,-⟩:=id HX
          obtain ⟨a0,a1,a2,-,-,-⟩:=id Ha
          obtain ⟨b0,b1,b2,-,-,-⟩:=id Hb
          obtain ⟨c0,c1,c2,-,-,-⟩:=id Hc
          go_wp2_with fail
          have dx0:w2.drew.cell? ⟨w.heap.size,0,none⟩ = some (.int .u64 X):=x0
          have dx1:w2.drew.cell? ⟨w.heap.size,1,none⟩ = some (.int .u64 Y):=x1
          have dx2:w2.drew.cell? ⟨w.heap.size,2,none⟩ = some (.int .u64 Z):=x2
          go_region_held3 (fun w'=>w'.cell? ⟨w.heap.size,0,none⟩ = some (.int .u64 X)∧w'.cell? ⟨w.heap.size,1,none⟩ = some (.int .u64 Y)∧w'.cell? ⟨w.heap.size,2,none⟩ = some (.int .u64 Z)) (first | (with_reducible exact ⟨x0,x1,x2⟩) | (with_reducible exact ⟨dx0,dx1,dx2⟩) | (with_reducible exact ⟨y0,y1,y2⟩)) (first | (go_at_call 8;refine (fl9 _ _ (by with_reducible first | exact p0 | exact p1 | exact p2) _).mono ?_;rintro e wn ⟨rfl,hw9⟩;obtain rfl:=hw9.symm;clear hw9) | (go_at_call 11;refine (as9 1 0 (by decide) (by decide) (by decide) _ ?q0).mono ?_;(case q0=>exact kW.drew);rintro e w3 ⟨rfl,gn⟩;have kn:Kp w2 w3:=Kp.trans (Kp.drew (Kp.refl _)) gn;have y0:=kkeep kn x0;have y1:=kkeep kn x1;have y2:=kkeep kn x2))
          clear x0 x1 x2 a0 a1 a2 b0 b1 b2 c0 c1 c2
          clear dx0 dx1 dx2 y0 y1 y2 gn
          replace HX:=HX.keep kn
          replace Ha:=Ha.keep kn
          replace Hb:=Hb.keep kn
          replace Hc:=Hc.keep kn
          replace hpa:=hpa.kp kn
          replace hpb:=hpb.kp kn
          replace hpc:=hpc.kp kn
          replace kW:=kW.trans kn
          replace gR:=gR.trans kn
          clear kn
          obtain ⟨x0,x1,x2,-,-,-⟩:=id HX
          obtain ⟨a0,a1,a2,-,-,-⟩:=id Ha
          obtain ⟨b0,b1,b2,-,-,-⟩:=id Hb
          obtain ⟨c0,c1,c2,-,-,-⟩:=id Hc
          go_wp2_with fail
          refine (ex9 1 (by decide) (by decide) (fun h=>absurd h (by decide)) _ sa pa la ca qa ka da sb pb lb cb qb kb db sc pc lc cc qc kc dc kW hpa hpb hpc).mono ?_;rintro e wl ⟨s9,p9,l9,c9,q9,k9,d9,rfl,hq9,gl⟩
          replace kW:=kW.trans gl
          replace gR:=gR.trans gl
          go_wp2_with fail
          refine (ti9 1 (by decide) (by decide) (fun h=>absurd h (by decide)) _ s9 p9 l9 c9 q9 k9 d9 kW hq9).mono ?_;rintro e wh ⟨rfl,gh⟩
          replace gR:=gR.trans gh
          clear x0 x1 x2 a0 a1 a2 b0 b1 b2 c0 c1 c2
          go_wp2_with fail
          exact ⟨⟨Or.inr (Or.inr (Or.inl (by go_num))),gR⟩,by simp [intOf]⟩
        · subst hk
          go_wp2_with fail
          have dx0:wr.drew.cell? ⟨w.heap.size,0,none⟩ = some (.int .u64 X):=x0
          have dx1:wr.drew.cell? ⟨w.heap.size,1,none⟩ = some (.int .u64 Y):=x1
          have dx2:wr.drew.cell? ⟨w.heap.size,2,none⟩ = some (.int .u64 Z):=x2
          go_region_held3 (fun w'=>w'.cell? ⟨w.heap.size,0,none⟩ = some (.int .u64 X)∧w'.cell? ⟨w.heap.size,1,none⟩ = some (.int .u64 Y)∧w'.cell? ⟨w.heap.size,2,none⟩ = some (.int .u64 Z)) (first | (with_reducible exact ⟨x0,x1,x2⟩) | (with_reducible exact ⟨dx0,dx1,dx2⟩) | (with_reducible exact ⟨y0,y1,y2⟩)) (first | (go_at_call 8;refine (fl9 _ _ (by with_reducible first | exact p0 | exact p1 | exact p2) _).mono ?_;rintro e wn ⟨rfl,hw9⟩;obtain rfl:=hw9.symm;clear hw9) | (go_at_call 11;refine (as9 2 (-1) (by decide) (by decide) (by decide) _ ?q0).mono ?_;(case q0=>exact kW.drew);rintro e w1 ⟨rfl,gn⟩;have kn:Kp wr w1:=Kp.trans (Kp.drew (Kp.refl _)) gn;have y0:=kkeep kn x0;have y1:=kkeep kn x1;have y2:=kkeep kn x2))
          clear x0 x1 x2 a0 a1 a2 b0 b1 b2 c0 c1 c2
          clear dx0 dx1 dx2 y0 y1 y2 gn
          replace HX:=HX.keep kn
          replace Ha:=Ha.keep kn
          replace Hb:=Hb.keep kn
          replace Hc:=Hc.keep kn
          replace hpa:=hpa.kp kn
          replace hpb:=hpb.kp kn
          replace hpc:=hpc.kp kn
          replace kW:=kW.trans kn
          replace gR:=gR.trans kn
          clear kn
          obtain ⟨x0,x1,x2,-,-,-⟩:=id HX
          obtain ⟨a0,a1,a2,-,-,-⟩:=id Ha
          obtain ⟨b0,b1,b2,-,-,-⟩:=id Hb
          obtain ⟨c0,c1,c2,-,-,-⟩:=id Hc
          go_wp2_with fail
          have dx0:w1.drew.cell? ⟨w.heap.size,0,none⟩ = some (.int .u64 X):=x0
          have dx1:w1.drew.cell? ⟨w.heap.size,1,none⟩ = some (.int .u64 Y):=x1
          have dx2:w1.drew.cell? ⟨w.heap.size,2,none⟩ = some (.int .u64 Z):=x2
          go_region_held3 (fun w'=>w'.cell? ⟨w.heap.size,0,none⟩ = some (.int .u64 X)∧w'.cell? ⟨w.heap.size,1,none⟩ = some (.int .u64 Y)∧w'.cell? ⟨w.heap.size,2,none⟩ = some (.int .u64 Z)) (first | (with_reducible exact ⟨x0,x1,x2⟩) | (with_reducible exact ⟨dx0,dx1,dx2⟩) | (with_reducible exact ⟨y0,y1,y2⟩)) (first | (go_at_call 8;refine (fl9 _ _ (by with_reducible first | exact p0 | exact p1 | exact p2) _).mono ?_;rintro e wn ⟨rfl,hw9⟩;obtain rfl:=hw9.symm;clear hw9) | (go_at_call 11;refine (as9 2 1 (by decide) (by decide) (by decide) _ ?q0).mono ?_;(case q0=>exact kW.drew);rintro e w2 ⟨rfl,gn⟩;have kn:Kp w1 w2:=Kp.trans (Kp.drew (Kp.refl _)) gn;have y0:=kkeep kn x0;have y1:=kkeep kn x1;have y2:=kkeep kn x2))
          clear x0 x1 x2 a0 a1 a2 b0 b1 b2 c0 c1 c2
          clear dx0 dx1 dx2 y0 y1 y2 gn
          replace HX:=HX.keep kn
          replace Ha:=Ha.keep kn
          replace Hb:=Hb.keep kn
          replace Hc:=Hc.keep kn
          replace hpa:=hpa.kp kn
          replace hpb:=hpb.kp kn
          replace hpc:=hpc.kp kn
          replace kW:=kW.trans kn
          replace gR:=gR.trans kn
          clear kn
          obtain ⟨x0,x1,x2,-,-,-⟩:=id HX
          obtain ⟨a0,a1,a2,-,-,-⟩:=id Ha
          obtain ⟨b0,b1,b2,-,-,-⟩:=id Hb
          obtain ⟨c0,c1,c2,-,-,-⟩:=id Hc
          go_wp2_with fail
          have dx0:w2.drew.cell? ⟨w.heap.size,0,none⟩ = some (.int .u64 X):=x0
          have dx1:w2.drew.cell? ⟨w.heap.size,1,none⟩ = some (.int .u64 Y):=x1
          have dx2:w2.drew.cell? ⟨w.heap.size,2,none⟩ = some (.int .u64 Z):=x2
          go_region_held3 (fun w'=>w'.cell? ⟨w.heap.size,0,none⟩ = some (.int .u64 X)∧w'.cell? ⟨w.heap.size,1,none⟩ = some (.int .u64 Y)∧w'.cell? ⟨w.heap.size,2,none⟩ = some (.int .u64 Z)) (first | (with_reducible exact ⟨x0,x1,x2⟩) | (with_reducible exact ⟨dx0,dx1,dx2⟩) | (with_reducible exact ⟨y0,y1,y2⟩)) (first | (go_at_call 8;refine (fl9 _ _ (by with_reducible first | exact p0 | exact p1 | exact p2) _).mono ?_;rintro e wn ⟨rfl,hw9⟩;obtain rfl:=hw9.symm;clear hw9) | (go_at_call 11;refine (as9 2 0 (by decide) (by decide) (by decide) _ ?q0).mono ?_;(case q0=>exact kW.drew);rintro e w3 ⟨rfl,gn⟩;have kn:Kp w2 w3:=Kp.trans (Kp.drew (Kp.refl _)) gn;have y0:=kkeep kn x0;have y1:=kkeep kn x1;have y2:=kkeep kn x2))
          clear x0 x1 x2 a0 a1 a2 b0 b1 b2 c0 c1 c2
          clear dx0 dx1 dx2 y0 y1 y2 gn
          replace HX:=HX.keep kn
          replace Ha:=Ha.keep kn
          replace Hb:=Hb.keep kn
          replace Hc:=Hc.keep kn
          replace hpa:=hpa.kp kn
          replace hpb:=hpb.kp kn
          replace hpc:=hpc.kp kn
          replace kW:=kW.trans kn
          replace gR:=gR.trans kn
          clear kn
          obtain ⟨x0,x1,x2,-,-,-⟩:=id HX
          obtain ⟨a0,a1,a2,-,-,-⟩:=id Ha
          obtain ⟨b0,b1,b2,-,-,-⟩:=id Hb
          obtain ⟨c0,c1,c2,-,-,-⟩:=id Hc
          go_wp2_with fail
          refine (ex9 2 (by decide) (by decide) (fun h=>absurd h (by decide)) _ sa pa la ca qa ka da sb pb lb cb qb kb db sc pc lc cc qc kc dc kW hpa hpb hpc).mono ?_;rintro e wl ⟨s9,p9,l9,c9,q9,k9,d9,rfl,hq9,gl⟩
          replace kW:=kW.trans gl
          replace gR:=gR.trans gl
          go_wp2_with fail
          refine (ti9 2 (by decide) (by decide) (fun h=>absurd h (by decide)) _ s9 p9 l9 c9 q9 k9 d9 kW hq9).mono ?_;rintro e wh ⟨rfl,gh⟩
          replace gR:=gR.trans gh
          clear x0 x1 x2 a0 a1 a2 b0 b1 b2 c0 c1 c2
          go_wp2_with fail
          exact ⟨⟨Or.inr (Or.inr (Or.inr (Or.inl (by go_num)))),gR⟩,by simp [intOf]⟩
        · subst hk
          go_wp2_with fail
          refine (sg9 _ sb pb lb cb qb kb db kW hpb).mono ?_;rintro e w0 ⟨rfl,kn⟩
          clear x0 x1 x2 a0 a1 a2 b0 b1 b2 c0 c1 c2
          replace HX:=HX.keep kn
          replace Ha:=Ha.keep kn
          replace Hb:=Hb.keep kn
          replace Hc:=Hc.keep kn
          replace hpa:=hpa.kp kn
          replace hpb:=hpb.kp kn
          replace hpc:=hpc.kp kn
          replace kW:=kW.trans kn
          replace gR:=gR.trans kn
          clear kn
          obtain ⟨x0,x1,x2,-,-,-⟩:=id HX
          obtain ⟨a0,a1,a2,-,-,-⟩:=id Ha
          obtain ⟨b0,b1,b2,-,-,-⟩:=id Hb
          obtain ⟨c0,c1,c2,-,-,-⟩:=id Hc
          by_cases hs:SG = 0
          · go_wp2_with fail
            exact ⟨⟨Or.inr (Or.inr (Or.inr (Or.inr (Or.inl (by go_num))))),gR⟩,by simp [intOf]⟩
          have hs':(SG == 0) = false:=beq_eq_false_iff_ne.2 hs
          go_wp2_with fail
          have dx0:w0.drew.cell? ⟨w.heap.size,0,none⟩ = some (.int .u64 X):=x0
          have dx1:w0.drew.cell? ⟨w.heap.size,1,none⟩ = some (.int .u64 Y):=x1
          have dx2:w0.drew.cell? ⟨w.heap.size,2,none⟩ = some (.int .u64 Z):=x2
          go_region_held3 (fun w'=>w'.cell? ⟨w.heap.size,0,none⟩ = some (.int .u64 X)∧w'.cell? ⟨w.heap.size,1,none⟩ = some (.int .u64 Y)∧w'.cell? ⟨w.heap.size,2,none⟩ = some (.int .u64 Z)) (first | (with_reducible exact ⟨x0,x1,x2⟩) | (with_reducible exact ⟨dx0,dx1,dx2⟩) | (with_reducible exact ⟨y0,y1,y2⟩)) (first | (go_at_call 8;refine (fl9 _ _ (by with_reducible first | exact p0 | exact p1 | exact p2) _).mono ?_;rintro e wn ⟨rfl,hw9⟩;obtain rfl:=hw9.symm;clear hw9) | (go_at_call 11;refine (as9 3 (-1) (by decide) (by decide) (by decide) _ ?q0).mono ?_;(case q0=>exact kW.drew);rintro e w1 ⟨rfl,gn⟩;have kn:Kp w0 w1:=Kp.trans (Kp.drew (Kp.refl _)) gn;have y0:=kkeep kn x0;have y1:=kkeep kn x1;have y2:=kkeep kn x2))
          clear x0 x1 x2 a0 a1 a2 b0 b1 b2 c0 c1 c2
          clear dx0 dx1 dx2 y0 y1 y2 gn
          replace HX:=HX.keep kn
          replace Ha:=Ha.keep kn
          replace Hb:=Hb.keep kn
          replace Hc:=Hc.keep kn
          replace hpa:=hpa.kp kn
          replace hpb:=hpb.kp kn
          replace hpc:=hpc.kp kn
          replace kW:=kW.trans kn
          replace gR:=gR.trans kn
          clear kn
          obtain ⟨x0,x1,x2,-,-,-⟩:=id HX
          obtain ⟨a0,a1,a2,-,-,-⟩:=id Ha
          obtain ⟨b0,b1,b2,-,-,-⟩:=id Hb
          obtain ⟨c0,c1,c2,-,-,-⟩:=id Hc
          go_wp2_with fail
          have dx0:w1.drew.cell? ⟨w.heap.size,0,none⟩ = some (.int .u64 X):=x0
          have dx1:w1.drew.cell? ⟨w.heap.size,1,none⟩ = some (.int .u64 Y):=x1
          have dx2:w1.drew.cell? ⟨w.heap.size,2,none⟩ = some (.int .u64 Z):=x2
          go_region_held3 (fun w'=>w'.cell? ⟨w.heap.size,0,none⟩ = some (.int .u64 X)∧w'.cell? ⟨w.heap.size,1,none⟩ = some (.int .u64 Y)∧w'.cell? ⟨w.heap.size,2,none⟩ = some (.int .u64 Z)) (first | (with_reducible exact ⟨x0,x1,x2⟩) | (with_reducible exact ⟨dx0,dx1,dx2⟩) | (with_reducible exact ⟨y0,y1,y2⟩)) (first | (go_at_call 8;refine (fl9 _ _ (by with_reducible first | exact p0 | exact p1 | exact p2) _).mono ?_;rintro e wn ⟨rfl,hw9⟩;obtain rfl:=hw9.symm;clear hw9) | (go_at_call 11;refine (as9 3 1 (by decide) (by decide) (by decide) _ ?q0).mono ?_;(case q0=>exact kW.drew);rintro e w2 ⟨rfl,gn⟩;have kn:Kp w1 w2:=Kp.trans (Kp.drew (Kp.refl _)) gn;have y0:=kkeep kn x0;have y1:=kkeep kn x1;have y2:=kkeep kn x2))
          clear x0 x1 x2 a0 a1 a2 b0 b1 b2 c0 c1 c2
          clear dx0 dx1 dx2 y0 y1 y2 gn
          replace HX:=HX.keep kn
          replace Ha:=Ha.keep kn
          replace Hb:=Hb.keep kn
          replace Hc:=Hc.keep kn
          replace hpa:=hpa.kp kn
          replace hpb:=hpb.kp kn
          replace hpc:=hpc.kp kn
          replace kW:=kW.trans kn
          replace gR:=gR.trans kn
          clear kn
          obtain ⟨x0,x1,x2,-,-,-⟩:=id HX
          obtain ⟨a0,a1,a2,-,-,-⟩:=id Ha
          obtain ⟨b0,b1,b2,-,-,-⟩:=id Hb
          obtain ⟨c0,c1,c2,-,-,-⟩:=id Hc
          go_wp2_with fail
          have dx0:w2.drew.cell? ⟨w.heap.size,0,none⟩ = some (.int .u64 X):=x0
          have dx1:w2.drew.cell? ⟨w.heap.size,1,none⟩ = some (.int .u64 Y):=x1
          have dx2:w2.drew.cell? ⟨w.heap.size,2,none⟩ = some (.int .u64 Z):=x2
          go_region_held3 (fun w'=>w'.cell? ⟨w.heap.size,0,none⟩ = some (.int .u64 X)∧w'.cell? ⟨w.heap.size,1,none⟩ = some (.int .u64 Y)∧w'.cell? ⟨w.heap.size,2,none⟩ = some (.int .u64 Z)) (first | (with_reducible exact ⟨x0,x1,x2⟩) | (with_reducible exact ⟨dx0,dx1,dx2⟩) | (with_reducible exact ⟨y0,y1,y2⟩)) (first | (go_at_call 8;refine (fl9 _ _ (by with_reducible first | exact p0 | exact p1 | exact p2) _).mono ?_;rintro e wn ⟨rfl,hw9⟩;obtain rfl:=hw9.symm;clear hw9) | (go_at_call 11;refine (as9 3 0 (by decide) (by decide) (by decide) _ ?q0).mono ?_;(case q0=>exact kW.drew);rintro e w3 ⟨rfl,gn⟩;have kn:Kp w2 w3:=Kp.trans (Kp.drew (Kp.refl _)) gn;have y0:=kkeep kn x0;have y1:=kkeep kn x1;have y2:=kkeep kn x2))
          clear x0 x1 x2 a0 a1 a2 b0 b1 b2 c0 c1 c2
          clear dx0 dx1 dx2 y0 y1 y2 gn
          replace HX:=HX.keep kn
          replace Ha:=Ha.keep kn
          replace Hb:=Hb.keep kn
          replace Hc:=Hc.keep kn
          replace hpa:=hpa.kp kn
          replace hpb:=hpb.kp kn
          replace hpc:=hpc.kp kn
          replace kW:=kW.trans kn
          replace gR:=gR.trans kn
          clear kn
          obtain ⟨x0,x1,x2,-,-,-⟩:=id HX
          obtain ⟨a0,a1,a2,-,-,-⟩:=id Ha
          obtain ⟨b0,b1,b2,-,-,-⟩:=id Hb
          obtain ⟨c0,c1,c2,-,-,-⟩:=id Hc
          go_wp2_with fail
          refine (ex9 3 (by decide) (by decide) (fun _=>hs) _ sa pa la ca qa ka da sb pb lb cb qb kb db sc pc lc cc qc kc dc kW hpa hpb hpc).mono ?_;rintro e wl ⟨s9,p9,l9,c9,q9,k9,d9,rfl,hq9,gl⟩
          replace kW:=kW.trans gl
          replace gR:=gR.trans gl
          go_wp2_with fail
          refine (ti9 3 (by decide) (by decide) (fun _=>hs) _ s9 p9 l9 c9 q9 k9 d9 kW hq9).mono ?_;rintro e wh ⟨rfl,gh⟩
          replace gR:=gR.trans gh
          clear x0 x1 x2 a0 a1 a2 b0 b1 b2 c0 c1 c2
          go_wp2_with fail
          exact ⟨⟨Or.inr (Or.inr (Or.inr (Or.inr (Or.inl (by go_num))))),gR⟩,by simp [intOf]⟩
        · subst hk
          go_wp2_with fail
          have dx0:wr.drew.cell? ⟨w.heap.size,0,none⟩ = some (.int .u64 X):=x0
          have dx1:wr.drew.cell? ⟨w.heap.size,1,none⟩ = some (.int .u64 Y):=x1
          have dx2:wr.drew.cell? ⟨w.heap.size,2,none⟩ = some (.int .u64 Z):=x2
          go_region_held3 (fun w'=>w'.cell? ⟨w.heap.size,0,none⟩ = some (.int .u64 X)∧w'.cell? ⟨w.heap.size,1,none⟩ = some (.int .u64 Y)∧w'.cell? ⟨w.heap.size,2,none⟩ = some (.int .u64 Z)) (first | (with_reducible exact ⟨x0,x1,x2⟩) | (with_reducible exact ⟨dx0,dx1,dx2⟩) | (with_reducible exact ⟨y0,y1,y2⟩)) (first | (go_at_call 8;refine (fl9 _ _ (by with_reducible first | exact p0 | exact p1 | exact p2) _).mono ?_;rintro e wn ⟨rfl,hw9⟩;obtain rfl:=hw9.symm;clear hw9) | (go_at_call 11;refine (as9 4 (-1) (by decide) (by decide) (by decide) _ ?q0).mono ?_;(case q0=>exact kW.drew);rintro e w1 ⟨rfl,gn⟩;have kn:Kp wr w1:=Kp.trans (Kp.drew (Kp.refl _)) gn;have y0:=kkeep kn x0;have y1:=kkeep kn x1;have y2:=kkeep kn x2))
          clear x0 x1 x2 a0 a1 a2 b0 b1 b2 c0 c1 c2
          clear dx0 dx1 dx2 y0 y1 y2 gn
          replace HX:=HX.keep kn
          replace Ha:=Ha.keep kn
          replace Hb:=Hb.keep kn
          replace Hc:=Hc.keep kn
          replace hpa:=hpa.kp kn
          replace hpb:=hpb.kp kn
          replace hpc:=hpc.kp kn
          replace kW:=kW.trans kn
          replace gR:=gR.trans kn
          clear kn
          obtain ⟨x0,x1,x2,-,-,-⟩:=id HX
          obtain ⟨a0,a1,a2,-,-,-⟩:=id Ha
          obtain ⟨b0,b1,b2,-,-,-⟩:=id Hb
          obtain ⟨c0,c1,c2,-,-,-⟩:=id Hc
          go_wp2_with fail
          have dx0:w1.drew.cell? ⟨w.heap.size,0,none⟩ = some (.int .u64 X):=x0
          have dx1:w1.drew.cell? ⟨w.heap.size,1,none⟩ = some (.int .u64 Y):=x1
          have dx2:w1.drew.cell? ⟨w.heap.size,2,none⟩ = some (.int .u64 Z):=x2
          go_region_held3 (fun w'=>w'.cell? ⟨w.heap.size,0,none⟩ = some (.int .u64 X)∧w'.cell? ⟨w.heap.size,1,none⟩ = some (.int .u64 Y)∧w'.cell? ⟨w.heap.size,2,none⟩ = some (.int .u64 Z)) (first | (with_reducible exact ⟨x0,x1,x2⟩) | (with_reducible exact ⟨dx0,dx1,dx2⟩) | (with_reducible exact ⟨y0,y1,y2⟩)) (first | (go_at_call 8;refine (fl9 _ _ (by with_reducible first | exact p0 | exact p1 | exact p2) _).mono ?_;rintro e wn ⟨rfl,hw9⟩;obtain rfl:=hw9.symm;clear hw9) | (go_at_call 11;refine (as9 4 1 (by decide) (by decide) (by decide) _ ?q0).mono ?_;(case q0=>exact kW.drew);rintro e w2 ⟨rfl,gn⟩;have kn:Kp w1 w2:=Kp.trans (Kp.drew (Kp.refl _)) gn;have y0:=kkeep kn x0;have y1:=kkeep kn x1;have y2:=kkeep kn x2))
          clear x0 x1 x2 a0 a1 a2 b0 b1 b2 c0 c1 c2
          clear dx0 dx1 dx2 y0 y1 y2 gn
          replace HX:=HX.keep kn
          replace Ha:=Ha.keep kn
          replace Hb:=Hb.keep kn
          replace Hc:=Hc.keep kn
          replace hpa:=hpa.kp kn
          replace hpb:=hpb.kp kn
          replace hpc:=hpc.kp kn
          replace kW:=kW.trans kn
          replace gR:=gR.trans kn
          clear kn
          obtain ⟨x0,x1,x2,-,-,-⟩:=id HX
          obtain ⟨a0,a1,a2,-,-,-⟩:=id Ha
          obtain ⟨b0,b1,b2,-,-,-⟩:=id Hb
          obtain ⟨c0,c1,c2,-,-,-⟩:=id Hc
          go_wp2_with fail
          have dx0:w2.drew.cell? ⟨w.heap.size,0,none⟩ = some (.int .u64 X):=x0
          have dx1:w2.drew.cell? ⟨w.heap.size,1,none⟩ = some (.int .u64 Y):=x1
          have dx2:w2.drew.cell? ⟨w.heap.size,2,none⟩ = some (.int .u64 Z):=x2
          go_region_held3 (fun w'=>w'.cell? ⟨w.heap.size,0,none⟩ = some (.int .u64 X)∧w'.cell? ⟨w.heap.size,1,none⟩ = some (.int .u64 Y)∧w'.cell? ⟨w.heap.size,2,none⟩ = some (.int .u64 Z)) (first | (with_reducible exact ⟨x0,x1,x2⟩) | (with_reducible exact ⟨dx0,dx1,dx2⟩) | (with_reducible exact ⟨y0,y1,y2⟩)) (first | (go_at_call 8;refine (fl9 _ _ (by with_reducible first | exact p0 | exact p1 | exact p2) _).mono ?_;rintro e wn ⟨rfl,hw9⟩;obtain rfl:=hw9.symm;clear hw9) | (go_at_call 11;refine (as9 4 0 (by decide) (by decide) (by decide) _ ?q0).mono ?_;(case q0=>exact kW.drew);rintro e w3 ⟨rfl,gn⟩;have kn:Kp w2 w3:=Kp.trans (Kp.drew (Kp.refl _)) gn;have y0:=kkeep kn x0;have y1:=kkeep kn x1;have y2:=kkeep kn x2))
          clear x0 x1 x2 a0 a1 a2 b0 b1 b2 c0 c1 c2
          clear dx0 dx1 dx2 y0 y1 y2 gn
          replace HX:=HX.keep kn
          replace Ha:=Ha.keep kn
          replace Hb:=Hb.keep kn
          replace Hc:=Hc.keep kn
          replace hpa:=hpa.kp kn
          replace hpb:=hpb.kp kn
          replace hpc:=hpc.kp kn
          replace kW:=kW.trans kn
          replace gR:=gR.trans kn
          clear kn
          obtain ⟨x0,x1,x2,-,-,-⟩:=id HX
          obtain ⟨a0,a1,a2,-,-,-⟩:=id Ha
          obtain ⟨b0,b1,b2,-,-,-⟩:=id Hb
          obtain ⟨c0,c1,c2,-,-,-⟩:=id Hc
          go_wp2_with fail
          refine (ex9 4 (by decide) (by decide) (fun h=>absurd h (by decide)) _ sa pa la ca qa ka da sb pb lb cb qb kb db sc pc lc cc qc kc dc kW hpa hpb hpc).mono ?_;rintro e wl ⟨s9,p9,l9,c9,q9,k9,d9,rfl,hq9,gl⟩
          replace kW:=kW.trans gl
          replace gR:=gR.trans gl
          go_wp2_with fail
          refine (ti9 4 (by decide) (by decide) (fun h=>absurd h (by decide)) _ s9 p9 l9 c9 q9 k9 d9 kW hq9).mono ?_;rintro e wh ⟨rfl,gh⟩
          replace gR:=gR.trans gh
          clear x0 x1 x2 a0 a1 a2 b0 b1 b2 c0 c1 c2
          go_wp2_with fail
          exact ⟨⟨Or.inr (Or.inr (Or.inr (Or.inr (Or.inr ((by go_num)))))),gR⟩,by simp [intOf]⟩
        · subst hk
          go_wp2_with fail
          refine (li9 _ kW).mono ?_;rintro e wh ⟨rfl,gh⟩
          go_wp2
          exact bodyPost_ret (v:=.bool true) (by simp [results,Tryz.results3,go_sem]) rfl ⟨rfl,(kW.trans gh)⟩
set_option linter.unusedVariables false
set_option linter.unusedSimpArgs false
theorem lawB0_ (X Y Z:Int) (w:World) (fi0:∀ W:World,Calls Tryz.prog 4 #[.int .u64 X] W fun e w'=>e = .returned (.bool false)∧w' = W) (li9:∀ W:World,Kp w W→Calls Tryz.prog 5 #[] W fun e w'=>e = .returned (.bool true)∧Kp W w') (f0 f1:Nat) (Q:Int) (PF:Int→Nat→Prop) (p0:PF X f0) (p1:PF Y f1) (fl9:∀ X Y,PF X Y→∀ W:World,Calls Tryz.prog 8 #[.int .u64 X] W fun e w'=>e = .returned (.float .f64 Y)∧w' = W) (PA:Nat→Nat→Prop) (q1:PA f0 f1) (q2:PA f1 f0) (ad9:∀ x y,PA x y→∀ W:World,Kp w W→Calls Tryz.prog 7 #[.int .i64 1,.float .f64 x,.float .f64 y] W fun e w'=>∃ R,e = .returned (.float .f64 R)∧(∀ w1:World,Calls Tryz.prog 6 #[.float .f64 R] w1 fun e w'=>e = .returned (.int .u64 Q)∧w' = w1)∧Kp W w'):Calls Tryz.prog 3 #[.agg #[.int .u64 X,.int .u64 Y,.int .u64 Z]] w fun e w'=>e = .returned (.bool true)∧Kp w w':=by
  have HX:=H3c.new w (.int .u64 X) (.int .u64 Y) (.int .u64 Z) 23
  have kW:Kp w (w.alloc (.cells #[.int .u64 X,.int .u64 Y,.int .u64 Z] 23)):=(Kp.refl w).alloc _
  go_enter Tryz.func3,Tryz.ntmps3
  go_upto_region 2 with fail
  generalize w.alloc (.cells #[.int .u64 X,.int .u64 Y,.int .u64 Z] 23) = W0 at HX kW ⊢
  go_loopw [3] (fun s3 wr=>(s3 = .int .i64 0)∧wr = W0) (fun s3 _=>(3 - intOf s3).toNat)
  case atStart=>exact ⟨rfl,rfl⟩
  case round =>
    obtain ⟨hk,hwr⟩:=hrel
    subst hwr
    · subst hk
      obtain ⟨x0,x1,x2,-,-,-⟩:=id HX
      go_wp2_with (first | (go_at_call 4;refine (fi0 _).mono ?_;rintro e wn ⟨rfl,hw9⟩;obtain rfl:=hw9.symm;clear hw9))
      have dx0:wr.drew.cell? ⟨w.heap.size,0,none⟩ = some (.int .u64 X):=x0
      have dx1:wr.drew.cell? ⟨w.heap.size,1,none⟩ = some (.int .u64 Y):=x1
      have dx2:wr.drew.cell? ⟨w.heap.size,2,none⟩ = some (.int .u64 Z):=x2
      go_region_held3 (fun w'=>w'.cell? ⟨w.heap.size,0,none⟩ = some (.int .u64 X)∧w'.cell? ⟨w.heap.size,1,none⟩ = some (.int .u64 Y)∧w'.cell? ⟨w.heap.size,2,none⟩ = some (.int .u64 Z)) (first | (with_reducible exact ⟨x0,x1,x2⟩) | (with_reducible exact ⟨dx0,dx1,dx2⟩) | (with_reducible exact ⟨y0,y1,y2⟩)) (first | (go_at_call 5;refine (li9 _ ?q0).mono ?_;(case q0=>exact kW.drew);rintro e wl ⟨rfl,gl⟩;have kl:Kp wr wl:=Kp.trans (Kp.drew (Kp.refl _)) gl;have y0:=kkeep kl x0;have y1:=kkeep kl x1;have y2:=kkeep kl x2) | (go_at_call 8;refine (fl9 _ _ (by with_reducible first | exact p0 | exact p1) _).mono ?_;rintro e wn ⟨rfl,hw9⟩;obtain rfl:=hw9.symm;clear hw9) | (go_at_call 7;refine (ad9 _ _ (by with_reducible first | exact q1 | exact q2) _ (kW.trans kl)).mono ?_;rintro e wn ⟨R,rfl,hbt,gn⟩;replace kl:=Kp.trans kl gn;replace y0:=kkeep kl x0;replace y1:=kkeep kl x1;replace y2:=kkeep kl x2) | (go_at_call 6;refine (hbt _).mono ?_;rintro e wn ⟨rfl,hw9⟩;obtain rfl:=hw9.symm;clear hw9 hbt))
      go_wp2
      exact bodyPost_ret (v:=.bool true) (by simp [results,Tryz.results3,go_sem]) rfl ⟨rfl,(kW.trans kl)⟩
end Go.Proofs.YtoibnopiinclaaaGreatDoor
