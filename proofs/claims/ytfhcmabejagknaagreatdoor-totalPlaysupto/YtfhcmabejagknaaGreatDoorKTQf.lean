import Derived.Test.YtfhcmabejagknaaGreatDoorKTOg
import Derived.Test.YtfhcmabejagknaaGreatDoorKTQc
import Derived.Lib.Mul64
set_option maxHeartbeats 1000000
set_option maxRecDepth 20000
namespace Go.Proofs.YtfhcmabejagknaaGreatDoor
open Go.RowKit

theorem dy_sum (a1 a2 j1 j2 E U1 U2:Nat) (h1:Dv a1 j1 E U1) (h2:Dv a2 j2 E U2):(a1 * 2 ^ j2) * 2 ^ E = U1 * 2 ^ (j1 + j2)∧(a2 * 2 ^ j1) * 2 ^ E = U2 * 2 ^ (j1 + j2):=by
  obtain ⟨x1,-,x3⟩:=h1
  obtain ⟨y1,-,y3⟩:=h2
  rw [← x3,← y3]
  constructor
  · rw [Nat.mul_assoc,Nat.mul_assoc,← Nat.pow_add,← Nat.pow_add];congr 2;omega
  · rw [Nat.mul_assoc,Nat.mul_assoc,← Nat.pow_add,← Nat.pow_add];congr 2;omega
theorem pow_mul2 (x B j C:Nat) (h:x < 2 ^ B) (hj:j≤C):x * 2 ^ j < 2 ^ (B + C):=by
  rw [Nat.pow_add]
  exact Nat.lt_of_lt_of_le ((Nat.mul_lt_mul_right (Nat.two_pow_pos j)).2 h) (Nat.mul_le_mul_left _ (Nat.pow_le_pow_right (by decide) hj))
theorem len_b (n k B:Nat) (h:n < 2 ^ B) (hB:B≤32 * k):len32 n≤k:=len_le n k (Nat.lt_of_lt_of_le h (Nat.pow_le_pow_right (by decide) hB))
theorem sgn_of (V:Int) (s:Bool) (h:V≠0→s = decide (V < 0)):V = if s then -((V.natAbs:Nat):Int) else ((V.natAbs:Nat):Int):=by
  by_cases c:V = 0
  · rw [c];cases s <;> rfl
  · rw [h c]
    by_cases d:V < 0
    · rw [decide_eq_true d];simp;omega
    · rw [decide_eq_false d];simp;omega
theorem dyadd_ s1 p1 l1 c1 q1 k1 d1 s2 p2 l2 c2 q2 k2 d2 (V1 V2:Int) (E B:Nat) (hB:B≤60000) (hE:E≤60000) (hV1:V1.natAbs < 2 ^ B) (hV2:V2.natAbs < 2 ^ B) (b1 b2:Nat) (w:World) (h1:Dy b1 w s1 p1 l1 c1 q1 k1 d1 V1 E) (h2:Dy b2 w s2 p2 l2 c2 q2 k2 d2 V2 E):Calls Tryz.prog 38 #[.agg #[.bool s1,.slice p1 l1 c1,.slice q1 k1 d1],.agg #[.bool s2,.slice p2 l2 c2,.slice q2 k2 d2]] w fun e w'=>∃ s3 p3 l3 c3 q3 k3 d3,e = .returned (.agg #[.bool s3,.slice p3 l3 c3,.slice q3 k3 d3])∧Dy w.heap.size w' s3 p3 l3 c3 q3 k3 d3 (V1 + V2) E∧Kp w w':=by
  obtain ⟨a1,j1,o1,o2,f1,g1⟩:=h1
  obtain ⟨a2,j2,o3,o4,f2,g2⟩:=h2
  obtain ⟨P1,C1,e1,r1,t1⟩:=o1.arr
  obtain ⟨P2,C2,e2,r2,t2⟩:=o2.arr
  obtain ⟨P3,C3,e3,r3,t3⟩:=o3.arr
  obtain ⟨P4,C4,e4,r4,t4⟩:=o4.arr
  injection e1 with x1 x2 x3;subst x1 x2 x3
  injection e2 with x1 x2 x3;subst x1 x2 x3
  injection e3 with x1 x2 x3;subst x1 x2 x3
  injection e4 with x1 x2 x3;subst x1 x2 x3
  obtain ⟨m1,m2⟩:=dy_sum a1 a2 j1 j2 E _ _ f1 f2
  have A1:=f1.lt B hV1
  have A2:=f2.lt B hV2
  have J1:=f1.1
  have J2:=f2.1
  have L1:len32 a1≤4000:=len_b _ _ B A1 (by omega)
  have L2:len32 a2≤4000:=len_b _ _ B A2 (by omega)
  have L3:len32 (2 ^ j1)≤4000:=len_b _ _ (j1 + 1) (Nat.pow_lt_pow_right (by decide) (by omega)) (by omega)
  have L4:len32 (2 ^ j2)≤4000:=len_b _ _ (j2 + 1) (Nat.pow_lt_pow_right (by decide) (by omega)) (by omega)
  have X1:=pow_mul2 a1 B j2 60000 A1 (by omega)
  have X2:=pow_mul2 a2 B j1 60000 A2 (by omega)
  have X3:len32 (a1 * 2 ^ j2)≤16000:=len_b _ _ (B + 60000) X1 (by omega)
  have X4:len32 (a2 * 2 ^ j1)≤16000:=len_b _ _ (B + 60000) X2 (by omega)
  have X5:len32 (2 ^ j1 * 2 ^ j2)≤16000:=len_b _ _ (j1 + j2 + 1) (by rw [← Nat.pow_add];exact Nat.pow_lt_pow_right (by decide) (by omega)) (by omega)
  have X6:len32 (a1 * 2 ^ j2 + a2 * 2 ^ j1)≤16000:=len_b _ _ (B + 60000 + 1) (by rw [Nat.pow_succ];generalize 2 ^ (B + 60000) = Q at *;omega) (by omega)
  have Z1:(2:Nat) ^ j1≠0:=Nat.ne_of_gt (Nat.two_pow_pos _)
  have Z2:(2:Nat) ^ j2≠0:=Nat.ne_of_gt (Nat.two_pow_pos _)
  have D9:(2:Nat) ^ j1 * 2 ^ j2 = 2 ^ (j1 + j2):=(Nat.pow_add 2 j1 j2).symm
  have fin:∀ (X U:Nat) (sg:Bool) (V:Int),X * 2 ^ E = U * 2 ^ (j1 + j2)→V.natAbs = U→(V≠0→sg = decide (V < 0))→(Calls Tryz.prog 38 #[.agg #[.bool s1,.slice p1 (dig a1).length c1,.slice q1 (dig (2 ^ j1)).length d1],.agg #[.bool s2,.slice p2 (dig a2).length c2,.slice q2 (dig (2 ^ j2)).length d2]] w fun e w'=>∃ (vn vd:Value) (a' b':Nat) (ng:Bool),e = .returned (.agg #[.bool ng,vn,vd])∧Own w' w.heap.size vn (dig a')∧Own w' w.heap.size vd (dig b')∧(FracX X (2 ^ j1 * 2 ^ j2) 0 a' b'∧(X≠0→ng = sg))∧Kp w w')→Calls Tryz.prog 38 #[.agg #[.bool s1,.slice p1 (dig a1).length c1,.slice q1 (dig (2 ^ j1)).length d1],.agg #[.bool s2,.slice p2 (dig a2).length c2,.slice q2 (dig (2 ^ j2)).length d2]] w fun e w'=>∃ s3 p3 l3 c3 q3 k3 d3,e = .returned (.agg #[.bool s3,.slice p3 l3 c3,.slice q3 k3 d3])∧Dy w.heap.size w' s3 p3 l3 c3 q3 k3 d3 (V) E∧Kp w w':=by
    intro X U sg V hX hU hs hc
    refine hc.mono ?_
    rintro e w' ⟨vn,vd,a',b',ng,rfl,u1,u2,⟨u3,u4⟩,g⟩
    rw [D9] at u3
    obtain ⟨j,rfl,u5⟩:=dy_frac X (j1 + j2) E U a' b' u3 hX
    obtain ⟨p3,c3,rfl,-,-⟩:=u1.arr
    obtain ⟨q3,d3,rfl,-,-⟩:=u2.arr
    refine ⟨ng,p3,_,c3,q3,_,d3,rfl,⟨a',j,u1,u2,by rw [hU];exact u5,fun h=>?_⟩,g⟩
    rw [u4 (fun z=>?_)]
    · exact hs h
    · rw [z,Nat.zero_mul] at hX
      rcases Nat.mul_eq_zero.1 hX.symm with q | q
      · omega
      · have:=Nat.two_pow_pos (j1 + j2);omega
  have hp:0 < 2 ^ (j1 + j2):=Nat.two_pow_pos _
  have hpE:0 < 2 ^ E:=Nat.two_pow_pos _
  have hle:(a2 * 2 ^ j1≤a1 * 2 ^ j2 ↔ V2.natAbs≤V1.natAbs):=by
    rw [← Nat.mul_le_mul_right_iff hpE,m1,m2,Nat.mul_le_mul_right_iff hp]
  have n1:=sgn_of V1 s1 g1
  have n2:=sgn_of V2 s2 g2
  by_cases c:s1 = s2
  · refine fin (a1 * 2 ^ j2 + a2 * 2 ^ j1) (V1.natAbs + V2.natAbs) s1 (V1 + V2) (by rw [Nat.add_mul,Nat.add_mul,m1,m2]) ?_ ?_ (raddEqX_ s1 s2 a1 (2 ^ j1) a2 (2 ^ j2) p1 q1 p2 q2 c1 d1 c2 d2 w r1 t1 r2 t2 r3 t3 r4 t4 L1 L3 L2 L4 Z1 Z2 _ _ _ rfl rfl rfl X3 X4 X5 X6 c)
    · rw [← c] at n2;clear m1 m2 hle fin;cases s1 <;> simp at n1 n2 <;> omega
    · intro h;rw [← c] at n2;clear m1 m2 hle fin;cases s1 <;> simp at n1 n2 ⊢ <;> omega
  · by_cases cl:a2 * 2 ^ j1≤a1 * 2 ^ j2
    · have cl2:=hle.1 cl
      refine fin (a1 * 2 ^ j2 - a2 * 2 ^ j1) (V1.natAbs - V2.natAbs) s1 (V1 + V2) (by rw [Nat.sub_mul,Nat.sub_mul,m1,m2]) ?_ ?_ (raddGeX_ s1 s2 a1 (2 ^ j1) a2 (2 ^ j2) p1 q1 p2 q2 c1 d1 c2 d2 w r1 t1 r2 t2 r3 t3 r4 t4 L1 L3 L2 L4 Z1 Z2 _ _ _ rfl rfl rfl X3 X4 X5 X6 c cl)
      · clear m1 m2 hle fin;cases s1 <;> cases s2 <;> simp at n1 n2 c <;> omega
      · intro h;clear m1 m2 hle fin;cases s1 <;> cases s2 <;> simp at n1 n2 c ⊢ <;> omega
    · have cl2:=mt hle.2 cl
      refine fin (a2 * 2 ^ j1 - a1 * 2 ^ j2) (V2.natAbs - V1.natAbs) s2 (V1 + V2) (by rw [Nat.sub_mul,Nat.sub_mul,m1,m2]) ?_ ?_ (raddLtX_ s1 s2 a1 (2 ^ j1) a2 (2 ^ j2) p1 q1 p2 q2 c1 d1 c2 d2 w r1 t1 r2 t2 r3 t3 r4 t4 L1 L3 L2 L4 Z1 Z2 _ _ _ rfl rfl rfl X3 X4 X5 X6 c (by omega))
      · clear m1 m2 hle fin;cases s1 <;> cases s2 <;> simp at n1 n2 c <;> omega
      · intro h;clear m1 m2 hle fin;cases s1 <;> cases s2 <;> simp at n1 n2 c ⊢ <;> omega

theorem Dv.up {a j E U:Nat} (h:Dv a j E U) (t:Nat):Dv a j (E + t) (U * 2 ^ t):=by
  obtain ⟨h1,h2,h3⟩:=h
  refine ⟨by omega,h2, ?_⟩
  rw [← h3,Nat.mul_assoc,← Nat.pow_add];congr 2;omega
theorem Dy.up {base:Nat} {w:World} {s1:Bool} {p1:Option Addr} {l1 c1:Nat} {q1:Option Addr} {k1 d1:Nat} {V:Int} {E:Nat} (h:Dy base w s1 p1 l1 c1 q1 k1 d1 V E) (t:Nat):Dy base w s1 p1 l1 c1 q1 k1 d1 (V * ((2 ^ t:Nat):Int)) (E + t):=by
  obtain ⟨a,j,h1,h2,h3,h4⟩:=h
  have hp:=Nat.two_pow_pos t
  refine ⟨a,j,h1,h2, ?_,fun h=>?_⟩
  · rw [Int.natAbs_mul,Int.natAbs_natCast];exact h3.up t
  · have hv:V≠0:=fun z=>h (by rw [z,Int.zero_mul])
    rw [h4 hv]
    have:=(sgn_mul V ((2 ^ t:Nat):Int) (by omega)).1
    simp only [decide_eq_decide];exact this
theorem fracO_self (a b:Nat) (h:b≠0):FracOf a b 0 a b:=⟨h,Iff.rfl,fun d p t _=>by rw [Int.add_zero],by omega,by omega⟩
theorem dybits_ (d:Int) s1 p1 l1 c1 q1 k1 d1 (V:Int) (E K B:Nat) (hK:K = 1074) (hE:E = K + K) (hB:B≤60000) (hV:V.natAbs < 2 ^ B) (b1:Nat) (w:World) (h1:Dy b1 w s1 p1 l1 c1 q1 k1 d1 V E):Calls Tryz.prog 52 #[.int .i64 d,.agg #[.bool s1,.slice p1 l1 c1,.slice q1 k1 d1]] w fun e w'=>e = .returned (.int .u64 ((fmaW d V:Nat):Int))∧Kp w w':=by
  obtain ⟨a,j,o1,o2,f1,g1⟩:=h1
  have hz:(2:Nat) ^ j≠0:=Nat.ne_of_gt (Nat.two_pow_pos _)
  have ha:=f1.lt B hV
  have hr:=rbits_ d s1 _ _ a (2 ^ j) w o1.ls o2.ls hz (Nat.le_trans ((blen_le_iff a B).2 ha) (by omega)) (Nat.le_trans ((blen_le_iff (2 ^ j) (j + 1)).2 (Nat.pow_lt_pow_right (by decide) (by omega))) (by have:=f1.1;omega))
  have hx:a * 2 ^ (K + K) = V.natAbs * 2 ^ j:=by
    rw [← f1.2.2,Nat.mul_assoc,← Nat.pow_add,← hE];congr 2;have:=f1.1;omega
  have e1:=ref_mul d s1 s1 a (2 ^ j) a (2 ^ j) V.natAbs K hK hz (fracO_self _ _ hz) (fun _=>rfl) hx
  rw [e1,mul_fma d V s1 V.natAbs rfl g1] at hr
  exact hr
theorem dyfrom_ (n:Bool) (m K:Nat) (hK:K = 1074) (hm:m < 9218868437227405312) (w:World):Calls Tryz.prog 39 #[.int .u64 ((Fq.wD n m:Nat):Int)] w fun e w'=>∃ s3 p3 l3 c3 q3 k3 d3,e = .returned (.agg #[.bool s3,.slice p3 l3 c3,.slice q3 k3 d3])∧Dy w.heap.size w' s3 p3 l3 c3 q3 k3 d3 (Iv n m) (K)∧Kp w w':=by
  have h:=fromBitsX_ n m hm w
  refine Calls.mono (show Calls Tryz.prog 39 #[.int .u64 ((Fq.wD n m:Nat):Int)] w _ from h) ?_
  rintro e w' ⟨vn,vd,a,b,ng,rfl,u1,u2,⟨u3,u4⟩,g⟩
  obtain ⟨v1,v2,v3,v4,v5⟩:=Fq.vlsgD m hm
  have v1:Fq.sgD m * 2 ^ (Fq.epD m + 1074).toNat = Fq.vV Ieee.double m:=v1
  have u3:FracX (Fq.sgD m) 1 (Fq.epD m) a b:=u3
  have u4:Fq.sgD m≠0→ng = n:=u4
  obtain ⟨p3,c3,rfl,-,-⟩:=u1.arr
  obtain ⟨q3,d3,rfl,-,-⟩:=u2.arr
  have ab:(Iv n m).natAbs = Fq.vV Ieee.double m:=by unfold Iv;cases n <;> simp
  by_cases z:Fq.sgD m = 0
  · obtain ⟨z1,z2⟩:=u3.2.1 z
    have z3:Fq.vV Ieee.double m = 0:=by rw [← v1,z,Nat.zero_mul]
    have z4:Iv n m = 0:=by omega
    subst z2
    refine ⟨ng,p3,_,c3,q3,_,d3,rfl,⟨a,0,u1,u2,⟨Nat.zero_le _,Or.inr rfl, ?_⟩,fun h=>absurd z4 h⟩,g⟩
    rw [z1,Nat.zero_mul,ab,z3]
  · obtain ⟨oa,ob,ka,kb,x,y,g1,g2,g3,g4,g5,g6,g7,g8⟩:=u3.2.2 z
    obtain ⟨r1,r2⟩:=odd_one ob 0 kb g2 g4
    subst r1 r2
    rw [Nat.one_mul] at g6
    subst g6
    have hs:Iv n m≠0→ng = decide (Iv n m < 0):=fun h=>by
      rw [u4 z]
      unfold Iv at h ⊢
      cases n
      · simp
      · simp at h ⊢;omega
    rw [g3] at v1
    refine ⟨ng,p3,_,c3,q3,_,d3,rfl,⟨a,y,u1,u2, ?_,hs⟩,g⟩
    rw [ab,← v1,g5]
    rcases g7 with q | q
    · subst q
      refine ⟨by omega,Or.inl (by rw [Nat.pow_zero,Nat.mul_one];exact g1), ?_⟩
      rw [Nat.pow_zero,Nat.mul_one,Nat.mul_assoc,← Nat.pow_add];congr 2;omega
    · subst q
      refine ⟨Nat.zero_le _,Or.inr rfl, ?_⟩
      rw [Nat.mul_assoc,Nat.mul_assoc,← Nat.pow_add,← Nat.pow_add];congr 2;omega
theorem dymul_ s1 p1 l1 c1 q1 k1 d1 s2 p2 l2 c2 q2 k2 d2 (V1 V2:Int) (E B:Nat) (hB:B≤30000) (hE:E≤30000) (hV1:V1.natAbs < 2 ^ B) (hV2:V2.natAbs < 2 ^ B) (b1 b2:Nat) (w:World) (h1:Dy b1 w s1 p1 l1 c1 q1 k1 d1 V1 E) (h2:Dy b2 w s2 p2 l2 c2 q2 k2 d2 V2 E):Calls Tryz.prog 42 #[.agg #[.bool s1,.slice p1 l1 c1,.slice q1 k1 d1],.agg #[.bool s2,.slice p2 l2 c2,.slice q2 k2 d2]] w fun e w'=>∃ s3 p3 l3 c3 q3 k3 d3,e = .returned (.agg #[.bool s3,.slice p3 l3 c3,.slice q3 k3 d3])∧Dy w.heap.size w' s3 p3 l3 c3 q3 k3 d3 (V1 * V2) (E + E)∧Kp w w':=by
  obtain ⟨a1,j1,o1,o2,f1,g1⟩:=h1
  obtain ⟨a2,j2,o3,o4,f2,g2⟩:=h2
  obtain ⟨P1,C1,e1,r1,t1⟩:=o1.arr
  obtain ⟨P2,C2,e2,r2,t2⟩:=o2.arr
  obtain ⟨P3,C3,e3,r3,t3⟩:=o3.arr
  obtain ⟨P4,C4,e4,r4,t4⟩:=o4.arr
  injection e1 with x1 x2 x3;subst x1 x2 x3
  injection e2 with x1 x2 x3;subst x1 x2 x3
  injection e3 with x1 x2 x3;subst x1 x2 x3
  injection e4 with x1 x2 x3;subst x1 x2 x3
  have A1:=f1.lt B hV1
  have A2:=f2.lt B hV2
  have J1:=f1.1
  have J2:=f2.1
  have L1:len32 a1≤4000:=len_b _ _ B A1 (by omega)
  have L2:len32 a2≤4000:=len_b _ _ B A2 (by omega)
  have L3:len32 (2 ^ j1)≤4000:=len_b _ _ (j1 + 1) (Nat.pow_lt_pow_right (by decide) (by omega)) (by omega)
  have L4:len32 (2 ^ j2)≤4000:=len_b _ _ (j2 + 1) (Nat.pow_lt_pow_right (by decide) (by omega)) (by omega)
  have X3:len32 (a1 * a2)≤16000:=len_b _ _ (B + B) (by rw [Nat.pow_add];exact Nat.mul_lt_mul'' A1 A2) (by omega)
  have X5:len32 (2 ^ j1 * 2 ^ j2)≤16000:=len_b _ _ (j1 + j2 + 1) (by rw [← Nat.pow_add];exact Nat.pow_lt_pow_right (by decide) (by omega)) (by omega)
  have Z1:(2:Nat) ^ j1≠0:=Nat.ne_of_gt (Nat.two_pow_pos _)
  have Z2:(2:Nat) ^ j2≠0:=Nat.ne_of_gt (Nat.two_pow_pos _)
  have D9:(2:Nat) ^ j1 * 2 ^ j2 = 2 ^ (j1 + j2):=(Nat.pow_add 2 j1 j2).symm
  refine (rmulX_ s1 s2 a1 (2 ^ j1) a2 (2 ^ j2) p1 q1 p2 q2 c1 d1 c2 d2 w r1 t1 r2 t2 r3 t3 r4 t4 L1 L3 L2 L4 Z1 Z2 _ _ rfl rfl X3 X5).mono ?_
  rintro e w' ⟨vn,vd,a',b',ng,rfl,u1,u2,⟨u3,u4⟩,g⟩
  rw [D9] at u3
  have hX:a1 * a2 * 2 ^ (E + E) = (V1 * V2).natAbs * 2 ^ (j1 + j2):=by
    rw [Int.natAbs_mul,← f1.2.2,← f2.2.2,show a1 * 2 ^ (E - j1) * (a2 * 2 ^ (E - j2)) = a1 * a2 * (2 ^ (E - j1) * 2 ^ (E - j2)) from Nat.mul_mul_mul_comm _ _ _ _,← Nat.pow_add,Nat.mul_assoc (a1 * a2) (2 ^ (E - j1 + (E - j2))),← Nat.pow_add];congr 2;omega
  obtain ⟨j,rfl,u5⟩:=dy_frac _ (j1 + j2) (E + E) _ a' b' u3 hX
  obtain ⟨p3,c3,rfl,-,-⟩:=u1.arr
  obtain ⟨q3,d3,rfl,-,-⟩:=u2.arr
  refine ⟨ng,p3,_,c3,q3,_,d3,rfl,⟨a',j,u1,u2,u5,fun h=>?_⟩,g⟩
  have hv1:V1≠0:=fun z=>h (by rw [z,Int.zero_mul])
  have hv2:V2≠0:=fun z=>h (by rw [z,Int.mul_zero])
  rw [u4 (fun z=>?_),g1 hv1,g2 hv2]
  · by_cases y1:V1 < 0
    · by_cases y2:V2 < 0
      · have:=Int.mul_pos_of_neg_of_neg y1 y2
        rw [decide_eq_true y1,decide_eq_true y2,decide_eq_false (by omega)];rfl
      · have:=Int.mul_neg_of_neg_of_pos y1 (show 0 < V2 by omega)
        rw [decide_eq_true y1,decide_eq_false y2,decide_eq_true this];rfl
    · by_cases y2:V2 < 0
      · have:=Int.mul_neg_of_pos_of_neg (show 0 < V1 by omega) y2
        rw [decide_eq_false y1,decide_eq_true y2,decide_eq_true this];rfl
      · have:=Int.mul_pos (show 0 < V1 by omega) (show 0 < V2 by omega)
        rw [decide_eq_false y1,decide_eq_false y2,decide_eq_false (by omega)];rfl
  · rcases Nat.mul_eq_zero.1 z with q | q
    · have:=f1.2.2;rw [q,Nat.zero_mul] at this;omega
    · have:=f2.2.2;rw [q,Nat.zero_mul] at this;omega
theorem roundX_ (d:Int) (b:Nat) (ws:List Nat) (k:Nat) (s:Int) (hs:s≠0) (w:World) (hS:Sb w b ws k s):Calls Tryz.prog 18 #[.pointer (some ⟨b,0,none⟩),.int .i64 d] w fun e w'=>e = .returned (.float .f64 (limW s))∧Kp w w':=by
  have c1:=hS.state
  have t:(s != 0) = true:=by simpa using hs
  have hl:=limit_ s
  generalize limW s = R at *
  clear hs hS
  go_enter Tryz.func18,Tryz.ntmps18
  go_wp2_with (first | (go_at_call 48;refine (hl _).mono ?_;rintro e w' ⟨rfl,hw'⟩;obtain rfl:=hw'.symm;clear hw'))
  exact bodyPost_ret (v:=.float .f64 R) (by simp [results,Tryz.results18,go_sem]) rfl ⟨rfl,Kp.refl _⟩
theorem state_ (b:Nat) (ws:List Nat) (k:Nat) (s:Int) (w:World) (hS:Sb w b ws k s):Calls Tryz.prog 26 #[.pointer (some ⟨b,0,none⟩)] w fun e w'=>e = .returned (.int .i64 s)∧w' = w:=by
  have c1:=hS.state
  clear hS
  go_enter Tryz.func26,Tryz.ntmps26
  go_wp2
  exact bodyPost_ret (v:=.int .i64 s) (by simp [results,Tryz.results26,go_sem]) rfl ⟨rfl,rfl⟩
def sgV (V:Int):Int:=if V < 0 then -1 else if V = 0 then 0 else 1
theorem signF_ (b:Nat) (ws:List Nat) (V:Int) (hV:Rep ws V) (hb:V.natAbs < wh) (k:Nat) (w:World) (hS:Sb w b ws k 0):Calls Tryz.prog 24 #[.pointer (some ⟨b,0,none⟩)] w fun e w'=>e = .returned (.int .i64 (sgV V))∧Kp w w':=by
  have c1:=hS.state
  have hld:=loadS hS
  have hsg:∀ w:World,Calls Tryz.prog 60 #[.agg (wc ws)] w fun e w'=>e = .returned (.int .i64 (sgV V))∧Kp w w':=sign_ ws V hV hb
  generalize sgV V = R at *
  clear hV hb hS
  go_enter Tryz.func24,Tryz.ntmps24
  go_upto_region 3 with fail
  refine wp_region_list ?_
  refine wpl_val rfl _ rfl ?_
  refine wpl_val rfl _ rfl ?_
  refine wpl_field rfl _ _ _ rfl _ _ rfl (fa0 b _) ?_
  refine wpl_load rfl 39 _ rfl b 0 rfl _ hld ?_
  go_wp2_with (first | (go_at_call 60;refine (hsg _).mono ?_;rintro e w1 ⟨rfl,g1⟩))
  exact bodyPost_ret (v:=.int .i64 R) (by simp [results,Tryz.results24,go_sem]) rfl ⟨rfl,g1⟩
theorem signX_ (b:Nat) (ws:List Nat) (k:Nat) (s:Int) (hs:s = 1∨s = -1∨s = 2) (w:World) (hS:Sb w b ws k s):Calls Tryz.prog 24 #[.pointer (some ⟨b,0,none⟩)] w fun e w'=>e = .returned (.int .i64 (if s = 2 then 0 else s))∧Kp w w':=by
  have c1:=hS.state
  clear hS
  rcases hs with rfl | rfl | rfl
  · go_enter Tryz.func24,Tryz.ntmps24
    go_wp2
    exact bodyPost_ret (v:=.int .i64 1) (by simp [results,Tryz.results24,go_sem]) rfl ⟨rfl,Kp.refl _⟩
  · go_enter Tryz.func24,Tryz.ntmps24
    go_wp2
    exact bodyPost_ret (v:=.int .i64 (-1)) (by simp [results,Tryz.results24,go_sem]) rfl ⟨rfl,Kp.refl _⟩
  · go_enter Tryz.func24,Tryz.ntmps24
    go_wp2
    exact bodyPost_ret (v:=.int .i64 0) (by simp [results,Tryz.results24,go_sem]) rfl ⟨rfl,Kp.refl _⟩
theorem zeroS:∀ w:World,(zeroValue 41).run Tryz.prog w = .ok (.agg (wc (List.replicate 67 0) ++ #[.int .u64 0,.int .i64 0])) w:=(zero_of_info (P:=Tryz.prog) (t:=41) (v:=.agg (wc (List.replicate 67 0) ++ #[.int .u64 0,.int .i64 0])) (n:=69) (by kernel_rfl)).1
theorem Sb.zero (w:World):Sb (w.alloc (.cells (wc (List.replicate 67 0) ++ #[.int .u64 0,.int .i64 0]) 41)) w.heap.size (List.replicate 67 0) 0 0:=⟨List.length_replicate,Bk.new _ _ _⟩
theorem new_ (w:World):Calls Tryz.prog 4 #[] w fun e w'=>e = .returned (.pointer (some ⟨w.heap.size,0,none⟩))∧Sb w' w.heap.size (List.replicate 67 0) 0 0∧Kp w w':=by
  have hz:=zeroS
  have h1:=Sb.zero w
  have hs:(wc (List.replicate 67 0) ++ #[Value.int .u64 0,Value.int .i64 0]).size = 69:=by rw [Array.size_append,wc_size,List.length_replicate];rfl
  generalize wc (List.replicate 67 0) ++ #[Value.int .u64 0,Value.int .i64 0] = Z at *
  have k1:Kp w (w.alloc (.cells Z 41)):=(Kp.refl w).alloc _
  go_enter Tryz.func4,Tryz.ntmps4
  go_wp2
  exact bodyPost_ret (v:=.pointer (some ⟨w.heap.size,0,none⟩)) (by simp [results,Tryz.results4,go_sem]) rfl ⟨rfl,h1,k1⟩

def tb (K:Nat):Nat:=2 ^ (2 * K + 2048)
theorem iv_lt (n:Bool) (m K:Nat) (hK:K = 1074) (hm:m < 9218868437227405312):(Iv n m).natAbs < 2 ^ (K + 1024):=by
  have h:=(Fq.vV_lt_iff Ieee.double m 9218868437227405312).2 hm
  have e:Fq.vV Ieee.double 9218868437227405312 = 2 ^ (K + 1024):=by rw [hK];decide +kernel
  rw [e] at h
  unfold Iv
  cases n <;> simp <;> omega
theorem tV_le (n:Bool) (m K:Nat) (hK:K = 1074) (hm:m < 9218868437227405312):(tV n m K).natAbs≤tb K:=by
  have h:=iv_lt n m K hK hm
  unfold tV tb
  rw [Int.natAbs_mul,Int.natAbs_natCast,show 2 * K + 2048 = (K + 1024) + (K + 1024) by omega,Nat.pow_add 2 (K + 1024)]
  exact Nat.mul_le_mul (Nat.le_of_lt h) (Nat.pow_le_pow_right (by decide) (by omega))
theorem pV_le (n n':Bool) (m m' K:Nat) (hK:K = 1074) (hm:m < 9218868437227405312) (hm':m' < 9218868437227405312):(Iv n m * Iv n' m').natAbs≤tb K:=by
  have h:=iv_lt n m K hK hm
  have h':=iv_lt n' m' K hK hm'
  unfold tb
  rw [Int.natAbs_mul,show 2 * K + 2048 = (K + 1024) + (K + 1024) by omega,Nat.pow_add 2 (K + 1024)]
  exact Nat.mul_le_mul (Nat.le_of_lt h) (Nat.le_of_lt h')
theorem tb_wh (K k:Nat) (hK:K = 1074) (hk:k≤4611686018427387904):k * tb K < wh:=by
  have e:4611686018427387904 * tb K < wh:=by rw [hK];decide +kernel
  exact Nat.lt_of_le_of_lt (Nat.mul_le_mul_right _ hk) e
def Fs (w:World) (b:Nat) (V:Int) (k K:Nat):Prop:=∃ ws,Rep ws V∧Sb w b ws k 0∧k≤4611686018427387904∧V.natAbs≤k * tb K
theorem Fs.lt {w:World} {b:Nat} {V:Int} {k K:Nat} (h:Fs w b V k K):b < w.heap.size:=by
  obtain ⟨ws,h1,h2,h3⟩:=h;exact h2.2.lt
theorem Fs.kp {w w':World} {b:Nat} {V:Int} {k K:Nat} (h:Fs w b V k K) (g:Kp w w'):Fs w' b V k K:=by
  obtain ⟨ws,h1,h2,h3⟩:=h;exact ⟨ws,h1,h2.kp g,h3⟩
theorem Fs.kb {w w':World} {b c:Nat} {V:Int} {k K:Nat} (h:Fs w b V k K) (g:Kb c w w') (hne:b≠c):Fs w' b V k K:=by
  obtain ⟨ws,h1,h2,h3⟩:=h;exact ⟨ws,h1,h2.kb g hne,h3⟩
theorem grS0 (k:Nat) (h:k≤4611686018427387904):grS k (jn 0 0) = 0:=by unfold grS jn;rw [if_neg (by omega)];rfl
theorem Fs.grow (k:Nat) (V T:Int) (K:Nat) (h1:V.natAbs≤k * tb K) (h2:T.natAbs≤tb K):(V + T).natAbs≤(k + 1) * tb K:=by
  rw [Nat.add_mul,Nat.one_mul]
  generalize k * tb K = P at *
  generalize tb K = Q at *
  omega

theorem maskN (a:Nat) (ha:a < 18446744073709551616):bits .and .u64 (a:Int) 4294967295 = ((a % 4294967296:Nat):Int):=by
  have h:=bits_and_u64_nat a 4294967295 ha (by omega)
  have e:a &&& 4294967295 = a % 4294967296:=Nat.and_two_pow_sub_one_eq_mod a 32
  rw [e] at h
  exact h
theorem divN (a:Nat):(a:Int) / 4294967296 = ((a / 4294967296:Nat):Int):=by omega
theorem mulNN (a b:Nat):(a:Int) * (b:Int) = ((a * b:Nat):Int):=(Int.natCast_mul a b).symm
theorem addNN (a b:Nat):(a:Int) + (b:Int) = ((a + b:Nat):Int):=(Int.natCast_add a b).symm
theorem wrapN (a:Nat) (ha:a < 18446744073709551616):IntKind.u64.wrap (a:Int) = (a:Int):=by rw [IntKind.wrap_u64];omega
theorem wrapM (a:Nat):IntKind.u64.wrap (a:Int) = ((a % 18446744073709551616:Nat):Int):=by rw [IntKind.wrap_u64];omega
theorem mul64_ (x y:Nat) (hx:x < 18446744073709551616) (hy:y < 18446744073709551616) (w:World) :
    Calls Tryz.prog 40 #[.int .u64 x,.int .u64 y] w fun e w'=>e = .returned (.tuple #[.int .u64 ((x * y / 18446744073709551616:Nat):Int),.int .u64 ((x * y % 18446744073709551616:Nat):Int)])∧w' = w:=by
  obtain ⟨bd,bt,bw,hhi⟩:=Lib.mul64_hi x y hx hy
  have ba:=Lib.half_mul_le (a:=x / 4294967296) (b:=y / 4294967296) (by omega) (by omega)
  have bb:=Lib.half_mul_le (a:=x / 4294967296) (b:=y % 4294967296) (by omega) (by omega)
  have bc:=Lib.half_mul_le (a:=x % 4294967296) (b:=y / 4294967296) (by omega) (by omega)
  have ba':x / 4294967296 * (y / 4294967296) < 18446744073709551616:=by omega
  have bb':x / 4294967296 * (y % 4294967296) < 18446744073709551616:=by omega
  have bc':x % 4294967296 * (y / 4294967296) < 18446744073709551616:=by omega
  have bh1:x / 4294967296 * (y / 4294967296) + (x / 4294967296 * (y % 4294967296) + x % 4294967296 * (y % 4294967296) / 4294967296) / 4294967296 < 18446744073709551616:=by omega
  have bh:x / 4294967296 * (y / 4294967296) + (x / 4294967296 * (y % 4294967296) + x % 4294967296 * (y % 4294967296) / 4294967296) / 4294967296 + ((x / 4294967296 * (y % 4294967296) + x % 4294967296 * (y % 4294967296) / 4294967296) % 4294967296 + x % 4294967296 * (y / 4294967296)) / 4294967296 < 18446744073709551616:=by omega
  go_enter Tryz.func40,Tryz.ntmps40
  go_wp2
  simp only [maskN x hx,maskN y hy,divN,mulNN,addNN,wrapN _ bd,wrapN _ bb',wrapN _ bt,maskN _ bt,wrapN _ bc',wrapN _ bw,wrapN _ ba',wrapN _ bh1,wrapN _ bh,wrapM (x * y)]
  rw [hhi]
  exact bodyPost_ret (v:=.tuple #[.int .u64 ((x * y / 18446744073709551616:Nat):Int),.int .u64 ((x * y % 18446744073709551616:Nat):Int)]) (by simp [results,Tryz.results40,go_sem]) rfl ⟨rfl,rfl⟩

theorem mul_val (n n':Bool) (m m':Nat) (hm:m < 9218868437227405312) (hm':m' < 9218868437227405312) (E:Nat) (hE:Fq.epD m + Fq.epD m' + 2148 = (E:Int)):sgI ((n && !(m == 0)) != (n' && !(m' == 0))) * (((Fq.sgD m * Fq.sgD m' / 18446744073709551616 * 18446744073709551616 + Fq.sgD m * Fq.sgD m' % 18446744073709551616) * 2 ^ E:Nat):Int) = Iv n m * Iv n' m':=by
  obtain ⟨v1,v2,v3,v4,v5⟩:=Fq.vlsgD m hm
  obtain ⟨u1,u2,u3,u4,u5⟩:=Fq.vlsgD m' hm'
  have v1:Fq.sgD m * 2 ^ (Fq.epD m + 1074).toNat = Fq.vV Ieee.double m:=v1
  have u1:Fq.sgD m' * 2 ^ (Fq.epD m' + 1074).toNat = Fq.vV Ieee.double m':=u1
  have e1:E = (Fq.epD m + 1074).toNat + (Fq.epD m' + 1074).toNat:=by omega
  rw [Nat.mul_comm (Fq.sgD m * Fq.sgD m' / 18446744073709551616),Nat.div_add_mod,e1,Nat.pow_add,show Fq.sgD m * Fq.sgD m' * (2 ^ (Fq.epD m + 1074).toNat * 2 ^ (Fq.epD m' + 1074).toNat) = (Fq.sgD m * 2 ^ (Fq.epD m + 1074).toNat) * (Fq.sgD m' * 2 ^ (Fq.epD m' + 1074).toNat) from Nat.mul_mul_mul_comm _ _ _ _,v1,u1]
  unfold Iv sgI
  by_cases z:m = 0
  · have z2:Fq.vV Ieee.double m = 0:=by rw [← v1,v3.1 z,Nat.zero_mul]
    rw [z2];simp
  · by_cases z':m' = 0
    · have z2:Fq.vV Ieee.double m' = 0:=by rw [← u1,u3.1 z',Nat.zero_mul]
      rw [z2];simp
    · rw [show (n && !(m == 0)) = n from by simp [z],show (n' && !(m' == 0)) = n' from by simp [z'],Int.natCast_mul]
      cases n <;> cases n' <;> simp [Int.neg_mul,Int.mul_neg]
theorem wrapS (a c:Int) (h1:-5000≤a) (h2:a≤5000) (h3:-5000≤c) (h4:c≤5000):wrap64 (a + c) = a + c:=by unfold wrap64;omega
theorem mul_ (n n':Bool) (m m':Nat) (hm:m < 9218868437227405312) (hm':m' < 9218868437227405312) (b:Nat) (ws:List Nat) (V:Int) (hV:Rep ws V) (k:Nat) (s:Int) (w:World) (hS:Sb w b ws k s):Calls Tryz.prog 11 #[.pointer (some ⟨b,0,none⟩),.float .f64 (Fq.wD n m),.float .f64 (Fq.wD n' m')] w fun e w'=>∃ ws':List Nat,(∃ v,e = .returned v)∧Sb w' b ws' ((k + 1) % 18446744073709551616) (grS ((k + 1) % 18446744073709551616) (jn s 0))∧Rep ws' (V + Iv n m * Iv n' m')∧Kb b w w':=by
  have hsp1:=Fq.split_d n m hm
  have hsp2:=Fq.split_d n' m' hm'
  obtain ⟨v1,v2,v3,v4,v5⟩:=Fq.vlsgD m hm
  obtain ⟨u1,u2,u3,u4,u5⟩:=Fq.vlsgD m' hm'
  obtain ⟨E,hE⟩:∃ E:Nat,Fq.epD m + Fq.epD m' + 2148 = (E:Int):=⟨(Fq.epD m + Fq.epD m' + 2148).toNat,by omega⟩
  have hval:=mul_val n n' m m' hm hm' E hE
  have hE2:E = E / 64 * 64 + E % 64:=by omega
  have hs1:=sg64 _ v2
  have hs2:=sg64 _ u2
  have hm64:=mul64_ (Fq.sgD m) (Fq.sgD m') hs1 hs2
  have hlt:Fq.sgD m * Fq.sgD m' / 18446744073709551616 < 18446744073709551616:=Nat.div_lt_of_lt_mul (Nat.mul_lt_mul'' hs1 hs2)
  have hly:=fun (w1:World) (h1:Bk w1 b (wc ws ++ #[.int .u64 (k:Int),.int .i64 s]) 41)=>lay_ ((n && !(m == 0)) != (n' && !(m' == 0))) (Fq.sgD m * Fq.sgD m' / 18446744073709551616) (Fq.sgD m * Fq.sgD m' % 18446744073709551616) (E / 64) (E % 64) (Fq.epD m + Fq.epD m') hlt (Nat.mod_lt _ (by decide)) (by rw [hE,← hE2]) (Nat.mod_lt _ (by decide)) (by omega) b ws _ _ V hV w1 h1
  rw [← hE2,hval] at hly
  have hwr:=wrapS (Fq.epD m) (Fq.epD m') (by omega) (by omega) (by omega) (by omega)
  have hwr2:IntKind.i64.wrap (Fq.epD m + Fq.epD m') = Fq.epD m + Fq.epD m':=by rw [IntWalk.i64_left];exact hwr
  have hgr:=fun (w2:World) (us:List Nat) (h2:Sb w2 b us k s)=>grow_ b us k 1 s 0 w2 h2
  have kA:Kb b w w:=Kb.refl _ _
  obtain ⟨X1,hX1⟩:∃ X1,X1 = Fq.wD n m:=⟨_,rfl⟩
  obtain ⟨X2,hX2⟩:∃ X2,X2 = Fq.wD n' m':=⟨_,rfl⟩
  rw [← hX1] at hsp1 ⊢
  rw [← hX2] at hsp2 ⊢
  generalize Fq.sgD m * Fq.sgD m' / 18446744073709551616 = ph at *
  generalize Fq.sgD m * Fq.sgD m' % 18446744073709551616 = pl at *
  generalize Fq.sgD m = sg1 at *
  generalize Fq.sgD m' = sg2 at *
  generalize Fq.epD m = ep1 at *
  generalize Fq.epD m' = ep2 at *
  generalize (n && !(m == 0)) = ng1 at *
  generalize (n' && !(m' == 0)) = ng2 at *
  clear hval hE2 hE v1 v2 v3 v4 v5 u1 u2 u3 u4 u5 hlt hs1 hs2 hX1 hX2 hV
  go_enter Tryz.func11,Tryz.ntmps11
  go_wp2_with (first | (go_at_call_of 29 (Value.float FloatKind.f64 X1);refine (hsp1 _).mono ?_;rintro e w1 ⟨rfl,g1⟩;replace hS:=hS.kp g1;replace kA:=kA.trans (Kb.of (g:=b) g1)) | (go_at_call_of 29 (Value.float FloatKind.f64 X2);refine (hsp2 _).mono ?_;rintro e w2 ⟨rfl,g2⟩;replace hS:=hS.kp g2;replace kA:=kA.trans (Kb.of (g:=b) g2)) | (go_at_call 40;refine (hm64 _).mono ?_;rintro e w' ⟨rfl,hw'⟩;obtain rfl:=hw'.symm;clear hw';have hly:=hly _ hS.2) | (go_at_call 30;refine hly.mono ?_;rintro e w3 ⟨us,⟨v9,rfl⟩,hB,hR,k2⟩;have hgr:=hgr w3 us ⟨hR.1,hB⟩) | (go_at_call 31;refine hgr.mono ?_;rintro e w4 ⟨⟨v8,rfl⟩,hZ,k3⟩))
  exact bodyPost_end (v:=.tuple #[]) (by kernel_rfl) rfl (by first | exact ⟨⟨_,rfl⟩,us,hZ,hR,(kA.trans k2).trans k3⟩ | exact ⟨us,⟨_,rfl⟩,hZ,hR,(kA.trans k2).trans k3⟩)
theorem overF_ (d:Int) (hd1:-9223372036854775808≤d) (hd2:d < 9223372036854775808) (N:Nat) (hN:1≤N) (hN2:N < 9223372036854775808) (b:Nat) (ws:List Nat) (V:Int) (hV:Rep ws V) (hb:V.natAbs < wh) (k:Nat) (w:World) (hS:Sb w b ws k 0) (hQ:Fq.Tab w):Calls Tryz.prog 20 #[.pointer (some ⟨b,0,none⟩),.int .i64 d,.int .i64 (N:Int)] w fun e w'=>e = .returned (.float .f64 (ratW d (decide (V < 0)) V.natAbs N (-2148)))∧Kp w w':=by
  have hnt:∀ w:World,Calls Tryz.prog 49 #[.agg (wc ws)] w fun e w'=>∃ (v:Value) (xs:List Int),e = .returned (.tuple #[.bool (decide (V < 0)),v])∧Own w' w.heap.size v xs∧Wd xs∧xs.length = 134∧val xs = V.natAbs∧Kp w w':=fun w=>by
    by_cases c:V < 0
    · rw [decide_eq_true c];exact natN_ ws V hV hb c w
    · rw [decide_eq_false c];exact natP_ ws V hV hb c w
  have hsm:=nsmall_ N (by omega)
  have hrt:∀ (w1:World) (v:Value) (xs:List Int),Own w1 w.heap.size v xs→Wd xs→xs.length = 134→val xs = V.natAbs→Kp w w1→∃ (p:Option Addr) (c:Nat),v = .slice p 134 c∧∀ (w2:World) (v2:Value),Own w2 w1.heap.size v2 (dig N)→Kp w1 w2→∃ (p2:Option Addr) (l2 c2:Nat),v2 = .slice p2 l2 c2∧Calls Tryz.prog 54 #[.int .i64 d,.bool (decide (V < 0)),.slice p 134 c,.slice p2 l2 c2,.int .i64 (-2148)] w2 fun e w'=>e = .returned (.float .f64 (ratW d (decide (V < 0)) V.natAbs N (-2148)))∧Kp w2 w':=by
    intro w1 v xs ho hw hl hv g
    obtain ⟨p,c,rfl,hx,hc⟩:=ho.arr
    refine ⟨p,c,by rw [hl],fun w2 v2 ho2 g2=>?_⟩
    obtain ⟨p2,c2,rfl,hy,hd⟩:=ho2.arr
    refine ⟨p2,_,c2,rfl, ?_⟩
    have hNl:(dig N).length≤1048576:=by
      refine Nat.le_trans (m:=2) ?_ (by decide)
      show len32 N≤2
      apply Classical.byContradiction
      intro h
      have:=len32_lt N 2 (by omega)
      rw [show (4294967296:Nat) ^ 2 = 18446744073709551616 from rfl] at this
      omega
    have:=prat_ d (decide (V < 0)) p p2 c c2 xs (dig N) (-2148) w2 (Fq.Tab.grown hQ (g.trans g2)) hd1 hd2 (hx.grown g2) hy hw (Wd_dig N) (by omega) hNl hc hd
    rw [hl,hv,val_dig] at this
    exact this
  have c1:=hS.state
  have hld:=loadS hS
  generalize ratW d (decide (V < 0)) V.natAbs N (-2148) = R at *
  generalize decide (V < 0) = ng at *
  have t1:¬ ((N:Int) < 1):=by omega
  have t2:IntKind.u64.wrap (N:Int) = (N:Int):=by rw [IntKind.wrap_u64];omega
  clear hV hb hQ hd1 hd2 hN hN2
  go_enter Tryz.func20,Tryz.ntmps20
  go_upto_region 5 with fail
  refine wp_region_list ?_
  refine wpl_val rfl _ rfl ?_
  refine wpl_val rfl _ rfl ?_
  refine wpl_field rfl _ _ _ rfl _ _ rfl (fa0 b _) ?_
  refine wpl_load rfl 39 _ rfl b 0 rfl _ hld ?_
  go_wp2_with (first | (go_at_call 49;refine (hnt _).mono ?_;rintro e w1 ⟨v,xs,rfl,ho,hwx,hxl,hvx,g1⟩;have hsm:=hsm w1;have hrt:=hrt w1 v xs ho hwx hxl hvx g1;obtain ⟨p,c,rfl,hrt⟩:=hrt;clear hxl hvx hwx ho) | (go_at_call 55;refine hsm.mono ?_;rintro e w2 ⟨v2,rfl,ho2,g2⟩;have hrt:=hrt w2 v2 ho2 g2;obtain ⟨p2,l2,c2,rfl,hrt⟩:=hrt;clear ho2) | (go_at_call 54;refine hrt.mono ?_;rintro e w3 ⟨rfl,g3⟩))
  exact bodyPost_ret (v:=.float .f64 R) (by simp [results,Tryz.results20,go_sem]) rfl ⟨rfl,(g1.trans g2).trans g3⟩
theorem fadd_ (n:Bool) (m:Nat) (hm:m < 9218868437227405312) (K:Nat) (hK:K = 1074) (b:Nat) (V:Int) (k:Nat) (hk:k < 4611686018427387904) (w:World) (h:Fs w b V k K):Calls Tryz.prog 8 #[.pointer (some ⟨b,0,none⟩),.float .f64 (Fq.wD n m)] w fun e w'=>(∃ v,e = .returned v)∧Fs w' b (V + tV n m K) (k + 1) K∧Kb b w w':=by
  obtain ⟨ws,h1,h2,h3,h4⟩:=h
  refine (add_ n m K hK hm b ws V h1 k 0 w h2).mono ?_
  rintro e w' ⟨us,hv,hS,hR,g⟩
  rw [show (k + 1) % 18446744073709551616 = k + 1 from Nat.mod_eq_of_lt (by omega),grS0 (k + 1) (by omega)] at hS
  exact ⟨hv,⟨us,hR,hS,by omega,Fs.grow k V _ K h4 (tV_le n m K hK hm)⟩,g⟩
theorem fmul_ (n n':Bool) (m m':Nat) (hm:m < 9218868437227405312) (hm':m' < 9218868437227405312) (K:Nat) (hK:K = 1074) (b:Nat) (V:Int) (k:Nat) (hk:k < 4611686018427387904) (w:World) (h:Fs w b V k K):Calls Tryz.prog 11 #[.pointer (some ⟨b,0,none⟩),.float .f64 (Fq.wD n m),.float .f64 (Fq.wD n' m')] w fun e w'=>(∃ v,e = .returned v)∧Fs w' b (V + Iv n m * Iv n' m') (k + 1) K∧Kb b w w':=by
  obtain ⟨ws,h1,h2,h3,h4⟩:=h
  refine (mul_ n n' m m' hm hm' b ws V h1 k 0 w h2).mono ?_
  rintro e w' ⟨us,hv,hS,hR,g⟩
  rw [show (k + 1) % 18446744073709551616 = k + 1 from Nat.mod_eq_of_lt (by omega),grS0 (k + 1) (by omega)] at hS
  exact ⟨hv,⟨us,hR,hS,by omega,Fs.grow k V _ K h4 (pV_le n n' m m' K hK hm hm')⟩,g⟩

theorem fround_ (d:Int) (hd1:-9223372036854775808≤d) (hd2:d < 9223372036854775808) (K:Nat) (hK:K = 1074) (b:Nat) (V:Int) (k:Nat) (w:World) (h:Fs w b V k K) (hT:Tab w) (hQ:Fq.Tab w):Calls Tryz.prog 18 #[.pointer (some ⟨b,0,none⟩),.int .i64 d] w fun e w'=>e = .returned (.float .f64 (fmaW d V))∧Kp w w':=by
  obtain ⟨ws,h1,h2,h3,h4⟩:=h
  exact roundF_ d hd1 hd2 b ws V h1 (Nat.lt_of_le_of_lt h4 (tb_wh K k hK h3)) k w h2 hT hQ
theorem fover_ (d:Int) (hd1:-9223372036854775808≤d) (hd2:d < 9223372036854775808) (N:Nat) (hN:1≤N) (hN2:N < 9223372036854775808) (K:Nat) (hK:K = 1074) (b:Nat) (V:Int) (k:Nat) (w:World) (h:Fs w b V k K) (hQ:Fq.Tab w):Calls Tryz.prog 20 #[.pointer (some ⟨b,0,none⟩),.int .i64 d,.int .i64 (N:Int)] w fun e w'=>e = .returned (.float .f64 (ratW d (decide (V < 0)) V.natAbs N (-2148)))∧Kp w w':=by
  obtain ⟨ws,h1,h2,h3,h4⟩:=h
  exact overF_ d hd1 hd2 N hN hN2 b ws V h1 (Nat.lt_of_le_of_lt h4 (tb_wh K k hK h3)) k w h2 hQ
theorem fsign_ (K:Nat) (hK:K = 1074) (b:Nat) (V:Int) (k:Nat) (w:World) (h:Fs w b V k K):Calls Tryz.prog 24 #[.pointer (some ⟨b,0,none⟩)] w fun e w'=>e = .returned (.int .i64 (sgV V))∧Kp w w':=by
  obtain ⟨ws,h1,h2,h3,h4⟩:=h
  exact signF_ b ws V h1 (Nat.lt_of_le_of_lt h4 (tb_wh K k hK h3)) k w h2
theorem fstate_ (K:Nat) (b:Nat) (V:Int) (k:Nat) (w:World) (h:Fs w b V k K):Calls Tryz.prog 26 #[.pointer (some ⟨b,0,none⟩)] w fun e w'=>e = .returned (.int .i64 0)∧w' = w:=by
  obtain ⟨ws,h1,h2,h3,h4⟩:=h
  exact state_ b ws k 0 w h2
theorem fnew_ (K:Nat) (w:World):Calls Tryz.prog 4 #[] w fun e w'=>e = .returned (.pointer (some ⟨w.heap.size,0,none⟩))∧Fs w' w.heap.size 0 0 K∧Kp w w':=by
  refine (new_ w).mono ?_
  rintro e w' ⟨rfl,hS,g⟩
  exact ⟨rfl,⟨_,Rep.zero,hS,by decide,by simp⟩,g⟩
end Go.Proofs.YtfhcmabejagknaaGreatDoor
