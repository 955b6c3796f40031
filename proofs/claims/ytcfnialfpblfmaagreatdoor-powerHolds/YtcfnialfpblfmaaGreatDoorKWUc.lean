import Derived.Test.YtcfnialfpblfmaaGreatDoorKNPw
namespace Go.Proofs.YtcfnialfpblfmaaGreatDoor
open Go.RowKit
set_option linter.unusedVariables false
theorem ipow_mono (a b:Int) (k:Nat) (h0:0≤a) (h:a≤b):a ^ k≤b ^ k∧0≤a ^ k:=by
 induction k with
 | zero=>simp
 | succ j ih =>
   rw [Int.pow_succ,Int.pow_succ]
   refine ⟨?_,Int.mul_nonneg ih.2 h0⟩
   exact Int.mul_le_mul ih.1 h h0 (by have:=(ih.1);have:=ih.2;omega)
theorem ipow_neg (a:Int) (k:Nat):(-a) ^ k=if k % 2=1 then -(a ^ k) else a ^ k:=by
 induction k with
 | zero=>simp
 | succ j ih =>
   rw [Int.pow_succ,Int.pow_succ,ih]
   by_cases c:j % 2=1
   ·rw [if_pos c,if_neg (by omega)];simp [Int.mul_neg,Int.neg_mul]
   ·rw [if_neg c,if_pos (by omega)];simp [Int.mul_neg]
theorem ipow_odd (a b:Int) (k:Nat) (hk:k % 2=1) (h:a≤b):a ^ k≤b ^ k:=by
 rcases Int.lt_or_le a 0 with ca | ca
 ·have e:=ipow_neg (-a) k
  rw [Int.neg_neg,if_pos hk] at e
  rcases Int.lt_or_le b 0 with cb | cb
  ·have e2:=ipow_neg (-b) k
   rw [Int.neg_neg,if_pos hk] at e2
   have:=(ipow_mono (-b) (-a) k (by omega) (by omega)).1
   omega
  ·have h1:=(ipow_mono (-a) (-a) k (by omega) (by omega)).2
   have h2:=(ipow_mono b b k cb (by omega)).2
   omega
 ·exact (ipow_mono a b k ca h).1
theorem pU_mono (K:Nat) (d:Int) (k:Nat) (hk:0<k) (x y:Int) (hx:BdZ x) (hy:BdZ y) (ho:k % 2=1∨0≤x) (h:x≤y):pU K d k x≤pU K d k y:=by
 have gx:=g53_le d 1 (2 ^ (K*(k - 1))) (vZ x ^ k)
 have gy:=g53_le d 1 (2 ^ (K*(k - 1))) (vZ y ^ k)
 unfold BdZ at hx hy
 unfold pU
 by_cases c1:y=9218868437227405312
 ·rw [if_pos c1]
  by_cases c2:x=9218868437227405312
  ·rw [if_pos c2];omega
  rw [if_neg c2]
  by_cases c3:x = -9218868437227405312
  ·rw [if_pos c3];split <;> omega
  rw [if_neg c3];exact gx.2
 rw [if_neg c1,if_neg (show ¬ x=9218868437227405312 by omega)]
 by_cases c3:x = -9218868437227405312
 ·have hk1:k % 2=1:=by rcases ho with h | h <;> omega
  rw [if_pos c3,if_pos hk1]
  by_cases c4:y = -9218868437227405312
  ·rw [if_pos c4];omega
  ·rw [if_neg c4];exact gy.1
 rw [if_neg c3,if_neg (show ¬ y = -9218868437227405312 by omega)]
 apply g53_mono _ _ _ (Nat.two_pow_pos _)
 have hv:=(vZ_iff x y).2 h
 rcases ho with ho | ho
 ·exact ipow_odd _ _ k ho hv
 ·have h0:0≤vZ x:=by have:=(vZ_iff 0 x).2 ho;rw [vZ_0] at this;exact this
  exact (ipow_mono _ _ k h0 hv).1
theorem pU_dn (K:Nat) (k:Nat) (z:Int):pU K (-1) k z≤pU K 1 k z:=by
 unfold pU
 by_cases c1:z=9218868437227405312
 ·rw [if_pos c1,if_pos c1];omega
 rw [if_neg c1,if_neg c1]
 by_cases c2:z = -9218868437227405312
 ·rw [if_pos c2,if_pos c2];omega
 rw [if_neg c2,if_neg c2]
 exact (g53_lohi _ _ (Nat.two_pow_pos _) _).1
theorem pU_lt (K:Nat) (k:Nat) (z:Int) (h:z≠9218868437227405312∧(k % 2=1∨z≠-9218868437227405312)):pU K (-1) k z<9218868437227405312:=by
 unfold pU
 rw [if_neg h.1]
 by_cases c2:z = -9218868437227405312
 ·rw [if_pos c2];split <;> omega
 rw [if_neg c2]
 exact (g53_lohi _ _ (Nat.two_pow_pos _) _).2.1
theorem pU_gt (K:Nat) (k:Nat) (z:Int) (h:z≠-9218868437227405312):-9218868437227405312<pU K 1 k z:=by
 unfold pU
 by_cases c1:z=9218868437227405312
 ·rw [if_pos c1];omega
 rw [if_neg c1,if_neg h]
 exact (g53_lohi _ _ (Nat.two_pow_pos _) _).2.2
theorem vV_pos7 (z:Int) (h:z≠0):0<(vZ z).natAbs:=by
 rcases Int.lt_or_le z 0 with c | c
 ·have:=vZ_lt7 z 0 c;rw [vZ_0] at this;omega
 ·have:=vZ_lt7 0 z (by omega);rw [vZ_0] at this;omega
theorem pD_anti (K:Nat) (d:Int) (k:Nat) (x y:Int) (hx:0≤x) (hy:BdZ y) (h:x≤y):pD K d k y≤pD K d k x:=by
 have gx:=g53_le d (2 ^ (K*(k+1))) ((vZ x).natAbs ^ k) 1
 have gy:=g53_le d (2 ^ (K*(k+1))) ((vZ y).natAbs ^ k) 1
 have nx:=g53_nn d (2 ^ (K*(k+1))) ((vZ x).natAbs ^ k) 1 (by decide)
 unfold BdZ at hy
 unfold pD
 rw [if_neg (show ¬ (x<0∧k % 2=1) by omega),if_neg (show ¬ (y<0∧k % 2=1) by omega)]
 by_cases c1:y=9218868437227405312∨y = -9218868437227405312
 ·rw [if_pos c1]
  by_cases c2:x=9218868437227405312∨x = -9218868437227405312
  ·rw [if_pos c2];omega
  rw [if_neg c2]
  by_cases c3:x=0
  ·rw [if_pos c3];omega
  rw [if_neg c3];exact nx
 rw [if_neg c1,if_neg (show ¬ (x=9218868437227405312∨x = -9218868437227405312) by omega)]
 by_cases c3:x=0
 ·rw [if_pos c3]
  by_cases c4:y=0
  ·rw [if_pos c4];omega
  rw [if_neg c4];exact gy.2
 rw [if_neg c3,if_neg (show ¬ y=0 by omega)]
 have hv:=(vZ_iff x y).2 h
 have h0:0≤vZ x:=by have:=(vZ_iff 0 x).2 hx;rw [vZ_0] at this;exact this
 exact g53_anti d _ _ _ (Nat.pow_pos (vV_pos7 x c3)) (Nat.pow_le_pow_left (by omega) k) 1 (by decide)
theorem pD_dn (K:Nat) (k:Nat) (z:Int):pD K (-1) k z≤pD K 1 k z:=by
 unfold pD
 by_cases c1:z=9218868437227405312∨z = -9218868437227405312
 ·rw [if_pos c1,if_pos c1];omega
 rw [if_neg c1,if_neg c1]
 by_cases c2:z=0
 ·rw [if_pos c2,if_pos c2];omega
 rw [if_neg c2,if_neg c2]
 exact (g53_lohi _ _ (Nat.pow_pos (vV_pos7 z c2)) _).1
theorem pD_lt (K:Nat) (k:Nat) (z:Int) (h:z≠0):pD K (-1) k z<9218868437227405312:=by
 unfold pD
 by_cases c1:z=9218868437227405312∨z = -9218868437227405312
 ·rw [if_pos c1];omega
 rw [if_neg c1,if_neg h]
 exact (g53_lohi _ _ (Nat.pow_pos (vV_pos7 z h)) _).2.1
theorem pD_gt (K:Nat) (k:Nat) (z:Int):-9218868437227405312<pD K 1 k z:=by
 unfold pD
 by_cases c1:z=9218868437227405312∨z = -9218868437227405312
 ·rw [if_pos c1];omega
 rw [if_neg c1]
 by_cases c2:z=0
 ·rw [if_pos c2];omega
 rw [if_neg c2]
 exact (g53_lohi _ _ (Nat.pow_pos (vV_pos7 z c2)) _).2.2
theorem pD_nn (K:Nat) (d:Int) (k:Nat) (z:Int) (h:0≤z):0≤pD K d k z:=by
 unfold pD
 rw [if_neg (show ¬ (z<0∧k % 2=1) by omega)]
 by_cases c1:z=9218868437227405312∨z = -9218868437227405312
 ·rw [if_pos c1];omega
 rw [if_neg c1]
 by_cases c2:z=0
 ·rw [if_pos c2];omega
 rw [if_neg c2];exact g53_nn _ _ _ _ (by decide)
theorem pD_neg (K:Nat) (d:Int) (k:Nat) (hk:k % 2=1) (z:Int) (h:z≠0):pD K (-d) k (-z) = -(pD K d k z):=by
 unfold pD
 by_cases c1:z=9218868437227405312∨z = -9218868437227405312
 ·rw [if_pos c1,if_pos (by omega)];omega
 rw [if_neg c1,if_neg (show ¬ (-z=9218868437227405312∨-z = -9218868437227405312) by omega),if_neg h,if_neg (show ¬ -z=0 by omega),vZ_neg,Int.natAbs_neg]
 by_cases c2:z<0
 ·rw [if_neg (show ¬ (-z<0∧k % 2=1) by omega),if_pos ⟨c2,hk⟩]
  have g:=g53_neg d (2 ^ (K*(k+1))) ((vZ z).natAbs ^ k) (-1)
  rw [show -(-1:Int)=1 from rfl] at g
  exact g
 ·rw [if_pos ⟨by omega,hk⟩,if_neg (show ¬ (z<0∧k % 2=1) by omega)]
  exact g53_neg d (2 ^ (K*(k+1))) ((vZ z).natAbs ^ k) 1
theorem pD_anti2 (K:Nat) (d:Int) (k:Nat) (hk:k % 2=1) (x y:Int) (hx:BdZ x) (hy:y<0) (h:x≤y):pD K d k y≤pD K d k x:=by
 have a:=pD_anti K (-d) k (-y) (-x) (by omega) (by unfold BdZ at *;omega) (by omega)
 have e1:=pD_neg K d k hk x (by omega)
 have e2:=pD_neg K d k hk y (by omega)
 rw [e1,e2] at a
 omega
def nLo (K:Nat) (N L H:Int):Int:=if L=9218868437227405312 then 9218868437227405312 else if N < -1024∨1024<N then -9218868437227405312 else if N<0 then (if L=0∧H=0 then 9218868437227405312 else if N % 2=0 then pnZ K (-1) N (sMh L H) else if (L<0∧0<H)∨H=0 then -9218868437227405312 else pnZ K (-1) N H) else if N % 2=0 then pnZ K (-1) N (sMl L H) else pnZ K (-1) N L
def nHi (K:Nat) (N L H:Int):Int:=if L=9218868437227405312 then -9218868437227405312 else if N < -1024∨1024<N then 9218868437227405312 else if N<0 then (if L=0∧H=0 then -9218868437227405312 else if N % 2=0 then pnZ K 1 N (sMl L H) else if L<0∧0<H then 9218868437227405312 else pnZ K 1 N L) else if N % 2=0 then pnZ K 1 N (sMh L H) else pnZ K 1 N H
theorem n_all (K:Nat) (N L H L' H':Int) (d:VdZ L H) (d':VdZ L' H') (n:L≠9218868437227405312) (n':L'≠9218868437227405312) (h1:L'≤L) (h2:H≤H'):VdZ (nLo K N L H) (nHi K N L H)∧(nLo K N L H≠9218868437227405312→nLo K N L' H'≤nLo K N L H∧nHi K N L H≤nHi K N L' H'∧nLo K N L' H'≠9218868437227405312):=by
 have E:∀ d z,pnZ K d N z=if N=0 then 4607182418800017408 else if 0<N then pU K d N.natAbs z else pD K d N.natAbs z:=fun d z=>rfl
 have m1:0≤sMl L H∧sMl L H≤sMh L H∧sMl L' H'≤sMl L H∧sMh L H≤sMh L' H'∧sMl L H<9218868437227405312∧sMh L H≤9218868437227405312∧0≤sMl L' H'∧sMh L' H'≤9218868437227405312∧sMl L' H'≤sMh L' H'∧sMl L' H'<9218868437227405312∧(sMh L H=0 ↔ (L=0∧H=0)):=by
  unfold VdZ at d d'
  unfold sMl sMh
  by_cases c:L≤0∧0≤H
  ·rw [if_pos c,if_pos (by omega)];omega
  ·rw [if_neg c]
   by_cases c':L'≤0∧0≤H'
   ·rw [if_pos c'];omega
   ·rw [if_neg c'];omega
 have hL:BdZ L∧BdZ H∧BdZ L'∧BdZ H':=⟨d.lo,d.hi,d'.lo,d'.hi⟩
 have hd:L≤H∧L'≤H'∧-9218868437227405312<H∧L<9218868437227405312∧-9218868437227405312<H'∧L'<9218868437227405312:=by unfold VdZ at d d';omega
 unfold nLo nHi
 generalize sMl L H=a at *
 generalize sMh L H=b at *
 generalize sMl L' H'=a' at *
 generalize sMh L' H'=b' at *
 rw [if_neg n,if_neg n,if_neg n',if_neg n']
 by_cases c0:N < -1024∨1024<N
 ·rw [if_pos c0,if_pos c0,if_pos c0,if_pos c0];unfold VdZ;omega
 rw [if_neg c0,if_neg c0,if_neg c0,if_neg c0]
 obtain ⟨k,hk⟩:∃ k,k=N.natAbs:=⟨_,rfl⟩
 unfold VdZ BdZ at *
 by_cases c1:N<0
 ·rw [if_pos c1,if_pos c1,if_pos c1,if_pos c1]
  have E1:∀ d z,pnZ K d N z=pD K d k z:=fun d z=>by rw [E,if_neg (show ¬ N=0 by omega),if_neg (show ¬ 0<N by omega),hk]
  simp only [E1]
  by_cases z:L=0∧H=0
  ·rw [if_pos z,if_pos z]
   exact ⟨Or.inl ⟨rfl,rfl⟩,fun h=>absurd rfl h⟩
  rw [if_neg z,if_neg z]
  have z':¬ (L'=0∧H'=0):=by omega
  rw [if_neg z',if_neg z']
  by_cases c2:N % 2=0
  ·rw [if_pos c2,if_pos c2,if_pos c2,if_pos c2]
   have q1:=pD_lt K k b (by omega)
   have q2:=pD_gt K k a
   have q3:=pD_dn K k b
   have q4:=pD_anti K 1 k a b m1.1 (by unfold BdZ;omega) m1.2.1
   have q5:=pD_anti K (-1) k b b' (by omega) (by unfold BdZ;omega) m1.2.2.2.1
   have q6:=pD_anti K 1 k a' a (by omega) (by unfold BdZ;omega) m1.2.2.1
   have q7:=pD_nn K (-1) k b (by omega)
   have q8:=pD_nn K (-1) k b' (by omega)
   have q9:=pnZ_bd K 1 N a
   rw [E1] at q9
   unfold BdZ at q9
   exact ⟨Or.inr ⟨by omega,q1,q2,q9.2,by omega⟩,fun _=>⟨q5,q6,by omega⟩⟩
  rw [if_neg c2,if_neg c2,if_neg c2,if_neg c2]
  have ko:k % 2=1:=by omega
  by_cases s1:L<0∧0<H
  ·rw [if_pos (Or.inl s1),if_pos s1,if_pos (Or.inl (by omega)),if_pos (by omega)]
   exact ⟨Or.inr (by omega),fun _=>by omega⟩
  rw [if_neg s1]
  by_cases s2:H=0
  ·rw [if_pos (Or.inr s2)]
   have q1:=pD_gt K k L
   have q2:=pnZ_bd K 1 N L
   rw [E1] at q2
   unfold BdZ at q2
   refine ⟨Or.inr ⟨by omega,by omega,q1,q2.2,by omega⟩,fun _=>?_⟩
   by_cases s3:L'<0∧0<H'
   ·rw [if_pos (Or.inl s3),if_pos s3];omega
   ·rw [if_neg s3,if_pos (show (L'<0∧0<H')∨H'=0 by omega)]
    have q3:=pD_anti2 K 1 k ko L' L (by unfold BdZ;omega) (by omega) h1
    exact ⟨by omega,q3,by omega⟩
  rw [if_neg (show ¬ ((L<0∧0<H)∨H=0) by omega)]
  rcases Int.lt_or_le H 0 with s4 | s4
  ·have q1:=pD_lt K k H (by omega)
   have q2:=pD_gt K k L
   have q3:=pD_dn K k H
   have q4:=pD_anti2 K 1 k ko L H (by unfold BdZ;omega) s4 hd.1
   have q5:=pnZ_bd K (-1) N H
   have q6:=pnZ_bd K 1 N L
   rw [E1] at q5 q6
   unfold BdZ at q5 q6
   refine ⟨Or.inr ⟨q5.1,q1,q2,q6.2,by omega⟩,fun _=>?_⟩
   by_cases s3:L'<0∧0<H'
   ·rw [if_pos (Or.inl s3),if_pos s3];omega
   ·rw [if_neg s3]
    have q7:=pD_anti2 K 1 k ko L' L (by unfold BdZ;omega) (by omega) h1
    by_cases s5:H'=0
    ·rw [if_pos (show (L'<0∧0<H')∨H'=0 by omega)];omega
    ·rw [if_neg (show ¬ ((L'<0∧0<H')∨H'=0) by omega)]
     have q8:=pD_anti2 K (-1) k ko H H' (by unfold BdZ;omega) (by omega) h2
     have q9:=pD_lt K k H' (by omega)
     omega
  ·have hL0:0≤L:=by omega
   have q1:=pD_lt K k H (by omega)
   have q2:=pD_gt K k L
   have q3:=pD_dn K k H
   have q4:=pD_anti K 1 k L H hL0 (by unfold BdZ;omega) hd.1
   have q5:=pnZ_bd K (-1) N H
   have q6:=pnZ_bd K 1 N L
   rw [E1] at q5 q6
   unfold BdZ at q5 q6
   refine ⟨Or.inr ⟨q5.1,q1,q2,q6.2,by omega⟩,fun _=>?_⟩
   by_cases s3:L'<0∧0<H'
   ·rw [if_pos (Or.inl s3),if_pos s3];omega
   ·rw [if_neg s3,if_neg (show ¬ ((L'<0∧0<H')∨H'=0) by omega)]
    have q7:=pD_anti K 1 k L' L (by omega) (by unfold BdZ;omega) h1
    have q8:=pD_anti K (-1) k H H' (by omega) (by unfold BdZ;omega) h2
    have q9:=pD_lt K k H' (by omega)
    omega
 ·rw [if_neg c1,if_neg c1,if_neg c1,if_neg c1]
  by_cases cz:N=0
  ·have E0:∀ d z,pnZ K d N z=4607182418800017408:=fun d z=>by rw [E,if_pos cz]
   simp only [E0,ite_self];omega
  have E2:∀ d z,pnZ K d N z=pU K d k z:=fun d z=>by rw [E,if_neg cz,if_pos (show 0<N by omega),hk]
  simp only [E2]
  by_cases c2:N % 2=0
  ·rw [if_pos c2,if_pos c2,if_pos c2,if_pos c2]
   have q1:=pU_lt K k a (by omega)
   have q2:=pU_gt K k b (by omega)
   have q3:=pU_dn K k a
   have q4:=pU_mono K 1 k (by omega) a b (by unfold BdZ;omega) (by unfold BdZ;omega) (Or.inr m1.1) m1.2.1
   have q5:=pU_mono K (-1) k (by omega) a' a (by unfold BdZ;omega) (by unfold BdZ;omega) (Or.inr (by omega)) m1.2.2.1
   have q6:=pU_mono K 1 k (by omega) b b' (by unfold BdZ;omega) (by unfold BdZ;omega) (Or.inr (by omega)) m1.2.2.2.1
   have q7:=pnZ_bd K (-1) N a
   have q8:=pnZ_bd K 1 N b
   rw [E2] at q7 q8
   unfold BdZ at q7 q8
   have q9:=pU_lt K k a' (by omega)
   exact ⟨Or.inr ⟨q7.1,q1,q2,q8.2,by omega⟩,fun _=>⟨q5,q6,by omega⟩⟩
  ·rw [if_neg c2,if_neg c2,if_neg c2,if_neg c2]
   have ko:k % 2=1:=by omega
   have q1:=pU_lt K k L ⟨by omega,Or.inl ko⟩
   have q2:=pU_gt K k H (by omega)
   have q3:=pU_dn K k L
   have q4:=pU_mono K 1 k (by omega) L H (by unfold BdZ;omega) (by unfold BdZ;omega) (Or.inl ko) hd.1
   have q5:=pU_mono K (-1) k (by omega) L' L (by unfold BdZ;omega) (by unfold BdZ;omega) (Or.inl ko) h1
   have q6:=pU_mono K 1 k (by omega) H H' (by unfold BdZ;omega) (by unfold BdZ;omega) (Or.inl ko) h2
   have q7:=pnZ_bd K (-1) N L
   have q8:=pnZ_bd K 1 N H
   rw [E2] at q7 q8
   unfold BdZ at q7 q8
   have q9:=pU_lt K k L' ⟨by omega,Or.inl ko⟩
   exact ⟨Or.inr ⟨q7.1,q1,q2,q8.2,by omega⟩,fun _=>⟨q5,q6,by omega⟩⟩
set_option linter.unusedVariables false

theorem entire7_ (w:World):Calls Tryz.prog 48 #[] w fun e w'=>e=.returned (.agg #[.float .f64 18442240474082181120,.float .f64 9218868437227405312])∧Kp w w':=by
 refine (Fq.entire6_ w).mono ?_
 rintro e w' ⟨rfl,h⟩
 exact ⟨rfl,by first | exact h | (subst h;exact (Kp.refl w).alloc _)⟩
def TU7 (w:World):Prop:=Tab w∧Fq.Tab w
theorem TU7.kp {w w':World} (h:TU7 w) (g:Kp w w'):TU7 w':=⟨h.1.grown g,h.2.grown g⟩
theorem powersZ_ (K:Nat) (hK:K=1074) (x y N:Int) (hx:BdZ x) (hy:BdZ y) (h1:-1024≤N) (h2:N≤1024) (w:World) (hT:TU7 w):Calls Tryz.prog 50 #[.float .f64 (pw x),.float .f64 (pw y),.int .i64 N] w fun e w'=>e=.returned (.agg #[.float .f64 (pw (pnZ K (-1) N x)),.float .f64 (pw (pnZ K 1 N y))])∧Kp w w' :=
 powersA_ _ _ _ _ N (Or.inr trivial) w (fun W g=>powZ_ K hK (-1) x N hx h1 h2 (by omega) (by omega) W (hT.kp g).1 (hT.kp g).2) (fun W g=>powZ_ K hK 1 y N hy h1 h2 (by omega) (by omega) W (hT.kp g).1 (hT.kp g).2)
theorem sM_bd (L H:Int) (h1:BdZ L) (h2:BdZ H):BdZ (sMl L H)∧BdZ (sMh L H):=by
 unfold sMl sMh BdZ at *
 split <;> omega
theorem tmod2 (N:Int):(N.tmod 2 == 0)=decide (N % 2=0):=by
 rcases Int.lt_or_le N 0 with c | c
 ·have e:N.tmod 2 = -((-N).tmod 2):=by rw [Int.neg_tmod];omega
  have e2:(-N).tmod 2=(-N) % 2:=Int.tmod_eq_emod_of_nonneg (by omega)
  rw [e,e2]
  by_cases g:N % 2=0
  ·rw [decide_eq_true g];simp;omega
  ·rw [decide_eq_false g];simp;omega
 ·rw [Int.tmod_eq_emod_of_nonneg c]
  by_cases g:N % 2=0
  ·rw [decide_eq_true g];simp [g]
  ·rw [decide_eq_false g];simp [g]
theorem inv9_ (K:Nat) (hK:K=1074) (L H N:Int) (hd:VdZ L H) (n:L≠9218868437227405312) (h1:-1024≤N) (h2:N<0) (w:World) (hT:TU7 w):Calls Tryz.prog 49 #[.agg #[.float .f64 (pw L),.float .f64 (pw H)],.int .i64 N] w fun e w'=>e=.returned (.agg #[.float .f64 (pw (nLo K N L H)),.float .f64 (pw (nHi K N L H))])∧Kp w w':=by
 have b1:=hd.lo
 have b2:=hd.hi
 have bs:=sM_bd L H b1 b2
 have e1:=eq0_pw7 L b1
 have e2:=eq0_pw7 H b2
 have e3:=lt0_pw7 L b1
 have e4:=gt0_pw7 H b2
 have t:=tmod2 N
 unfold nLo nHi
 rw [if_neg n,if_neg n,if_neg (show ¬ (N < -1024∨1024<N) by omega),if_neg (show ¬ (N < -1024∨1024<N) by omega),if_pos h2,if_pos h2]
 by_cases z:L=0∧H=0
 ·rw [if_pos z,if_pos z,pw_I,pw_MI]
  rw [decide_eq_true z.1] at e1
  rw [decide_eq_true z.2] at e2
  exact invnZ_ _ _ N e1 e2 w (fun W g=>empty9_ W)
 rw [if_neg z,if_neg z]
 have tz:(decide (L=0) && decide (H=0))=false:=by
  by_cases a:L=0 <;> by_cases b:H=0 <;> simp [a,b]
  exact absurd ⟨a,b⟩ z
 by_cases g:N % 2=0
 ·rw [if_pos g,if_pos g]
  rw [decide_eq_true g] at t
  refine invnA_ _ _ N _ _ e1 e2 tz t (pw (sMl L H)) (pw (sMh L H)) _ _ w (fun W k=>?_) (fun W k=>powersZ_ K hK _ _ N bs.2 bs.1 h1 (by omega) W (hT.kp k))
  have h:=absP9_ _ _ L H (Rd.of hd) W
  unfold bsLo bsHi at h
  rw [if_neg n,if_neg n] at h
  exact h
 rw [if_neg g,if_neg g]
 rw [decide_eq_false g] at t
 by_cases s:L<0∧0<H
 ·rw [if_pos (Or.inl s),if_pos s,pw_I,pw_MI]
  rw [decide_eq_true s.1] at e3
  rw [decide_eq_true s.2] at e4
  exact invnS_ _ _ N _ _ e1 e2 tz t e3 e4 w (fun W k=>entire7_ W)
 have ty:(decide (L<0) && decide (0<H))=false:=by
  by_cases a:L<0 <;> by_cases b:0<H <;> simp [a,b] <;> omega
 rw [if_neg s]
 by_cases q:H=0
 ·rw [if_pos (Or.inr q),pw_MI]
  rw [decide_eq_true q] at e2
  rw [decide_eq_false (show ¬ L=0 by omega)] at e1
  exact invnH_ _ _ N e1 e2 t _ _ e3 e4 ty _ w (fun W k=>powZ_ K hK 1 L N b1 h1 (by omega) (by omega) (by omega) W (hT.kp k).1 (hT.kp k).2)
 ·rw [if_neg (show ¬ ((L<0∧0<H)∨H=0) by omega)]
  exact invnP_ _ _ N _ _ e1 e2 tz t _ _ e3 e4 ty (decide_eq_false q) _ _ w (fun W k=>powersZ_ K hK H L N b2 b1 h1 (by omega) W (hT.kp k))
theorem pown9_ (K:Nat) (hK:K=1074) (a b:Nat) (L H N:Int) (hx:Rd a b L H) (w:World) (hT:TU7 w):Calls Tryz.prog 11 #[.agg #[.float .f64 a,.float .f64 b],.int .i64 N] w fun e w'=>e=.returned (.agg #[.float .f64 (pw (nLo K N L H)),.float .f64 (pw (nHi K N L H))])∧Kp w w':=by
 have hd:=hx.vd
 have hv:=fun w=>voidP9_ L H hd w
 have bs:=sM_bd L H hd.lo hd.hi
 by_cases c:L=9218868437227405312
 ·have eH:H = -9218868437227405312:=by unfold VdZ at hd;omega
  rw [decide_eq_true c] at hv
  unfold nLo nHi
  rw [if_pos c,if_pos c]
  have h:=pownV_ a b _ _ N hx.call hv w
  rw [c,eH] at h
  exact h
 rw [decide_eq_false c] at hv
 by_cases c1:N < -1024
 ·unfold nLo nHi
  rw [if_neg c,if_neg c,if_pos (Or.inl c1),if_pos (Or.inl c1),pw_I,pw_MI]
  exact pownE1_ a b _ _ N hx.call hv c1 w (fun W k=>entire7_ W)
 by_cases c2:1024<N
 ·unfold nLo nHi
  rw [if_neg c,if_neg c,if_pos (Or.inr c2),if_pos (Or.inr c2),pw_I,pw_MI]
  exact pownE2_ a b _ _ N hx.call hv c1 c2 w (fun W k=>entire7_ W)
 by_cases c3:N<0
 ·exact pownI_ a b _ _ N hx.call hv c1 c2 c3 _ _ w (fun W k=>inv9_ K hK L H N hd c (by omega) c3 W (hT.kp k))
 unfold nLo nHi
 rw [if_neg c,if_neg c,if_neg (show ¬ (N < -1024∨1024<N) by omega),if_neg (show ¬ (N < -1024∨1024<N) by omega),if_neg c3,if_neg c3]
 by_cases g:N % 2=0
 ·rw [if_pos g,if_pos g]
  refine pownA_ a b _ _ N hx.call hv c1 c2 c3 (by simp [g]) (pw (sMl L H)) (pw (sMh L H)) _ _ w (fun W k=>?_) (fun W k=>powersZ_ K hK _ _ N bs.1 bs.2 (by omega) (by omega) W (hT.kp k))
  have h:=absP9_ _ _ L H (Rd.of hd) W
  unfold bsLo bsHi at h
  rw [if_neg c,if_neg c] at h
  exact h
 ·rw [if_neg g,if_neg g]
  exact pownO_ a b _ _ N hx.call hv c1 c2 c3 (by simp [g]) _ _ w (fun W k=>powersZ_ K hK L H N hd.lo hd.hi (by omega) (by omega) W (hT.kp k))
end Go.Proofs.YtcfnialfpblfmaaGreatDoor
