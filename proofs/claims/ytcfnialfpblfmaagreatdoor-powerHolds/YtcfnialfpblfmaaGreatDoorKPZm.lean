import Derived.Test.YtcfnialfpblfmaaGreatDoorKIMs
set_option maxHeartbeats 8000000
set_option maxRecDepth 20000
namespace Go.Proofs.YtcfnialfpblfmaaGreatDoor
open Go.RowKit
set_option linter.unusedVariables false

theorem ab_g2 (c C:Nat) (hC:0<C) (V:Int):Ab (V*(c:Int)) C (g53 (-1) c C V) (g53 1 c C V):=by
 have h:=g53_tight c C hC V vZ vZ_pos vZ_neg
 rcases h with ⟨h1,_,h3,h4,h5⟩ | ⟨h1,h2,h3,h4,h5,_⟩
 ·exact Or.inl ⟨h1,by omega,by omega,h5⟩
 ·exact Or.inr ⟨h1,by omega,by omega,h4,h5⟩
theorem ab_holds (V:Int) (C:Nat) (hC:0<C) (l h lo hi:Int) (ab:Ab V C l h) (h1:lo≤l) (h2:h≤hi) (b1:-9218868437227405312≤lo) (b2:hi≤9218868437227405312):(lo = -9218868437227405312∨vZ lo*(C:Int)≤V)∧(hi=9218868437227405312∨V≤vZ hi*(C:Int)):=by
 constructor
 ·rcases Int.lt_or_eq_of_le b1 with c | c
  ·right
   rcases ab with ⟨e1,e2,e3,e4⟩ | ⟨e1,e2,e3,e4,e5⟩
   ·rw [← e4];exact mulD _ hC _ _ ((vZ_iff _ _).2 h1)
   ·exact Int.le_of_lt (Int.lt_of_le_of_lt (mulD _ hC _ _ ((vZ_iff _ _).2 h1)) (e4 (by omega)))
  ·exact Or.inl c.symm
 ·rcases Int.lt_or_eq_of_le b2 with c | c
  ·right
   rcases ab with ⟨e1,e2,e3,e4⟩ | ⟨e1,e2,e3,e4,e5⟩
   ·rw [← e4,e1];exact mulD _ hC _ _ ((vZ_iff _ _).2 h2)
   ·exact Int.le_of_lt (Int.lt_of_lt_of_le (e5 (by omega)) (mulD _ hC _ _ ((vZ_iff _ _).2 h2)))
  ·exact Or.inl c
theorem ab_lt (V:Int) (C:Nat) (l h:Int) (ab:Ab V C l h):l<9218868437227405312∧-9218868437227405312<h:=by
 rcases ab with ⟨e1,e2,e3,e4⟩ | ⟨e1,e2,e3,e4,e5⟩ <;> omega
theorem vZ_n0 (z:Int) (h:z≠0):vZ z≠0:=by
 intro e
 have e0:vZ 0=0:=by decide
 rcases Int.lt_or_lt_of_ne h with c | c
 ·have:=vZ_lt7 z 0 c;omega
 ·have:=vZ_lt7 0 z c;omega
theorem sg_pow (k:Nat) (x:Int) (hx:x≠0):x ^ k=rvI (decide (x<0∧k % 2=1)) (x.natAbs ^ k):=by
 have e:∀ (x:Int) (k:Nat),(-x) ^ k=if k % 2=1 then -(x ^ k) else x ^ k:=by
  intro x k
  induction k with
  | zero=>simp
  | succ j ih =>
    rw [Int.pow_succ,Int.pow_succ,ih]
    by_cases c:j % 2=1
    ·rw [if_pos c,if_neg (by omega)];simp [Int.mul_neg,Int.neg_mul]
    ·rw [if_neg c,if_pos (by omega)];simp [Int.mul_neg]
 unfold rvI
 by_cases c:x<0
 ·have ex:x = -((x.natAbs:Nat):Int):=by omega
  by_cases o:k % 2=1
  ·rw [if_pos (decide_eq_true ⟨c,o⟩)]
   conv=>lhs;rw [ex,e,if_pos o]
   rw [Int.natCast_pow]
  ·rw [if_neg (by simp;intro _;omega)]
   conv=>lhs;rw [ex,e,if_neg o]
   rw [Int.natCast_pow]
 ·have ex:x=((x.natAbs:Nat):Int):=by omega
  rw [if_neg (by simp;omega)]
  conv=>lhs;rw [ex]
  rw [Int.natCast_pow]
theorem pos_holds (K:Nat) (hK:K=1074) (k:Nat) (hk2:k≤64) (L H z:Int) (d:VdZ L H) (nI:L≠9218868437227405312) (h:L≤z∧z≤H) (f:-9218868437227405312<z∧z<9218868437227405312):nLo K (k:Int) L H≠9218868437227405312∧(nLo K (k:Int) L H = -9218868437227405312∨vZ (nLo K (k:Int) L H)*(((2 ^ K) ^ k:Nat):Int)≤vZ z ^ k*((2 ^ K:Nat):Int))∧(nHi K (k:Int) L H=9218868437227405312∨vZ z ^ k*((2 ^ K:Nat):Int)≤vZ (nHi K (k:Int) L H)*(((2 ^ K) ^ k:Nat):Int)):=by
 have dz:VdZ z z:=Or.inr ⟨by omega,by omega,by omega,by omega,Int.le_refl _⟩
 have na:=n_all K (k:Int) z z L H dz d (by omega) nI h.1 h.2
 have vd:=(n_all K (k:Int) L H L H d d nI nI (Int.le_refl _) (Int.le_refl _)).1
 have b1:=vd.lo
 have b2:=vd.hi
 unfold BdZ at b1 b2
 have hP9:(0:Int)<((2 ^ K:Nat):Int):=by have:=Nat.two_pow_pos K;omega
 by_cases hk:0<k
 ·have tp:=tp_all K k hk (by omega) z z (Int.le_refl _) f.1 f.2 z ⟨Int.le_refl _,Int.le_refl _⟩
  have ab:=pU_ab K k z f
  have lt:=ab_lt _ _ _ _ ab
  obtain ⟨n1,n2,n3⟩:=na.2 (by omega)
  have hh:=ab_holds _ _ (Nat.two_pow_pos _) _ _ (nLo K (k:Int) L H) (nHi K (k:Int) L H) ab (by omega) (by omega) (by omega) (by omega)
  rw [ptC K k hk]
  refine ⟨n3, ?_, ?_⟩
  ·rcases hh.1 with c | c
   ·exact Or.inl c
   ·exact Or.inr (sc_le2 _ _ _ _ hP9 c)
  ·rcases hh.2 with c | c
   ·exact Or.inl c
   ·exact Or.inr (sc_le _ _ _ _ hP9 c)
 ·have k0:k=0:=by omega
  subst k0
  have e1:nLo K ((0:Nat):Int) z z=4607182418800017408:=by
   unfold nLo pnZ;rw [if_neg (by omega),if_neg (by omega),if_neg (by omega),if_pos (by omega),if_pos (by omega)]
  have e2:nHi K ((0:Nat):Int) z z=4607182418800017408:=by
   unfold nHi pnZ;rw [if_neg (by omega),if_neg (by omega),if_neg (by omega),if_pos (by omega),if_pos (by omega)]
  obtain ⟨n1,n2,n3⟩:=na.2 (by rw [e1];decide)
  rw [e1] at n1
  rw [e2] at n2
  have v1:=vZ_1 K hK
  have m1:=(vZ_iff _ _).2 n1
  have m2:=(vZ_iff _ _).2 n2
  rw [v1] at m1 m2
  refine ⟨n3,Or.inr ?_,Or.inr ?_⟩
  ·simp only [Nat.pow_zero,Int.pow_zero];omega
  ·simp only [Nat.pow_zero,Int.pow_zero];omega
theorem neg_one (K k:Nat) (hk:0<k) (hk2:k≤64) (z:Int) (f:-9218868437227405312<z∧z<9218868437227405312) (z0:z≠0):nLo K (-(k:Int)) z z=pD K (-1) k z∧nHi K (-(k:Int)) z z=pD K 1 k z:=by
 have pn:∀ d y,pnZ K d (-(k:Int)) y=pD K d k y:=fun d y=>by unfold pnZ;rw [if_neg (by omega),if_neg (by omega),show (-((k:Nat):Int)).natAbs=k by omega]
 have sl:sMl z z=(z.natAbs:Int):=by unfold sMl;split <;> omega
 have sh:sMh z z=(z.natAbs:Int):=by unfold sMh;omega
 have ev:k % 2=0→∀ d,pD K d k (z.natAbs:Int)=pD K d k z:=fun e d=>by
  unfold pD
  have hv:(vZ ((z.natAbs:Nat):Int)).natAbs=(vZ z).natAbs:=by
   rcases Int.lt_or_le z 0 with c | c
   ·rw [show ((z.natAbs:Nat):Int) = -z by omega,vZ_neg];omega
   ·rw [show ((z.natAbs:Nat):Int)=z by omega]
  rw [if_neg (by omega),if_neg (by omega),if_neg (by omega),if_neg (by omega),if_neg (by omega),if_neg (by omega),hv]
 have a1:¬ z=9218868437227405312:=by omega
 have a2:¬ (-(k:Int) < -1024∨1024 < -(k:Int)):=by omega
 have a3:-(k:Int)<0:=by omega
 have a4:¬ (z=0∧z=0):=by omega
 have a5:¬ ((z<0∧0<z)∨z=0):=by omega
 have a6:¬ (z<0∧0<z):=by omega
 constructor
 ·unfold nLo
  rw [if_neg a1,if_neg a2,if_pos a3,if_neg a4]
  by_cases e:k % 2=0
  ·rw [if_pos (show -(k:Int) % 2=0 by omega),pn,sh,ev e]
  ·rw [if_neg (show ¬ -(k:Int) % 2=0 by omega),if_neg a5,pn]
 ·unfold nHi
  rw [if_neg a1,if_neg a2,if_pos a3,if_neg a4]
  by_cases e:k % 2=0
  ·rw [if_pos (show -(k:Int) % 2=0 by omega),pn,sl,ev e]
  ·rw [if_neg (show ¬ -(k:Int) % 2=0 by omega),if_neg a6,pn]
theorem neg_holds (K:Nat) (k:Nat) (hk:0<k) (hk2:k≤64) (L H z:Int) (d:VdZ L H) (nI:L≠9218868437227405312) (h:L≤z∧z≤H) (f:-9218868437227405312<z∧z<9218868437227405312) (z0:z≠0):nLo K (-(k:Int)) L H≠9218868437227405312∧(nLo K (-(k:Int)) L H = -9218868437227405312∨vZ (nLo K (-(k:Int)) L H)*(((1*(vZ z).natAbs ^ k:Nat):Nat):Int)≤(rvI (decide (vZ z<0∧k % 2=1)) 1*1*(((2 ^ K) ^ k:Nat):Int))*((2 ^ K:Nat):Int))∧(nHi K (-(k:Int)) L H=9218868437227405312∨(rvI (decide (vZ z<0∧k % 2=1)) 1*1*(((2 ^ K) ^ k:Nat):Int))*((2 ^ K:Nat):Int)≤vZ (nHi K (-(k:Int)) L H)*(((1*(vZ z).natAbs ^ k:Nat):Nat):Int)):=by
 have dz:VdZ z z:=Or.inr ⟨by omega,by omega,by omega,by omega,Int.le_refl _⟩
 have na:=n_all K (-(k:Int)) z z L H dz d (by omega) nI h.1 h.2
 have vd:=(n_all K (-(k:Int)) L H L H d d nI nI (Int.le_refl _) (Int.le_refl _)).1
 have b1:=vd.lo
 have b2:=vd.hi
 unfold BdZ at b1 b2
 obtain ⟨e1,e2⟩:=neg_one K k hk hk2 z f z0
 rw [e1,e2] at na
 have hv:=vZ_n0 z z0
 have hC:0<(vZ z).natAbs ^ k:=Nat.pow_pos (by omega)
 have sg:(if z<0∧k % 2=1 then (-1:Int) else 1)=rvI (decide (vZ z<0∧k % 2=1)) 1:=by
  have hz:z<0 ↔ vZ z<0:=by
   have e0:vZ 0=0:=by decide
   constructor
   ·intro c;have:=vZ_lt7 z 0 c;omega
   ·intro c
    rcases Int.lt_or_le z 0 with g | g
    ·exact g
    ·have:=(vZ_iff 0 z).2 g;omega
  unfold rvI
  by_cases c:z<0∧k % 2=1
  ·rw [if_pos c,if_pos (decide_eq_true ⟨hz.1 c.1,c.2⟩)];rfl
  ·rw [if_neg c,if_neg (by simp only [decide_eq_true_eq];exact fun g=>c ⟨hz.2 g.1,g.2⟩)];rfl
 have ab:Ab ((rvI (decide (vZ z<0∧k % 2=1)) 1)*((2 ^ (K*(k+1)):Nat):Int)) ((vZ z).natAbs ^ k) (pD K (-1) k z) (pD K 1 k z):=by
  have e:∀ d,pD K d k z=g53 d (2 ^ (K*(k+1))) ((vZ z).natAbs ^ k) (rvI (decide (vZ z<0∧k % 2=1)) 1):=fun d=>by
   unfold pD;rw [if_neg (by omega),if_neg z0,sg]
  rw [e,e]
  exact ab_g2 _ _ hC _
 have lt:=ab_lt _ _ _ _ ab
 obtain ⟨n1,n2,n3⟩:=na.2 (by omega)
 have hh:=ab_holds _ _ hC _ _ (nLo K (-(k:Int)) L H) (nHi K (-(k:Int)) L H) ab (by omega) (by omega) (by omega) (by omega)
 have ee:(rvI (decide (vZ z<0∧k % 2=1)) 1*1*(((2 ^ K) ^ k:Nat):Int))*((2 ^ K:Nat):Int)=(rvI (decide (vZ z<0∧k % 2=1)) 1)*((2 ^ (K*(k+1)):Nat):Int):=by
  have e9:2 ^ (K*(k+1))=(2 ^ K) ^ k*2 ^ K:=by rw [Nat.mul_succ,Nat.pow_add,Nat.pow_mul]
  rw [e9,Int.natCast_mul,Int.mul_one,Int.mul_assoc]
 rw [ee,Nat.one_mul]
 exact ⟨n3,hh.1,hh.2⟩
theorem pl_holds (K:Nat) (lo hi z:Int) (h1:lo≤z) (h2:z≤hi):(lo = -9218868437227405312∨vZ lo*((2 ^ K:Nat):Int)≤vZ z*((2 ^ K:Nat):Int))∧(hi=9218868437227405312∨vZ z*((2 ^ K:Nat):Int)≤vZ hi*((2 ^ K:Nat):Int)):=by
 exact ⟨Or.inr (mulD _ (Nat.two_pow_pos K) _ _ ((vZ_iff _ _).2 h1)),Or.inr (mulD _ (Nat.two_pow_pos K) _ _ ((vZ_iff _ _).2 h2))⟩
theorem st_all (K:Nat) (hK:K=1074) (k:Nat) (z:Int) (f:-9218868437227405312<z∧z<9218868437227405312):vZ (stZ K k z)=stV k (2 ^ K) (vZ z)∧-9218868437227405312<stZ K k z∧stZ K k z<9218868437227405312:=by
 by_cases c:k=0
 ·subst c
  have e0:vZ 0=0:=by decide
  have v1:=vZ_1 K hK
  unfold stZ stV
  rw [if_pos rfl,if_pos rfl]
  by_cases a:z<0
  ·have:=vZ_lt7 z 0 a
   rw [if_pos a,if_pos (by omega),vZ_neg,v1]
   exact ⟨rfl,by decide,by decide⟩
  ·rw [if_neg a]
   by_cases b:z=0
   ·subst b
    rw [if_pos rfl,if_neg (by omega),if_pos e0]
    exact ⟨e0,by decide,by decide⟩
   ·have:=vZ_lt7 0 z (by omega)
    rw [if_neg b,if_neg (by omega),if_neg (by omega),v1]
    exact ⟨rfl,by decide,by decide⟩
 ·exact stZ_val K hK k c z f
theorem cm_pos (K:Nat) (x y:Int):0<cmI (vZ x*((2 ^ K:Nat):Int)) (vZ y*((2 ^ K:Nat):Int)) ↔ y<x:=by
 constructor
 ·intro h
  rcases Int.lt_or_le y x with c | c
  ·exact c
  ·have:=mulD _ (Nat.two_pow_pos K) _ _ ((vZ_iff _ _).2 c)
   have:=(cmI_le0 _ _).2 this
   omega
 ·intro h
  exact cmI_gt0 _ _ (mulDl _ (Nat.two_pow_pos K) _ _ (vZ_lt7 _ _ h))
set_option linter.unusedVariables false
theorem bitZ_ (p:Option Addr) (c:Nat) (w:World):Calls Tryz.prog 74 #[.slice p 0 c,.int .i64 0] w fun e w'=>e=.returned (.int .u32 0)∧Kp w w':=by
 go_enter Tryz.func74,Tryz.ntmps74
 go_wp2
 exact BR (v:=.int .u32 0) (by simp [results,Tryz.results74,go_sem]) rfl ⟨rfl,Kp.refl _⟩
theorem bitX_ (p:Option Addr) (l c a:Nat) (w:World) (h:Ls w (.slice p l c) (dig a)) (ha:blen a≤400000):Calls Tryz.prog 74 #[.slice p l c,.int .i64 0] w fun e w'=>e=.returned (.int .u32 ((a % 2:Nat):Int))∧Kp w w':=by
 obtain ⟨p1,c1,e1,h1,h2⟩:=h
 simp at e1
 obtain ⟨rfl,rfl,rfl⟩:=e1
 by_cases z:a=0
 ·subst z
  rw [show (dig 0).length=0 by rw [dig_zero];rfl]
  exact bitZ_ _ _ w
 ·have hl:=dlen a 16384 (by omega)
  have hp:0<(dig a).length:=Nat.pos_of_ne_zero fun h=>z ((dig_len_zero a).1 h)
  refine (rbit_ p c 0 0 (dig a) w h1 (Wd_dig a) (by omega) hp (by decide)).mono ?_
  rintro e w' ⟨rfl,rfl⟩
  refine ⟨?_,Kp.refl _⟩
  rw [dig_pos a z]
  simp
  omega
theorem halfX_ (W:World):Calls Tryz.prog 66 #[.bool false,.slice (some ⟨W.heap.size,0,none⟩) 1 1,.slice (some ⟨W.heap.size+1,0,none⟩) 1 1,.int .i64 0] ((W.alloc (.cells #[.int .u32 1] 81)).alloc (.cells #[.int .u32 2] 81)) fun e w'=>∃ s3 p3 l3 c3 q3 k3 d3,e=.returned (.agg #[.bool s3,.slice p3 l3 c3,.slice q3 k3 d3])∧XP W.heap.size w' s3 p3 l3 c3 q3 k3 d3 1 2 20∧Kp ((W.alloc (.cells #[.int .u32 1] 81)).alloc (.cells #[.int .u32 2] 81)) w':=by
 obtain ⟨w1,hw1⟩:∃ w1,w1=W.alloc (.cells #[.int .u32 1] 81):=⟨_,rfl⟩
 obtain ⟨w2,hw2⟩:∃ w2,w2=w1.alloc (.cells #[.int .u32 2] 81):=⟨_,rfl⟩
 have sz:w1.heap.size=W.heap.size+1:=by rw [hw1];simp
 have k1:Kp W w1:=by rw [hw1];exact (Kp.refl _).alloc _
 have k2:Kp w1 w2:=by rw [hw2];exact (Kp.refl _).alloc _
 have d2:dig 2=[2]:=by rw [dig_pos 2 (by decide)];simp [dig_zero]
 have ar1:Ls w1 (.slice (some ⟨W.heap.size,0,none⟩) 1 1) (dig 1):=by
  rw [dig_one6,hw1];exact ⟨_,1,rfl,(row1 W 1).all rfl,by decide⟩
 have ar2:Ls w2 (.slice (some ⟨W.heap.size+1,0,none⟩) 1 1) (dig 2):=by
  rw [d2,hw2,← sz];exact ⟨_,1,rfl,(row1 w1 2).all rfl,by decide⟩
 rw [← hw1,← hw2]
 have h:=frac_ false _ _ (dig 1) (dig 2) 0 w2 (ar1.kp k2) ar2 (Wd_dig _) (Wd_dig _) (by rw [dig_one6];decide) (by rw [d2];decide) (by rw [val_dig];decide) (by decide)
 rw [val_dig,val_dig] at h
 refine h.mono ?_
 rintro e w5 ⟨vn,vd,a',b',ng',rfl,u1,u2,ff,k5⟩
 obtain ⟨pn,cn,rfl,an,ln⟩:=u1.arr
 obtain ⟨pd,cd,rfl,ad,ld⟩:=u2.arr
 refine ⟨ng',pn,_,cn,pd,_,cd,rfl, ?_,k5⟩
 have e:=frac_x 1 2 a' b' ng' false (by decide) ff.1 (fun h=>ff.2 h)
 have b1:=ff.1.2.2.2.1
 have b2:=ff.1.2.2.2.2
 have h1:blen 1=1:=blen_uniq 1 0 (by decide) (by decide)
 have h2:blen 2=2:=blen_uniq 2 1 (by decide) (by decide)
 have hs:=Below.size (Kp.trans k1 k2)
 refine ⟨a',b',u1.mono hs,u2.mono hs,ff.1.1,by decide, ?_,by simp at b1;omega,by simp at b2;omega⟩
 simpa [rvI] using e
def Wa (K:Nat) (Ki cm bt:Int):Prop:=(K=4∧Ki=4∧cm=1∧bt=0)∨(K=5∧Ki=5∧cm=1∧bt=0)∨(K=5∧Ki=5∧cm=0∧bt=0)∨(K=4∧Ki=4∧cm=1∧bt=1)∨(K=5∧Ki=5∧cm=1∧bt=1)∨(K=4∧Ki=4∧cm=0∧bt=1)∨(K=5∧Ki=5∧cm=0∧bt=1)
def Wn (K:Nat) (Ki cm bt:Int):Prop:=(K=4∧Ki=4∧cm = -1∧bt=0)∨(K=5∧Ki=5∧cm = -1∧bt=0)∨(K=4∧Ki=4∧cm=0∧bt=0)∨(K=4∧Ki=4∧cm = -1∧bt=1)∨(K=5∧Ki=5∧cm = -1∧bt=1)
set_option linter.unusedVariables false
theorem stNa_ (K:Nat) (Ki cm bt:Int) (hw:Wa K Ki cm bt) (sg:Int) (hsg:¬ sg<0) (ln:Int) (hln:bt=1→0<ln) s p l c q k d (P6 P7 P8 P9:World→Bool→Option Addr→Nat→Nat→Option Addr→Nat→Nat→Prop) (QS:World→World→Bool→Option Addr→Nat→Nat→Option Addr→Nat→Nat→Prop) (w:World) (hs:∀ W:World,Kp w W→Calls Tryz.prog 30 #[.agg #[.bool s,.slice p l c,.slice q k d]] W fun e w'=>e=.returned (.int .i64 sg)∧Kp W w') (hf:∀ W:World,Kp w W→w.heap.size+1<W.heap.size→RC 72 #[.agg #[.bool s,.slice p l c,.slice q k d]] W P6) (hsub:∀ (U W:World) s6 p6 l6 c6 q6 k6 d6,Kp w W→P6 U s6 p6 l6 c6 q6 k6 d6→Kp U W→RC 73 #[.agg #[.bool s,.slice p l c,.slice q k d],.agg #[.bool s6,.slice p6 l6 c6,.slice q6 k6 d6]] W P7) (hfr:∀ W:World,RC 66 #[.bool false,.slice (some ⟨W.heap.size,0,none⟩) 1 1,.slice (some ⟨W.heap.size+1,0,none⟩) 1 1,.int .i64 0] ((W.alloc (.cells #[.int .u32 1] 81)).alloc (.cells #[.int .u32 2] 81)) P8) (hcm:∀ (U W:World) s7 p7 l7 c7 q7 k7 d7 s8 p8 l8 c8 q8 k8 d8,P7 U s7 p7 l7 c7 q7 k7 d7→Kp U W→P8 W s8 p8 l8 c8 q8 k8 d8→Calls Tryz.prog 33 #[.agg #[.bool s7,.slice p7 l7 c7,.slice q7 k7 d7],.agg #[.bool s8,.slice p8 l8 c8,.slice q8 k8 d8]] W fun e w'=>e=.returned (.int .i64 cm)∧Kp W w') (hbi:∀ (U W:World) s6 p6 l6 c6 q6 k6 d6,P6 U s6 p6 l6 c6 q6 k6 d6→Kp U W→Calls Tryz.prog 74 #[.slice p6 l6 c6,.int .i64 0] W fun e w'=>e=.returned (.int .u32 bt)∧Kp W w') (hle:∀ (U W:World) s6 p6 l6 c6 q6 k6 d6,P6 U s6 p6 l6 c6 q6 k6 d6→Kp U W→Calls Tryz.prog 75 #[.slice p6 l6 c6] W fun e w'=>e=.returned (.int .i64 ln)∧Kp W w') (hin:∀ W:World,Kp w W→RC 32 #[.int .i64 1] W P9) (had:∀ (U W:World) s6 p6 l6 c6 q6 k6 d6 s9 p9 l9 c9 q9 k9 d9,P6 U s6 p6 l6 c6 q6 k6 d6→Kp U W→P9 W s9 p9 l9 c9 q9 k9 d9→RC 76 #[.agg #[.bool s6,.slice p6 l6 c6,.slice q6 k6 d6],.agg #[.bool s9,.slice p9 l9 c9,.slice q9 k9 d9]] W (QS W)):Calls Tryz.prog 37 #[.int .i64 Ki,.agg #[.bool s,.slice p l c,.slice q k d]] w fun e w'=>∃ (W W2:World) (b:Nat) (s3:Bool) (p3:Option Addr) (l3 c3:Nat) (q3:Option Addr) (k3 d3:Nat),e=.returned (.agg #[.bool s3,.slice p3 l3 c3,.slice q3 k3 d3])∧QS W W2 s3 p3 l3 c3 q3 k3 d3∧w'=((((((W2.setCell ⟨b,0,none⟩ (.bool s3)).setCell ⟨b,1,none⟩ (.slice p3 l3 c3)).setCell ⟨b,2,none⟩ (.slice q3 k3 d3)).setCell ⟨w.heap.size+1,0,none⟩ (.bool s3)).setCell ⟨w.heap.size+1,1,none⟩ (.slice p3 l3 c3)).setCell ⟨w.heap.size+1,2,none⟩ (.slice q3 k3 d3))∧w.heap.size+1<W.heap.size∧b<W.heap.size∧w.heap.size≤b∧Kp w W2:=by
 have q00:=H3c.new w (.bool s) (.slice p l c) (.slice q k d) 43
 have q0:=H3c.keep q00 ((Kp.refl _).alloc (.cells #[.bool false,.slice none 0 0,.slice none 0 0] 43))
 have t0:=H3c.new (w.alloc (.cells #[.bool s,.slice p l c,.slice q k d] 43)) (.bool false) (.slice none 0 0) (.slice none 0 0) 43
 rw [show (w.alloc (.cells #[.bool s,.slice p l c,.slice q k d] 43)).heap.size=w.heap.size+1 by simp] at t0
 have j0:Kp w ((w.alloc (.cells #[.bool s,.slice p l c,.slice q k d] 43)).alloc (.cells #[.bool false,.slice none 0 0,.slice none 0 0] 43)):=((Kp.refl w).alloc _).alloc _
 obtain ⟨x0,x1,x2,x3,x4,x5⟩:=id q0
 obtain ⟨y0,y1,y2,y3,y4,y5⟩:=id t0
 rcases hw with ⟨rfl,rfl,rfl,rfl⟩ | ⟨rfl,rfl,rfl,rfl⟩ | ⟨rfl,rfl,rfl,rfl⟩ | ⟨rfl,rfl,rfl,rfl⟩ | ⟨rfl,rfl,rfl,rfl⟩ | ⟨rfl,rfl,rfl,rfl⟩ | ⟨rfl,rfl,rfl,rfl⟩
 all_goals (try have hln:=hln rfl)
 all_goals (go_enter Tryz.func37,Tryz.ntmps37)
 all_goals (go_wp2_with (first | (go_at_call 75;refine (hle w2 _ s6 p6 l6 c6 q6 k6 d6 h6 i7).mono ?_;rintro e w7 ⟨rfl,g7⟩;have t7:=H3c.keep t7 g7;have z7:=H3c.keep z7 g7;have v7:=H3c.keep v7 g7;have j7:=Kp.trans j7 g7;have i7:=Kp.trans i7 g7;clear x0 x1 x2 x3 x4 x5;clear y0 y1 y2 y3 y4 y5;clear u0 u1 u2 u3 u4 u5;obtain ⟨x0,x1,x2,x3,x4,x5⟩:=id z7;obtain ⟨y0,y1,y2,y3,y4,y5⟩:=id t7;obtain ⟨u0,u1,u2,u3,u4,u5⟩:=id v7) | (go_at_call 74;refine (hbi w2 _ s6 p6 l6 c6 q6 k6 d6 h6 i5).mono ?_;rintro e w7 ⟨rfl,g7⟩;have t7:=H3c.keep t5 g7;have z7:=H3c.keep z5 g7;have v7:=H3c.keep v5 g7;have j7:=Kp.trans j5 g7;have i7:=Kp.trans i5 g7;clear x0 x1 x2 x3 x4 x5;clear y0 y1 y2 y3 y4 y5;clear u0 u1 u2 u3 u4 u5;obtain ⟨x0,x1,x2,x3,x4,x5⟩:=id z7;obtain ⟨y0,y1,y2,y3,y4,y5⟩:=id t7;obtain ⟨u0,u1,u2,u3,u4,u5⟩:=id v7) | (go_at_call 33;refine (hcm w3 _ s7 p7 l7 c7 q7 k7 d7 s8 p8 l8 c8 q8 k8 d8 h7 g4a h8).mono ?_;rintro e w5 ⟨rfl,g5⟩;have t5:=H3c.keep t4 g5;have z5:=H3c.keep z4 g5;have v5:=H3c.keep v4 g5;have j5:=Kp.trans j4 g5;have i5:=Kp.trans i4 g5;clear x0 x1 x2 x3 x4 x5;clear y0 y1 y2 y3 y4 y5;clear u0 u1 u2 u3 u4 u5;obtain ⟨x0,x1,x2,x3,x4,x5⟩:=id z5;obtain ⟨y0,y1,y2,y3,y4,y5⟩:=id t5;obtain ⟨u0,u1,u2,u3,u4,u5⟩:=id v5) | (go_at_call 66;refine (hfr w3).mono ?_;rintro e w4 ⟨s8,p8,l8,c8,q8,k8,d8,rfl,h8,g4⟩;have g4a:Kp w3 w4:=Kp.trans (((Kp.refl w3).alloc _).alloc _) g4;have t4:=H3c.keep t3 g4a;have z4:=H3c.keep z3 g4a;have v4:=H3c.keep v3 g4a;have j4:=Kp.trans j3 g4a;have i4:=Kp.trans i3 g4a;clear x0 x1 x2 x3 x4 x5;clear y0 y1 y2 y3 y4 y5;clear u0 u1 u2 u3 u4 u5;obtain ⟨x0,x1,x2,x3,x4,x5⟩:=id z4;obtain ⟨y0,y1,y2,y3,y4,y5⟩:=id t4;obtain ⟨u0,u1,u2,u3,u4,u5⟩:=id v4) | (go_at_call 73;refine (hsub w2 _ s6 p6 l6 c6 q6 k6 d6 j2 h6 i2).mono ?_;rintro e w3 ⟨s7,p7,l7,c7,q7,k7,d7,rfl,h7,g3⟩;have t3:=H3c.keep t2 g3;have z3:=H3c.keep z2 g3;have v3:=H3c.keep v2 g3;have j3:=Kp.trans j2 g3;have i3:=Kp.trans i2 g3;clear x0 x1 x2 x3 x4 x5;clear y0 y1 y2 y3 y4 y5;clear u0 u1 u2 u3 u4 u5;obtain ⟨x0,x1,x2,x3,x4,x5⟩:=id z3;obtain ⟨y0,y1,y2,y3,y4,y5⟩:=id t3;obtain ⟨u0,u1,u2,u3,u4,u5⟩:=id v3) | (go_at_call 72;refine (hf _ j1 (H3c.lt t1)).mono ?_;rintro e w2 ⟨s6,p6,l6,c6,q6,k6,d6,rfl,h6,g2⟩;have lt2:w.heap.size+1<w2.heap.size:=H3c.lt (H3c.keep t1 g2);have t2:=H3c.keep (H3c.keep t1 g2) ((Kp.refl w2).alloc (.cells #[.bool s6,.slice p6 l6 c6,.slice q6 k6 d6] 43));have z2:=H3c.keep (H3c.keep z1 g2) ((Kp.refl w2).alloc (.cells #[.bool s6,.slice p6 l6 c6,.slice q6 k6 d6] 43));have v2:=H3c.new w2 (.bool s6) (.slice p6 l6 c6) (.slice q6 k6 d6) 43;have j2:=Kp.trans (Kp.trans j1 g2) ((Kp.refl w2).alloc (.cells #[.bool s6,.slice p6 l6 c6,.slice q6 k6 d6] 43));have i2:=((Kp.refl w2).alloc (.cells #[.bool s6,.slice p6 l6 c6,.slice q6 k6 d6] 43));clear m0 m1 m2 m3 m4 m5;clear x0 x1 x2 x3 x4 x5;clear y0 y1 y2 y3 y4 y5;obtain ⟨x0,x1,x2,x3,x4,x5⟩:=id z2;obtain ⟨y0,y1,y2,y3,y4,y5⟩:=id t2;obtain ⟨u0,u1,u2,u3,u4,u5⟩:=id v2) | (go_at_call 30;refine (hs _ j0).mono ?_;rintro e w1 ⟨rfl,g1⟩;have q1w:=H3c.keep q0 g1;obtain ⟨m0,m1,m2,m3,m4,m5⟩:=id q1w;have ka:Kp w1 (w1.alloc (.cells #[.bool s,.slice p l c,.slice q k d] 43)):=(Kp.refl w1).alloc _;have t1:=H3c.keep (H3c.keep t0 g1) ka;have z1:=H3c.new w1 (.bool s) (.slice p l c) (.slice q k d) 43;have j1:=Kp.trans (Kp.trans j0 g1) ka;clear x0 x1 x2 x3 x4 x5;clear y0 y1 y2 y3 y4 y5;obtain ⟨x0,x1,x2,x3,x4,x5⟩:=id z1;obtain ⟨y0,y1,y2,y3,y4,y5⟩:=id t1)))
 all_goals (go_region_with (first | (go_at_call 76;refine (had w2 _ s6 p6 l6 c6 q6 k6 d6 s9 p9 l9 c9 q9 k9 d9 h6 i8 h9).mono ?_;rintro e w9 ⟨s3,p3,l3,c3,q3,k3,d3,rfl,h3,g9⟩;have t9:=H3c.keep t8 g9;have z9:=H3c.keep z8 g9;have v9:=H3c.keep v8 g9;have j9:=Kp.trans j8 g9;have i9:=Kp.trans i8 g9;clear x0 x1 x2 x3 x4 x5;clear y0 y1 y2 y3 y4 y5;clear u0 u1 u2 u3 u4 u5;obtain ⟨x0,x1,x2,x3,x4,x5⟩:=id z9;obtain ⟨y0,y1,y2,y3,y4,y5⟩:=id t9;obtain ⟨u0,u1,u2,u3,u4,u5⟩:=id v9;have hne:w2.heap.size≠w.heap.size+1:=(by omega);have vp:=H3c.put v9 (.bool s3) (.slice p3 l3 c3) (.slice q3 k3 d3);have tp:=(H3c.far1 (H3c.far1 (H3c.far1 t9 ⟨w2.heap.size,0,none⟩ hne (.bool s3)) ⟨w2.heap.size,1,none⟩ hne (.slice p3 l3 c3)) ⟨w2.heap.size,2,none⟩ hne (.slice q3 k3 d3));obtain ⟨m0,m1,m2,m3,m4,m5⟩:=id vp;obtain ⟨f0,f1,f2,f3,f4,f5⟩:=id tp) | (go_at_call 32;refine (hin _ j7.drew).mono ?_;rintro e w8 ⟨s9,p9,l9,c9,q9,k9,d9,rfl,h9,g8⟩;have g8a:Kp w7 w8:=Kp.trans (Kp.drew (Kp.refl _)) g8;have t8:=H3c.keep t7 g8a;have z8:=H3c.keep z7 g8a;have v8:=H3c.keep v7 g8a;have j8:=Kp.trans j7 g8a;have i8:=Kp.trans i7 g8a;clear x0 x1 x2 x3 x4 x5;clear y0 y1 y2 y3 y4 y5;clear u0 u1 u2 u3 u4 u5;obtain ⟨x0,x1,x2,x3,x4,x5⟩:=id z8;obtain ⟨y0,y1,y2,y3,y4,y5⟩:=id t8;obtain ⟨u0,u1,u2,u3,u4,u5⟩:=id v8)))
 all_goals go_wp2
 all_goals exact BR (v:=.agg #[.bool s3,.slice p3 l3 c3,.slice q3 k3 d3]) (by simp [results,Tryz.results37,go_sem,f0,f1,f2]) rfl ⟨_,w9,w2.heap.size,s3,p3,l3,c3,q3,k3,d3,rfl,h3,rfl,H3c.lt t8,H3c.lt v8,(by omega),j9⟩
set_option linter.unusedVariables false
theorem xpa_ (K:Nat) (Ki cm bt:Int) (hw:Wa K Ki cm bt) (V:Int) (C N:Nat) (hN:N≤20000) s p l c q k d (B1:Nat) (w:World) (h:XP B1 w s p l c q k d V C N) (ng:¬ V<0) (cc:cm = -1∧2*(V.natAbs % C)<C∨cm=0∧2*(V.natAbs % C)=C∨cm=1∧C<2*(V.natAbs % C)) (hb:((V.natAbs / C % 2:Nat):Int)=bt):Calls Tryz.prog 37 #[.int .i64 Ki,.agg #[.bool s,.slice p l c,.slice q k d]] w fun e w'=>∃ s3 p3 l3 c3 q3 k3 d3,e=.returned (.agg #[.bool s3,.slice p3 l3 c3,.slice q3 k3 d3])∧XP w.heap.size w' s3 p3 l3 c3 q3 k3 d3 (stV K C V) C (5*N+4000)∧Kp w w':=by
 have h0:K≠0:=by unfold Wa at hw;omega
 have h12:K≠1∧K≠2:=by unfold Wa at hw;omega
 have hc:C≠0:=by obtain ⟨a,b,-,-,hx⟩:=h;exact hx.2.1
 obtain ⟨A,rfl⟩:∃ A:Nat,V=(A:Int):=⟨V.toNat,by omega⟩
 have eN:(A:Int).natAbs=A:=by omega
 rw [eN] at cc hb
 have eQ:(A:Int) / (C:Int)=((A / C:Nat):Int):=rfl
 have eD:(A:Int)=(C:Int)*((A / C:Nat):Int)+((A % C:Nat):Int):=by rw [← Int.natCast_mul,← Int.natCast_add,Nat.div_add_mod]
 have eR:(A:Int)*((1:Nat):Int) - (A:Int) / (C:Int)*(C:Int)=((A % C:Nat):Int):=by
  rw [eQ,Int.mul_comm ((A / C:Nat):Int)]
  have e1:(A:Int)*((1:Nat):Int)=(A:Int):=by simp
  rw [e1];omega
 have hbm:bmp K false (A / C) (A % C) C=true:=by
  clear eR eD eQ
  rcases hw with ⟨rfl,-,rfl,rfl⟩ | ⟨rfl,-,rfl,rfl⟩ | ⟨rfl,-,rfl,rfl⟩ | ⟨rfl,-,rfl,rfl⟩ | ⟨rfl,-,rfl,rfl⟩ | ⟨rfl,-,rfl,rfl⟩ | ⟨rfl,-,rfl,rfl⟩ <;> (unfold bmp upw;simp <;> omega)
 have eS:stV K C (A:Int)=((A / C+1:Nat):Int)*(C:Int):=by
  unfold stV cutN
  rw [if_neg h0,if_neg (by omega),eN,hbm,Int.natCast_mul];rfl
 have ecm:cmI (((A:Int)*((1:Nat):Int) - (A:Int) / (C:Int)*(C:Int))*((2:Nat):Int)) (1*((C*1:Nat):Int))=cm:=by
  rw [eR]
  have cc':=cc
  clear eD eR eS hbm eQ h hb
  obtain ⟨r,hr⟩:∃ r,r=A % C:=⟨_,rfl⟩
  rw [← hr] at cc' ⊢
  clear hr cc
  have e2:((C*1:Nat):Int)=(C:Int):=by rw [Nat.mul_one]
  have e3:((2:Nat):Int)=2:=rfl
  rw [e2,e3]
  unfold cmI
  rcases cc' with ⟨rfl,c9⟩ | ⟨rfl,c9⟩ | ⟨rfl,c9⟩
  ·rw [if_pos (by omega)]
  ·rw [if_neg (by omega),if_neg (by omega)]
  ·rw [if_neg (by omega),if_pos (by omega)]
 have sg:¬ sgV (A:Int)<0:=by unfold sgV;rw [if_neg ng];split <;> decide
 have ha:∀ (B:Nat) (W:World) s6 p6 l6 c6 q6 k6 d6,FP B W s6 p6 l6 c6 q6 k6 d6 ((A:Int) / (C:Int)) (N+1)→Ls W (.slice p6 l6 c6) (dig (A / C))∧blen (A / C)≤N+1:=by
  rintro B W s6 p6 l6 c6 q6 k6 d6 ⟨a,o1,o2,e,bl⟩
  have:a=A / C:=by
   rw [eQ] at e;unfold rvI at e
   clear hb eQ eD eR hbm eS ecm cc
   generalize A / C=Q at e ⊢
   cases s6
   ·rw [if_neg (by decide)] at e;omega
   ·rw [if_pos rfl] at e;omega
  subst this
  exact ⟨o1.ls,bl⟩
 refine (stNa_ K Ki cm bt hw (sgV (A:Int)) sg (blen (A / C):Int) (fun hb1=>by have:=blen_spec (A / C) (by intro z;rw [z,hb1] at hb;simp at hb);omega) s p l c q k d (fun w' s6 p6 l6 c6 q6 k6 d6=>FP (w.heap.size+2) w' s6 p6 l6 c6 q6 k6 d6 ((A:Int) / (C:Int)) (N+1)) (fun w' s7 p7 l7 c7 q7 k7 d7=>XP 0 w' s7 p7 l7 c7 q7 k7 d7 ((A:Int)*((1:Nat):Int) - (A:Int) / (C:Int)*(C:Int)) (C*1) (2*(N+(N+2))+3)) (fun w' s8 p8 l8 c8 q8 k8 d8=>XP 0 w' s8 p8 l8 c8 q8 k8 d8 1 2 20) (fun w' s9 p9 l9 c9 q9 k9 d9=>XP 0 w' s9 p9 l9 c9 q9 k9 d9 1 1 1500) (fun W w' s3 p3 l3 c3 q3 k3 d3=>XP W.heap.size w' s3 p3 l3 c3 q3 k3 d3 (stV K C (A:Int)) C (5*N+4000)) w (fun W g=>xsign_ _ C N (by omega) s p l c q k d B1 W (h.kp g)) (fun W g gl=>?_) (fun U W s6 p6 l6 c6 q6 k6 d6 g h6 gu=>?_) (fun W=>?_) (fun U W s7 p7 l7 c7 q7 k7 d7 s8 p8 l8 c8 q8 k8 d8 h7 gu h8=>?_) (fun U W s6 p6 l6 c6 q6 k6 d6 h6 gu=>?_) (fun U W s6 p6 l6 c6 q6 k6 d6 h6 gu=>?_) (fun W g=>?_) (fun U W s6 p6 l6 c6 q6 k6 d6 s9 p9 l9 c9 q9 k9 d9 h6 gu h9=>?_)).mono ?_
 ·refine (floorX_ _ C N (by omega) s p l c q k d B1 W (h.kp g)).mono ?_
  rintro e w' ⟨s6,p6,l6,c6,q6,k6,d6,rfl,hf,g1⟩
  exact ⟨s6,p6,l6,c6,q6,k6,d6,rfl,hf.mono (by omega),g1⟩
 ·refine (xsub_ _ _ C 1 N (N+2) (by omega) s p l c q k d s6 p6 l6 c6 q6 k6 d6 B1 _ W (h.kp g) (h6.kp gu).xp).mono ?_
  rintro e w' ⟨s7,p7,l7,c7,q7,k7,d7,rfl,hp,g1⟩
  exact ⟨s7,p7,l7,c7,q7,k7,d7,rfl,hp.mono (Nat.zero_le _),g1⟩
 ·refine (halfX_ W).mono ?_
  rintro e w' ⟨s8,p8,l8,c8,q8,k8,d8,rfl,hp,g1⟩
  exact ⟨s8,p8,l8,c8,q8,k8,d8,rfl,hp.mono (Nat.zero_le _),g1⟩
 ·have hx:=xcmp_ 0 0 _ _ _ _ _ _ (by omega) (by omega) s7 p7 l7 c7 q7 k7 d7 s8 p8 l8 c8 q8 k8 d8 W (h7.kp gu) h8
  rw [ecm] at hx
  exact hx
 ·obtain ⟨z1,z2⟩:=ha _ W s6 p6 l6 c6 q6 k6 d6 (h6.kp gu)
  have hx:=bitX_ p6 l6 c6 (A / C) W z1 (by omega)
  rw [hb] at hx
  exact hx
 ·obtain ⟨z1,z2⟩:=ha _ W s6 p6 l6 c6 q6 k6 d6 (h6.kp gu)
  refine (lenR _ (A / C) W z1 (by omega)).mono ?_
  rintro e w' ⟨rfl,rfl⟩
  exact ⟨rfl,Kp.refl _⟩
 ·refine (int1X_ W).mono ?_
  rintro e w' ⟨s9,p9,l9,c9,q9,k9,d9,rfl,hp,g1⟩
  exact ⟨s9,p9,l9,c9,q9,k9,d9,rfl,hp.mono (Nat.zero_le _),g1⟩
 ·refine (xadd_ _ _ 1 1 (N+2) 1500 (by omega) s6 p6 l6 c6 q6 k6 d6 s9 p9 l9 c9 q9 k9 d9 _ 0 W (h6.kp gu).xp h9).mono ?_
  rintro e w' ⟨s3,p3,l3,c3,q3,k3,d3,rfl,hp,g1⟩
  exact ⟨s3,p3,l3,c3,q3,k3,d3,rfl,hp.as _ C _ hc (by rw [eS,eQ];simp) (by omega),g1⟩
 ·rintro e w' ⟨W,W2,b,s3,p3,l3,c3,q3,k3,d3,rfl,hq,rfl,u1,u2,u3,g⟩
  exact ⟨s3,p3,l3,c3,q3,k3,d3,rfl,XP.mono ((((((((hq).set (x:=⟨b,0,none⟩) u2 (.bool s3)).set (x:=⟨b,1,none⟩) u2 (.slice p3 l3 c3)).set (x:=⟨b,2,none⟩) u2 (.slice q3 k3 d3))).set (x:=⟨w.heap.size+1,0,none⟩) u1 (.bool s3)).set (x:=⟨w.heap.size+1,1,none⟩) u1 (.slice p3 l3 c3)).set (x:=⟨w.heap.size+1,2,none⟩) u1 (.slice q3 k3 d3)) (by omega),((((KS3 (g) (by first | omega | (simp <;> omega)))).setCell (by simp) _).setCell (by simp) _).setCell (by simp) _⟩
set_option linter.unusedVariables false
theorem stNn_ (K:Nat) (Ki cm bt:Int) (hw:Wn K Ki cm bt) (sg:Int) (hsg:¬ sg<0) (ln:Int) (hln:bt=1→0<ln) s p l c q k d (P6 P7 P8:World→Bool→Option Addr→Nat→Nat→Option Addr→Nat→Nat→Prop) (w:World) (hs:∀ W:World,Kp w W→Calls Tryz.prog 30 #[.agg #[.bool s,.slice p l c,.slice q k d]] W fun e w'=>e=.returned (.int .i64 sg)∧Kp W w') (hf:∀ W:World,Kp w W→w.heap.size+1<W.heap.size→RC 72 #[.agg #[.bool s,.slice p l c,.slice q k d]] W P6) (hsub:∀ (U W:World) s6 p6 l6 c6 q6 k6 d6,Kp w W→P6 U s6 p6 l6 c6 q6 k6 d6→Kp U W→RC 73 #[.agg #[.bool s,.slice p l c,.slice q k d],.agg #[.bool s6,.slice p6 l6 c6,.slice q6 k6 d6]] W P7) (hfr:∀ W:World,RC 66 #[.bool false,.slice (some ⟨W.heap.size,0,none⟩) 1 1,.slice (some ⟨W.heap.size+1,0,none⟩) 1 1,.int .i64 0] ((W.alloc (.cells #[.int .u32 1] 81)).alloc (.cells #[.int .u32 2] 81)) P8) (hcm:∀ (U W:World) s7 p7 l7 c7 q7 k7 d7 s8 p8 l8 c8 q8 k8 d8,P7 U s7 p7 l7 c7 q7 k7 d7→Kp U W→P8 W s8 p8 l8 c8 q8 k8 d8→Calls Tryz.prog 33 #[.agg #[.bool s7,.slice p7 l7 c7,.slice q7 k7 d7],.agg #[.bool s8,.slice p8 l8 c8,.slice q8 k8 d8]] W fun e w'=>e=.returned (.int .i64 cm)∧Kp W w') (hbi:∀ (U W:World) s6 p6 l6 c6 q6 k6 d6,P6 U s6 p6 l6 c6 q6 k6 d6→Kp U W→Calls Tryz.prog 74 #[.slice p6 l6 c6,.int .i64 0] W fun e w'=>e=.returned (.int .u32 bt)∧Kp W w') (hle:∀ (U W:World) s6 p6 l6 c6 q6 k6 d6,P6 U s6 p6 l6 c6 q6 k6 d6→Kp U W→Calls Tryz.prog 75 #[.slice p6 l6 c6] W fun e w'=>e=.returned (.int .i64 ln)∧Kp W w'):Calls Tryz.prog 37 #[.int .i64 Ki,.agg #[.bool s,.slice p l c,.slice q k d]] w fun e w'=>∃ (W2 wh:World) (s6:Bool) (p6:Option Addr) (l6 c6:Nat) (q6:Option Addr) (k6 d6:Nat),e=.returned (.agg #[.bool s6,.slice p6 l6 c6,.slice q6 k6 d6])∧P6 W2 s6 p6 l6 c6 q6 k6 d6∧Kp W2 wh∧w'=(((wh.setCell ⟨w.heap.size+1,0,none⟩ (.bool s6)).setCell ⟨w.heap.size+1,1,none⟩ (.slice p6 l6 c6)).setCell ⟨w.heap.size+1,2,none⟩ (.slice q6 k6 d6))∧Kp w wh:=by
 have q00:=H3c.new w (.bool s) (.slice p l c) (.slice q k d) 43
 have q0:=H3c.keep q00 ((Kp.refl _).alloc (.cells #[.bool false,.slice none 0 0,.slice none 0 0] 43))
 have t0:=H3c.new (w.alloc (.cells #[.bool s,.slice p l c,.slice q k d] 43)) (.bool false) (.slice none 0 0) (.slice none 0 0) 43
 rw [show (w.alloc (.cells #[.bool s,.slice p l c,.slice q k d] 43)).heap.size=w.heap.size+1 by simp] at t0
 have j0:Kp w ((w.alloc (.cells #[.bool s,.slice p l c,.slice q k d] 43)).alloc (.cells #[.bool false,.slice none 0 0,.slice none 0 0] 43)):=((Kp.refl w).alloc _).alloc _
 obtain ⟨x0,x1,x2,x3,x4,x5⟩:=id q0
 obtain ⟨y0,y1,y2,y3,y4,y5⟩:=id t0
 rcases hw with ⟨rfl,rfl,rfl,rfl⟩ | ⟨rfl,rfl,rfl,rfl⟩ | ⟨rfl,rfl,rfl,rfl⟩ | ⟨rfl,rfl,rfl,rfl⟩ | ⟨rfl,rfl,rfl,rfl⟩
 all_goals (try have hln:=hln rfl)
 all_goals (go_enter Tryz.func37,Tryz.ntmps37)
 all_goals (go_wp2_with (first | (go_at_call 75;refine (hle w2 _ s6 p6 l6 c6 q6 k6 d6 h6 i7).mono ?_;rintro e w7 ⟨rfl,g7⟩;have t7:=H3c.keep t7 g7;have z7:=H3c.keep z7 g7;have v7:=H3c.keep v7 g7;have j7:=Kp.trans j7 g7;have i7:=Kp.trans i7 g7;clear x0 x1 x2 x3 x4 x5;clear y0 y1 y2 y3 y4 y5;clear u0 u1 u2 u3 u4 u5;obtain ⟨x0,x1,x2,x3,x4,x5⟩:=id z7;obtain ⟨y0,y1,y2,y3,y4,y5⟩:=id t7;obtain ⟨u0,u1,u2,u3,u4,u5⟩:=id v7) | (go_at_call 74;refine (hbi w2 _ s6 p6 l6 c6 q6 k6 d6 h6 i5).mono ?_;rintro e w7 ⟨rfl,g7⟩;have t7:=H3c.keep t5 g7;have z7:=H3c.keep z5 g7;have v7:=H3c.keep v5 g7;have j7:=Kp.trans j5 g7;have i7:=Kp.trans i5 g7;clear x0 x1 x2 x3 x4 x5;clear y0 y1 y2 y3 y4 y5;clear u0 u1 u2 u3 u4 u5;obtain ⟨x0,x1,x2,x3,x4,x5⟩:=id z7;obtain ⟨y0,y1,y2,y3,y4,y5⟩:=id t7;obtain ⟨u0,u1,u2,u3,u4,u5⟩:=id v7) | (go_at_call 33;refine (hcm w3 _ s7 p7 l7 c7 q7 k7 d7 s8 p8 l8 c8 q8 k8 d8 h7 g4a h8).mono ?_;rintro e w5 ⟨rfl,g5⟩;have t5:=H3c.keep t4 g5;have z5:=H3c.keep z4 g5;have v5:=H3c.keep v4 g5;have j5:=Kp.trans j4 g5;have i5:=Kp.trans i4 g5;clear x0 x1 x2 x3 x4 x5;clear y0 y1 y2 y3 y4 y5;clear u0 u1 u2 u3 u4 u5;obtain ⟨x0,x1,x2,x3,x4,x5⟩:=id z5;obtain ⟨y0,y1,y2,y3,y4,y5⟩:=id t5;obtain ⟨u0,u1,u2,u3,u4,u5⟩:=id v5) | (go_at_call 66;refine (hfr w3).mono ?_;rintro e w4 ⟨s8,p8,l8,c8,q8,k8,d8,rfl,h8,g4⟩;have g4a:Kp w3 w4:=Kp.trans (((Kp.refl w3).alloc _).alloc _) g4;have t4:=H3c.keep t3 g4a;have z4:=H3c.keep z3 g4a;have v4:=H3c.keep v3 g4a;have j4:=Kp.trans j3 g4a;have i4:=Kp.trans i3 g4a;clear x0 x1 x2 x3 x4 x5;clear y0 y1 y2 y3 y4 y5;clear u0 u1 u2 u3 u4 u5;obtain ⟨x0,x1,x2,x3,x4,x5⟩:=id z4;obtain ⟨y0,y1,y2,y3,y4,y5⟩:=id t4;obtain ⟨u0,u1,u2,u3,u4,u5⟩:=id v4) | (go_at_call 73;refine (hsub w2 _ s6 p6 l6 c6 q6 k6 d6 j2 h6 i2).mono ?_;rintro e w3 ⟨s7,p7,l7,c7,q7,k7,d7,rfl,h7,g3⟩;have t3:=H3c.keep t2 g3;have z3:=H3c.keep z2 g3;have v3:=H3c.keep v2 g3;have j3:=Kp.trans j2 g3;have i3:=Kp.trans i2 g3;clear x0 x1 x2 x3 x4 x5;clear y0 y1 y2 y3 y4 y5;clear u0 u1 u2 u3 u4 u5;obtain ⟨x0,x1,x2,x3,x4,x5⟩:=id z3;obtain ⟨y0,y1,y2,y3,y4,y5⟩:=id t3;obtain ⟨u0,u1,u2,u3,u4,u5⟩:=id v3) | (go_at_call 72;refine (hf _ j1 (H3c.lt t1)).mono ?_;rintro e w2 ⟨s6,p6,l6,c6,q6,k6,d6,rfl,h6,g2⟩;have lt2:w.heap.size+1<w2.heap.size:=H3c.lt (H3c.keep t1 g2);have t2:=H3c.keep (H3c.keep t1 g2) ((Kp.refl w2).alloc (.cells #[.bool s6,.slice p6 l6 c6,.slice q6 k6 d6] 43));have z2:=H3c.keep (H3c.keep z1 g2) ((Kp.refl w2).alloc (.cells #[.bool s6,.slice p6 l6 c6,.slice q6 k6 d6] 43));have v2:=H3c.new w2 (.bool s6) (.slice p6 l6 c6) (.slice q6 k6 d6) 43;have j2:=Kp.trans (Kp.trans j1 g2) ((Kp.refl w2).alloc (.cells #[.bool s6,.slice p6 l6 c6,.slice q6 k6 d6] 43));have i2:=((Kp.refl w2).alloc (.cells #[.bool s6,.slice p6 l6 c6,.slice q6 k6 d6] 43));clear m0 m1 m2 m3 m4 m5;clear x0 x1 x2 x3 x4 x5;clear y0 y1 y2 y3 y4 y5;obtain ⟨x0,x1,x2,x3,x4,x5⟩:=id z2;obtain ⟨y0,y1,y2,y3,y4,y5⟩:=id t2;obtain ⟨u0,u1,u2,u3,u4,u5⟩:=id v2) | (go_at_call 30;refine (hs _ j0).mono ?_;rintro e w1 ⟨rfl,g1⟩;have q1w:=H3c.keep q0 g1;obtain ⟨m0,m1,m2,m3,m4,m5⟩:=id q1w;have ka:Kp w1 (w1.alloc (.cells #[.bool s,.slice p l c,.slice q k d] 43)):=(Kp.refl w1).alloc _;have t1:=H3c.keep (H3c.keep t0 g1) ka;have z1:=H3c.new w1 (.bool s) (.slice p l c) (.slice q k d) 43;have j1:=Kp.trans (Kp.trans j0 g1) ka;clear x0 x1 x2 x3 x4 x5;clear y0 y1 y2 y3 y4 y5;obtain ⟨x0,x1,x2,x3,x4,x5⟩:=id z1;obtain ⟨y0,y1,y2,y3,y4,y5⟩:=id t1)))
 all_goals (exact BR (v:=.agg #[.bool s6,.slice p6 l6 c6,.slice q6 k6 d6]) (by simp [results,Tryz.results37,go_sem,y0,y1,y2]) rfl ⟨w2,_,s6,p6,l6,c6,q6,k6,d6,rfl,h6,i7,rfl,j7⟩)
set_option linter.unusedVariables false
theorem xpn_ (K:Nat) (Ki cm bt:Int) (hw:Wn K Ki cm bt) (V:Int) (C N:Nat) (hN:N≤20000) s p l c q k d (B1:Nat) (w:World) (h:XP B1 w s p l c q k d V C N) (ng:¬ V<0) (cc:cm = -1∧2*(V.natAbs % C)<C∨cm=0∧2*(V.natAbs % C)=C∨cm=1∧C<2*(V.natAbs % C)) (hb:((V.natAbs / C % 2:Nat):Int)=bt):Calls Tryz.prog 37 #[.int .i64 Ki,.agg #[.bool s,.slice p l c,.slice q k d]] w fun e w'=>∃ s3 p3 l3 c3 q3 k3 d3,e=.returned (.agg #[.bool s3,.slice p3 l3 c3,.slice q3 k3 d3])∧XP w.heap.size w' s3 p3 l3 c3 q3 k3 d3 (stV K C V) C (5*N+4000)∧Kp w w':=by
 have h0:K≠0:=by unfold Wn at hw;omega
 have h12:K≠1∧K≠2:=by unfold Wn at hw;omega
 have hc:C≠0:=by obtain ⟨a,b,-,-,hx⟩:=h;exact hx.2.1
 obtain ⟨A,rfl⟩:∃ A:Nat,V=(A:Int):=⟨V.toNat,by omega⟩
 have eN:(A:Int).natAbs=A:=by omega
 rw [eN] at cc hb
 have eQ:(A:Int) / (C:Int)=((A / C:Nat):Int):=rfl
 have eD:(A:Int)=(C:Int)*((A / C:Nat):Int)+((A % C:Nat):Int):=by rw [← Int.natCast_mul,← Int.natCast_add,Nat.div_add_mod]
 have eR:(A:Int)*((1:Nat):Int) - (A:Int) / (C:Int)*(C:Int)=((A % C:Nat):Int):=by
  rw [eQ,Int.mul_comm ((A / C:Nat):Int)]
  have e1:(A:Int)*((1:Nat):Int)=(A:Int):=by simp
  rw [e1];omega
 have hbm:bmp K false (A / C) (A % C) C=false:=by
  clear eR eD eQ
  rcases hw with ⟨rfl,-,rfl,rfl⟩ | ⟨rfl,-,rfl,rfl⟩ | ⟨rfl,-,rfl,rfl⟩ | ⟨rfl,-,rfl,rfl⟩ | ⟨rfl,-,rfl,rfl⟩ <;> (unfold bmp upw;simp <;> omega)
 have eS:stV K C (A:Int)=((A / C+0:Nat):Int)*(C:Int):=by
  unfold stV cutN
  rw [if_neg h0,if_neg (by omega),eN,hbm,Int.natCast_mul];rfl
 have ecm:cmI (((A:Int)*((1:Nat):Int) - (A:Int) / (C:Int)*(C:Int))*((2:Nat):Int)) (1*((C*1:Nat):Int))=cm:=by
  rw [eR]
  have cc':=cc
  clear eD eR eS hbm eQ h hb
  obtain ⟨r,hr⟩:∃ r,r=A % C:=⟨_,rfl⟩
  rw [← hr] at cc' ⊢
  clear hr cc
  have e2:((C*1:Nat):Int)=(C:Int):=by rw [Nat.mul_one]
  have e3:((2:Nat):Int)=2:=rfl
  rw [e2,e3]
  unfold cmI
  rcases cc' with ⟨rfl,c9⟩ | ⟨rfl,c9⟩ | ⟨rfl,c9⟩
  ·rw [if_pos (by omega)]
  ·rw [if_neg (by omega),if_neg (by omega)]
  ·rw [if_neg (by omega),if_pos (by omega)]
 have sg:¬ sgV (A:Int)<0:=by unfold sgV;rw [if_neg ng];split <;> decide
 have ha:∀ (B:Nat) (W:World) s6 p6 l6 c6 q6 k6 d6,FP B W s6 p6 l6 c6 q6 k6 d6 ((A:Int) / (C:Int)) (N+1)→Ls W (.slice p6 l6 c6) (dig (A / C))∧blen (A / C)≤N+1:=by
  rintro B W s6 p6 l6 c6 q6 k6 d6 ⟨a,o1,o2,e,bl⟩
  have:a=A / C:=by
   rw [eQ] at e;unfold rvI at e
   clear hb eQ eD eR hbm eS ecm cc
   generalize A / C=Q at e ⊢
   cases s6
   ·rw [if_neg (by decide)] at e;omega
   ·rw [if_pos rfl] at e;omega
  subst this
  exact ⟨o1.ls,bl⟩
 refine (stNn_ K Ki cm bt hw (sgV (A:Int)) sg (blen (A / C):Int) (fun hb1=>by have:=blen_spec (A / C) (by intro z;rw [z,hb1] at hb;simp at hb);omega) s p l c q k d (fun w' s6 p6 l6 c6 q6 k6 d6=>FP (w.heap.size+2) w' s6 p6 l6 c6 q6 k6 d6 ((A:Int) / (C:Int)) (N+1)) (fun w' s7 p7 l7 c7 q7 k7 d7=>XP 0 w' s7 p7 l7 c7 q7 k7 d7 ((A:Int)*((1:Nat):Int) - (A:Int) / (C:Int)*(C:Int)) (C*1) (2*(N+(N+2))+3)) (fun w' s8 p8 l8 c8 q8 k8 d8=>XP 0 w' s8 p8 l8 c8 q8 k8 d8 1 2 20)  w (fun W g=>xsign_ _ C N (by omega) s p l c q k d B1 W (h.kp g)) (fun W g gl=>?_) (fun U W s6 p6 l6 c6 q6 k6 d6 g h6 gu=>?_) (fun W=>?_) (fun U W s7 p7 l7 c7 q7 k7 d7 s8 p8 l8 c8 q8 k8 d8 h7 gu h8=>?_) (fun U W s6 p6 l6 c6 q6 k6 d6 h6 gu=>?_) (fun U W s6 p6 l6 c6 q6 k6 d6 h6 gu=>?_) ).mono ?_
 ·refine (floorX_ _ C N (by omega) s p l c q k d B1 W (h.kp g)).mono ?_
  rintro e w' ⟨s6,p6,l6,c6,q6,k6,d6,rfl,hf,g1⟩
  exact ⟨s6,p6,l6,c6,q6,k6,d6,rfl,hf.mono (by omega),g1⟩
 ·refine (xsub_ _ _ C 1 N (N+2) (by omega) s p l c q k d s6 p6 l6 c6 q6 k6 d6 B1 _ W (h.kp g) (h6.kp gu).xp).mono ?_
  rintro e w' ⟨s7,p7,l7,c7,q7,k7,d7,rfl,hp,g1⟩
  exact ⟨s7,p7,l7,c7,q7,k7,d7,rfl,hp.mono (Nat.zero_le _),g1⟩
 ·refine (halfX_ W).mono ?_
  rintro e w' ⟨s8,p8,l8,c8,q8,k8,d8,rfl,hp,g1⟩
  exact ⟨s8,p8,l8,c8,q8,k8,d8,rfl,hp.mono (Nat.zero_le _),g1⟩
 ·have hx:=xcmp_ 0 0 _ _ _ _ _ _ (by omega) (by omega) s7 p7 l7 c7 q7 k7 d7 s8 p8 l8 c8 q8 k8 d8 W (h7.kp gu) h8
  rw [ecm] at hx
  exact hx
 ·obtain ⟨z1,z2⟩:=ha _ W s6 p6 l6 c6 q6 k6 d6 (h6.kp gu)
  have hx:=bitX_ p6 l6 c6 (A / C) W z1 (by omega)
  rw [hb] at hx
  exact hx
 ·obtain ⟨z1,z2⟩:=ha _ W s6 p6 l6 c6 q6 k6 d6 (h6.kp gu)
  refine (lenR _ (A / C) W z1 (by omega)).mono ?_
  rintro e w' ⟨rfl,rfl⟩
  exact ⟨rfl,Kp.refl _⟩
 ·rintro e w' ⟨W2,wh,s6,p6,l6,c6,q6,k6,d6,rfl,h6,kk,rfl,g⟩
  have hq:=(h6.kp kk).xp.as (stV K C (A:Int)) C (5*N+4000) hc (by rw [eS,eQ];simp) (by omega)
  exact ⟨s6,p6,l6,c6,q6,k6,d6,rfl,XP.mono ((((hq).set (x:=⟨w.heap.size+1,0,none⟩) (show w.heap.size+1<w.heap.size+2 by omega) (.bool s6)).set (x:=⟨w.heap.size+1,1,none⟩) (show w.heap.size+1<w.heap.size+2 by omega) (.slice p6 l6 c6)).set (x:=⟨w.heap.size+1,2,none⟩) (show w.heap.size+1<w.heap.size+2 by omega) (.slice q6 k6 d6)) (by omega),KS3 (g) (by first | omega | (simp <;> omega))⟩
end Go.Proofs.YtcfnialfpblfmaaGreatDoor
