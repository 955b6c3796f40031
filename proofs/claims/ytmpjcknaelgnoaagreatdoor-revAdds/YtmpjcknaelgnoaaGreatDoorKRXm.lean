import Derived.Test.YtmpjcknaelgnoaaGreatDoorKRVm
import Derived.Test.YtmpjcknaelgnoaaGreatDoorKZC
set_option maxHeartbeats 4000000
set_option maxRecDepth 20000
namespace Go.Proofs.YtmpjcknaelgnoaaGreatDoor
open Go.RowKit
set_option linter.unusedVariables false
set_option linter.unusedSimpArgs false

theorem g_dn (c1 c2:Nat) (hc:0<c2) (V z:Int) (hz:-9218868437227405312<z∧z<9218868437227405312):z≤g53 (-1) c1 c2 V ↔ vZ z*(c2:Int)≤V*(c1:Int):=by
 have t:=g53_tight c1 c2 hc V vZ vZ_pos vZ_neg
 have P:(0:Int)<(c2:Int):=by omega
 generalize (c2:Int)=B at t P ⊢
 generalize V*(c1:Int)=A at t ⊢
 generalize g53 (-1) c1 c2 V=lo at t ⊢
 generalize g53 1 c1 c2 V=hi at t
 clear hc
 constructor
 ·intro h
  have m:=Int.mul_le_mul_of_nonneg_right (vZ_le z lo h) (by omega:(0:Int)≤B)
  rcases t with ⟨h1,_,h3,h4,h5⟩ | ⟨h1,h2,h3,h4,h5,_⟩
  ·omega
  ·have:=h4 (by omega);omega
 ·intro h
  rcases Int.lt_or_le lo z with c | c
  ·exfalso
   rcases t with ⟨h1,_,h3,h4,h5⟩ | ⟨h1,h2,h3,h4,h5,_⟩
   ·have m:=Int.mul_lt_mul_of_pos_right (vZ_lt lo z c) P
    omega
   ·have m:=Int.mul_le_mul_of_nonneg_right (vZ_le hi z (by omega)) (by omega:(0:Int)≤B)
    have:=h5 (by omega);omega
  ·exact c
theorem g_up (c1 c2:Nat) (hc:0<c2) (V z:Int) (hz:-9218868437227405312<z∧z<9218868437227405312):g53 1 c1 c2 V≤z ↔ V*(c1:Int)≤vZ z*(c2:Int):=by
 have t:=g53_tight c1 c2 hc V vZ vZ_pos vZ_neg
 have P:(0:Int)<(c2:Int):=by omega
 generalize (c2:Int)=B at t P ⊢
 generalize V*(c1:Int)=A at t ⊢
 generalize g53 (-1) c1 c2 V=lo at t
 generalize g53 1 c1 c2 V=hi at t ⊢
 clear hc
 constructor
 ·intro h
  have m:=Int.mul_le_mul_of_nonneg_right (vZ_le hi z h) (by omega:(0:Int)≤B)
  rcases t with ⟨h1,_,h3,h4,h5⟩ | ⟨h1,h2,h3,h4,h5,_⟩
  ·rw [h1] at h5;omega
  ·have:=h5 (by omega);omega
 ·intro h
  rcases Int.lt_or_le z hi with c | c
  ·exfalso
   rcases t with ⟨h1,_,h3,h4,h5⟩ | ⟨h1,h2,h3,h4,h5,_⟩
   ·have m:=Int.mul_lt_mul_of_pos_right (vZ_lt z hi c) P
    rw [h1] at h5;omega
   ·have m:=Int.mul_le_mul_of_nonneg_right (vZ_le z lo (by omega)) (by omega:(0:Int)≤B)
    have:=h4 (by omega);omega
  ·exact c
theorem g1_dn (V z:Int) (hz:-9218868437227405312<z∧z<9218868437227405312):z≤g53 (-1) 1 1 V ↔ vZ z≤V:=by
 have:=g_dn 1 1 (by decide) V z hz
 simpa using this
theorem g1_up (V z:Int) (hz:-9218868437227405312<z∧z<9218868437227405312):g53 1 1 1 V≤z ↔ V≤vZ z:=by
 have:=g_up 1 1 (by decide) V z hz
 simpa using this
def lwB (i V:Int):Int:=if i=0 then g53 (-1) 1 1 V else -9218868437227405312
def upB (i V:Int):Int:=if i=0 then g53 1 1 1 V else 9218868437227405312
theorem cB0 (X V:Int) (hX:-9218868437227405312<X∧X<9218868437227405312):cB X 0 V=cmI (vZ X) V:=by
 unfold cB
 rw [if_pos rfl,if_neg (by omega),if_neg (by omega)];rfl
theorem cm_le (x y:Int):cmI x y≤0 ↔ x≤y:=by rcases cmI_tri x y with q | q | q <;> omega
theorem cm_ge (x y:Int):0≤cmI x y ↔ y≤x:=by rcases cmI_tri x y with q | q | q <;> omega
theorem lw_iff (i V X:Int) (hi:i=0∨i = -1) (hX:-9218868437227405312≤X∧X<9218868437227405312):X≤lwB i V ↔ cB X i V≤0:=by
 unfold lwB
 rcases hi with rfl | rfl
 ·rw [if_pos rfl]
  by_cases c:X = -9218868437227405312
  ·have h:=(g53_le (-1) 1 1 V).1
   unfold cB
   rw [if_pos rfl,if_neg (by omega),if_pos c]
   constructor
   ·intro _;omega
   ·intro _;omega
  ·rw [cB0 X V (by omega),cm_le]
   exact g1_dn V X (by omega)
 ·rw [if_neg (by decide)]
  unfold cB
  rw [if_neg (by decide),cm_le]
  omega
theorem up_iff (i V X:Int) (hi:i=0∨i=1) (hX:-9218868437227405312<X∧X≤9218868437227405312):upB i V≤X ↔ 0≤cB X i V:=by
 unfold upB
 rcases hi with rfl | rfl
 ·rw [if_pos rfl]
  by_cases c:X=9218868437227405312
  ·have h:=(g53_le 1 1 1 V).2
   unfold cB
   rw [if_pos rfl,if_pos c]
   constructor
   ·intro _;omega
   ·intro _;omega
  ·rw [cB0 X V (by omega),cm_ge]
   exact g1_up V X (by omega)
 ·rw [if_neg (by decide)]
  unfold cB
  rw [if_neg (by decide),cm_ge]
  omega
theorem lw_at (i V X:Int) (hi:i=0∨i = -1) (hX:-9218868437227405312≤X∧X<9218868437227405312) (h:0≤cB X i V):lwB i V≤X:=by
 rcases Int.lt_or_le X (lwB i V) with c | c
 ·exfalso
  have h1:=(lw_iff i V X hi hX).1 (by omega)
  rcases hi with rfl | rfl
  ·have h2:lwB 0 V<9218868437227405312:=by
    unfold lwB;rw [if_pos rfl];exact (g53_lohi 1 1 (by decide) V).2.1
   by_cases c2:X = -9218868437227405312
   ·unfold cB at h
    rw [if_pos rfl,if_neg (by omega),if_pos c2] at h
    omega
   ·have h3:=(lw_iff 0 V (X+1) (Or.inl rfl) (by omega)).1 (by omega)
    rw [cB0 _ V (by omega),cm_le] at h3
    rw [cB0 X V (by omega),cm_ge] at h
    have:=vZ_lt X (X+1) (by omega)
    omega
  ·unfold lwB at c
   rw [if_neg (by decide)] at c
   omega
 ·exact c
theorem up_at (i V X:Int) (hi:i=0∨i=1) (hX:-9218868437227405312<X∧X≤9218868437227405312) (h:cB X i V≤0):X≤upB i V:=by
 rcases Int.lt_or_le (upB i V) X with c | c
 ·exfalso
  have h1:=(up_iff i V X hi hX).1 (by omega)
  rcases hi with rfl | rfl
  ·have h2:-9218868437227405312<upB 0 V:=by
    unfold upB;rw [if_pos rfl];exact (g53_lohi 1 1 (by decide) V).2.2
   by_cases c2:X=9218868437227405312
   ·unfold cB at h
    rw [if_pos rfl,if_pos c2] at h
    omega
   ·have h3:=(up_iff 0 V (X - 1) (Or.inl rfl) (by omega)).1 (by omega)
    rw [cB0 _ V (by omega),cm_ge] at h3
    rw [cB0 X V (by omega),cm_le] at h
    have:=vZ_lt (X - 1) X (by omega)
    omega
  ·unfold upB at c
   rw [if_neg (by decide)] at c
   omega
 ·exact c
def wiB (L H iA VA iB VB:Int):Prop:=0<cB L iB VB∨cB H iA VA<0
instance (L H iA VA iB VB:Int):Decidable (wiB L H iA VA iB VB):=by unfold wiB;infer_instance
def wiL (L H iA VA iB VB:Int):Int:=if wiB L H iA VA iB VB then 9218868437227405312 else max L (lwB iA VA)
def wiH (L H iA VA iB VB:Int):Int:=if wiB L H iA VA iB VB then -9218868437227405312 else min H (upB iB VB)
def BOk (iA VA iB VB:Int):Prop:=(iA=0∨iA = -1)∧(iB=0∨iB=1)∧(iA=0→iB=0→VA≤VB)
theorem BOk.lw {iA VA iB VB:Int} (h:BOk iA VA iB VB):-9218868437227405312≤lwB iA VA∧lwB iA VA<9218868437227405312:=by
 unfold lwB
 split
 ·exact ⟨(g53_le _ _ _ _).1,(g53_lohi 1 1 (by decide) VA).2.1⟩
 ·omega
theorem BOk.up {iA VA iB VB:Int} (h:BOk iA VA iB VB):-9218868437227405312<upB iB VB∧upB iB VB≤9218868437227405312:=by
 unfold upB
 split
 ·exact ⟨(g53_lohi 1 1 (by decide) VB).2.2,(g53_le _ _ _ _).2⟩
 ·omega
theorem BOk.off {iA VA iB VB:Int} (h:BOk iA VA iB VB) (z:Int) (hz:-9218868437227405312<z∧z<9218868437227405312):(cB z iA VA<0→cB z iB VB<0)∧(0<cB z iB VB→0<cB z iA VA):=by
 obtain ⟨h1,h2,h3⟩:=h
 rcases h1 with rfl | rfl
 ·rcases h2 with rfl | rfl
  ·have h4:=h3 rfl rfl
   rw [cB0 z VA hz,cB0 z VB hz]
   rcases cmI_tri (vZ z) VA with q | q | q <;> rcases cmI_tri (vZ z) VB with r | r | r <;> omega
  ·have e:cB z 1 VB = -1:=by unfold cB;rw [if_neg (by decide),cmI_lt _ _ (by omega)]
   rw [e];omega
 ·have e:cB z (-1) VA=1:=by unfold cB;rw [if_neg (by decide),cmI_gt _ _ (by omega)]
  rw [e]
  omega
theorem lw_up (iA VA iB VB:Int) (h:BOk iA VA iB VB):lwB iA VA≤upB iB VB:=by
 obtain ⟨h1,h2,h3⟩:=h
 unfold lwB upB
 rcases h1 with rfl | rfl
 ·rcases h2 with rfl | rfl
  ·rw [if_pos rfl,if_pos rfl]
   have a:=g53_mono (-1) 1 1 (by decide) VA VB (h3 rfl rfl)
   have b:=(g53_lohi 1 1 (by decide) VB).1
   omega
  ·rw [if_pos rfl,if_neg (by decide)]
   exact (g53_le _ _ _ _).2
 ·rw [if_neg (by decide)]
  split
  ·exact (g53_le _ _ _ _).1
  ·omega
theorem wi_good (L H iA VA iB VB:Int) (hB:BOk iA VA iB VB) (hx:-9218868437227405312≤L∧L<9218868437227405312∧-9218868437227405312<H∧H≤9218868437227405312∧L≤H) (g:¬ wiB L H iA VA iB VB) :
  max L (lwB iA VA)≤min H (upB iB VB)∧(max L (lwB iA VA)=min H (upB iB VB)→cB (max L (lwB iA VA)) iB VB≤0∧0≤cB (max L (lwB iA VA)) iA VA):=by
 have g1:¬ (0<cB L iB VB):=fun q=>g (Or.inl q)
 have g2:¬ (cB H iA VA<0):=fun q=>g (Or.inr q)
 have a1:L≤upB iB VB:=by
  by_cases c:L = -9218868437227405312
  ·have:=hB.up;omega
  ·exact up_at iB VB L hB.2.1 (by omega) (by omega)
 have a2:lwB iA VA≤H:=by
  by_cases c:H=9218868437227405312
  ·have:=hB.lw;omega
  ·exact lw_at iA VA H hB.1 (by omega) (by omega)
 have a3:=lw_up _ _ _ _ hB
 have b1:=hB.lw
 have b2:=hB.up
 refine ⟨by omega,fun e=>?_⟩
 have fv:-9218868437227405312<max L (lwB iA VA)∧max L (lwB iA VA)<9218868437227405312:=by omega
 have off:=hB.off _ fv
 have k1:=lw_iff iA VA (max L (lwB iA VA)) hB.1 (by omega)
 have k2:=up_iff iB VB (max L (lwB iA VA)) hB.2.1 (by omega)
 have k3:=lw_iff iA VA H hB.1
 have k4:=up_iff iB VB L hB.2.1
 by_cases p1:cB (max L (lwB iA VA)) iA VA<0
 ·exfalso
  have q1:=off.1 p1
  have q2:¬ upB iB VB≤max L (lwB iA VA):=fun q=>by have:=k2.1 q;omega
  have q3:max L (lwB iA VA)=H:=by omega
  rw [q3] at p1
  omega
 ·by_cases p2:0<cB (max L (lwB iA VA)) iB VB
  ·exfalso
   have q1:=off.2 p2
   have q2:¬ max L (lwB iA VA)≤lwB iA VA:=fun q=>by have:=k1.1 q;omega
   have q3:max L (lwB iA VA)=L:=by omega
   rw [q3] at p2
   omega
  ·omega
theorem wi_bad (L H iA VA iB VB:Int) (hB:BOk iA VA iB VB) (hx:-9218868437227405312≤L∧L<9218868437227405312∧-9218868437227405312<H∧H≤9218868437227405312∧L≤H) (g:wiB L H iA VA iB VB) (hle:max L (lwB iA VA)≤min H (upB iB VB)) :
  max L (lwB iA VA)=min H (upB iB VB)∧(0<cB (max L (lwB iA VA)) iB VB∨cB (max L (lwB iA VA)) iA VA<0):=by
 have b1:=hB.lw
 have b2:=hB.up
 rcases g with g | g
 ·have c:L≠-9218868437227405312:=by
   intro e
   rw [e] at g
   rcases hB.2.1 with rfl | rfl
   ·unfold cB at g;rw [if_pos rfl,if_neg (by decide),if_pos rfl] at g;omega
   ·unfold cB at g;rw [if_neg (by decide),cmI_lt _ _ (by decide)] at g;omega
  have h:=(up_iff iB VB L hB.2.1 (by omega)).2 (by omega)
  have e:max L (lwB iA VA)=L:=by omega
  rw [e]
  exact ⟨by omega,Or.inl g⟩
 ·have c:H≠9218868437227405312:=by
   intro e
   rw [e] at g
   rcases hB.1 with rfl | rfl
   ·unfold cB at g;rw [if_pos rfl,if_pos rfl] at g;omega
   ·unfold cB at g;rw [if_neg (by decide),cmI_gt _ _ (by decide)] at g;omega
  have h:=(lw_iff iA VA H hB.1 (by omega)).2 (by omega)
  have e:max L (lwB iA VA)=H:=by omega
  rw [e]
  exact ⟨by omega,Or.inr g⟩
theorem wi_vd (L H iA VA iB VB:Int) (hB:BOk iA VA iB VB) (hx:-9218868437227405312≤L∧L<9218868437227405312∧-9218868437227405312<H∧H≤9218868437227405312∧L≤H):VdZ (wiL L H iA VA iB VB) (wiH L H iA VA iB VB):=by
 unfold wiL wiH VdZ
 by_cases g:wiB L H iA VA iB VB
 ·rw [if_pos g,if_pos g];exact Or.inl ⟨rfl,rfl⟩
 ·rw [if_neg g,if_neg g]
  have h:=(wi_good L H iA VA iB VB hB hx g).1
  have b1:=hB.lw
  have b2:=hB.up
  omega
def bI (x y:Int):Int:=sI (iz x) (iz y)
def bV (x y:Int):Int:=sVx (iz x) (iz y) (Vz x) (Vz y)
theorem bI_fin (x y:Int) (hx:-9218868437227405312<x∧x<9218868437227405312) (hy:-9218868437227405312<y∧y<9218868437227405312):bI x y=0∧bV x y=vZ x+vZ y:=by
 have a:=iz_fin x (by omega)
 have b:=iz_fin y (by omega)
 unfold bI bV sI sVx
 rw [a.1,b.1,if_pos rfl,if_pos rfl,if_pos rfl,a.2,b.2]
 exact ⟨rfl,rfl⟩
theorem bI_lo (x y:Int) (hx:-9218868437227405312≤x∧x<9218868437227405312) (hy:-9218868437227405312≤y∧y<9218868437227405312) (h:x = -9218868437227405312∨y = -9218868437227405312):bI x y = -1∧bV x y=0:=by
 unfold bI bV sI sVx
 by_cases c:x = -9218868437227405312
 ·have a:=iz_inf x (by omega)
  rw [show iz x = -1 from by rcases a.1 with q | q <;> omega,if_neg (by decide),if_neg (by decide)]
  exact ⟨rfl,a.2⟩
 ·have a:=iz_fin x (by omega)
  have b:=iz_inf y (by omega)
  rw [a.1,show iz y = -1 from by rcases b.1 with q | q <;> omega,if_pos rfl,if_pos rfl,if_neg (by decide)]
  exact ⟨rfl,b.2⟩
theorem bI_hi (x y:Int) (hx:-9218868437227405312<x∧x≤9218868437227405312) (hy:-9218868437227405312<y∧y≤9218868437227405312) (h:x=9218868437227405312∨y=9218868437227405312):bI x y=1∧bV x y=0:=by
 unfold bI bV sI sVx
 by_cases c:x=9218868437227405312
 ·have a:=iz_inf x (by omega)
  rw [show iz x=1 from by rcases a.1 with q | q <;> omega,if_neg (by decide),if_neg (by decide)]
  exact ⟨rfl,a.2⟩
 ·have a:=iz_fin x (by omega)
  have b:=iz_inf y (by omega)
  rw [a.1,show iz y=1 from by rcases b.1 with q | q <;> omega,if_pos rfl,if_pos rfl,if_neg (by decide)]
  exact ⟨rfl,b.2⟩
theorem b_lo (x y:Int) (hx:-9218868437227405312≤x∧x<9218868437227405312) (hy:-9218868437227405312≤y∧y<9218868437227405312):lwB (bI x y) (bV x y)=adZ (-1) x y∧(bI x y=0∨bI x y = -1)∧(bI x y=0∨bV x y=0):=by
 by_cases c:x = -9218868437227405312∨y = -9218868437227405312
 ·have a:=bI_lo x y hx hy c
  rw [a.1,a.2,adZ_lo (-1) x y hx hy c]
  exact ⟨rfl,Or.inr rfl,Or.inr rfl⟩
 ·have a:=bI_fin x y (by omega) (by omega)
  rw [a.1,a.2,adZ_fin (-1) x y (by omega) (by omega)]
  exact ⟨if_pos rfl,Or.inl rfl,Or.inl rfl⟩
theorem b_hi (x y:Int) (hx:-9218868437227405312<x∧x≤9218868437227405312) (hy:-9218868437227405312<y∧y≤9218868437227405312):upB (bI x y) (bV x y)=adZ 1 x y∧(bI x y=0∨bI x y=1)∧(bI x y=0∨bV x y=0):=by
 by_cases c:x=9218868437227405312∨y=9218868437227405312
 ·have a:=bI_hi x y hx hy c
  rw [a.1,a.2,adZ_hi 1 x y hx hy c]
  exact ⟨rfl,Or.inr rfl,Or.inr rfl⟩
 ·have a:=bI_fin x y (by omega) (by omega)
  rw [a.1,a.2,adZ_fin 1 x y (by omega) (by omega)]
  exact ⟨if_pos rfl,Or.inl rfl,Or.inl rfl⟩
theorem b_ok (L1 H1 L2 H2:Int) (d1:VdZ L1 H1) (d2:VdZ L2 H2) (n1:L1≠9218868437227405312) (n2:L2≠9218868437227405312):BOk (bI L1 L2) (bV L1 L2) (bI H1 H2) (bV H1 H2):=by
 unfold VdZ at d1 d2
 have a:=b_lo L1 L2 (by omega) (by omega)
 have b:=b_hi H1 H2 (by omega) (by omega)
 refine ⟨a.2.1,b.2.1,fun e1 e2=>?_⟩
 have f1:¬ (L1 = -9218868437227405312∨L2 = -9218868437227405312):=fun q=>by have:=(bI_lo L1 L2 (by omega) (by omega) q).1;omega
 have f2:¬ (H1=9218868437227405312∨H2=9218868437227405312):=fun q=>by have:=(bI_hi H1 H2 (by omega) (by omega) q).1;omega
 rw [(bI_fin L1 L2 (by omega) (by omega)).2,(bI_fin H1 H2 (by omega) (by omega)).2]
 have:=vZ_le L1 H1 (by omega)
 have:=vZ_le L2 H2 (by omega)
 omega
theorem has_up (v L2 H1:Int) (hv:-9218868437227405312<v∧v<9218868437227405312) (h1:-9218868437227405312<H1∧H1≤9218868437227405312) (h2:-9218868437227405312≤L2∧L2<9218868437227405312):adZ 1 v L2≤H1 ↔ cB v (bI H1 (-L2)) (bV H1 (-L2))≤0:=by
 by_cases c:H1=9218868437227405312∨-L2=9218868437227405312
 ·have a:=bI_hi H1 (-L2) h1 (by omega) c
  rw [a.1]
  have e:cB v 1 (bV H1 (-L2)) = -1:=by unfold cB;rw [if_neg (by decide),cmI_lt _ _ (by omega)]
  rw [e]
  constructor
  ·intro _;omega
  ·intro _
   rcases c with c | c
   ·rw [c];exact (adZ_bd _ _ _).2
   ·rw [adZ_lo 1 v L2 (by omega) (by omega) (Or.inr (by omega))];omega
 ·have a:=bI_fin H1 (-L2) (by omega) (by omega)
  rw [a.1,a.2,cB0 v _ hv,cm_le,adZ_fin 1 v L2 hv (by omega),g1_up _ _ (by omega),vZ_neg]
  omega
theorem has_dn (v H2 L1:Int) (hv:-9218868437227405312<v∧v<9218868437227405312) (h1:-9218868437227405312≤L1∧L1<9218868437227405312) (h2:-9218868437227405312<H2∧H2≤9218868437227405312):adZ 1 (-v) (-H2)≤-L1 ↔ 0≤cB v (bI L1 (-H2)) (bV L1 (-H2)):=by
 by_cases c:L1 = -9218868437227405312∨-H2 = -9218868437227405312
 ·have a:=bI_lo L1 (-H2) h1 (by omega) c
  rw [a.1]
  have e:cB v (-1) (bV L1 (-H2))=1:=by unfold cB;rw [if_neg (by decide),cmI_gt _ _ (by omega)]
  rw [e]
  constructor
  ·intro _;omega
  ·intro _
   rcases c with c | c
   ·rw [c];exact (adZ_bd _ _ _).2
   ·rw [adZ_lo 1 (-v) (-H2) (by omega) (by omega) (Or.inr c)];omega
 ·have a:=bI_fin L1 (-H2) (by omega) (by omega)
  rw [a.1,a.2,cB0 v _ hv,cm_ge,adZ_fin 1 (-v) (-H2) (by omega) (by omega),g1_up _ _ (by omega),vZ_neg,vZ_neg,vZ_neg]
  omega
def anN (L L1 L2:Int):Prop:=L1=9218868437227405312∨L2=9218868437227405312∨L=9218868437227405312
instance (L L1 L2:Int):Decidable (anN L L1 L2):=by unfold anN;infer_instance
def anL (L H L1 H1 L2 H2:Int):Int:=if anN L L1 L2 then 9218868437227405312 else wiL L H (bI L1 L2) (bV L1 L2) (bI H1 H2) (bV H1 H2)
def anH (L H L1 H1 L2 H2:Int):Int:=if anN L L1 L2 then -9218868437227405312 else wiH L H (bI L1 L2) (bV L1 L2) (bI H1 H2) (bV H1 H2)
theorem an_vd (L H L1 H1 L2 H2:Int) (hx:VdZ L H) (d1:VdZ L1 H1) (d2:VdZ L2 H2):VdZ (anL L H L1 H1 L2 H2) (anH L H L1 H1 L2 H2):=by
 unfold anL anH
 by_cases c:anN L L1 L2
 ·rw [if_pos c,if_pos c];exact Or.inl ⟨rfl,rfl⟩
 ·rw [if_neg c,if_neg c]
  unfold anN at c
  refine wi_vd L H _ _ _ _ (b_ok L1 H1 L2 H2 d1 d2 (by omega) (by omega)) ?_
  unfold VdZ at hx
  omega
theorem bI_sym (x y:Int) (h:¬ (x=9218868437227405312∧y = -9218868437227405312)∧¬ (x = -9218868437227405312∧y=9218868437227405312)) (hx:BdZ x) (hy:BdZ y):bI x y=bI y x∧bV x y=bV y x:=by
 unfold BdZ at hx hy
 by_cases c1:x = -9218868437227405312∨y = -9218868437227405312
 ·have a:=bI_lo x y (by omega) (by omega) c1
  have b:=bI_lo y x (by omega) (by omega) (by omega)
  omega
 ·by_cases c2:x=9218868437227405312∨y=9218868437227405312
  ·have a:=bI_hi x y (by omega) (by omega) c2
   have b:=bI_hi y x (by omega) (by omega) (by omega)
   omega
  ·have a:=bI_fin x y (by omega) (by omega)
   have b:=bI_fin y x (by omega) (by omega)
   omega
theorem an_sym (L H L1 H1 L2 H2:Int) (d1:VdZ L1 H1) (d2:VdZ L2 H2):anL L H L1 H1 L2 H2=anL L H L2 H2 L1 H1∧anH L H L1 H1 L2 H2=anH L H L2 H2 L1 H1:=by
 unfold anL anH
 unfold VdZ at d1 d2
 by_cases c:anN L L1 L2
 ·have c2:anN L L2 L1:=by unfold anN at c ⊢;omega
  rw [if_pos c,if_pos c2,if_pos c,if_pos c2]
  exact ⟨rfl,rfl⟩
 ·have c2:¬ anN L L2 L1:=by unfold anN at c ⊢;omega
  rw [if_neg c,if_neg c2,if_neg c,if_neg c2]
  unfold anN at c
  have a:=bI_sym L1 L2 (by omega) (by unfold BdZ;omega) (by unfold BdZ;omega)
  have b:=bI_sym H1 H2 (by omega) (by unfold BdZ;omega) (by unfold BdZ;omega)
  rw [a.1,a.2,b.1,b.2]
  exact ⟨rfl,rfl⟩
set_option linter.unusedVariables false
set_option linter.unusedSimpArgs false
theorem raisedY_ (p9 q9 r9:Nat) (t1:(FloatKind.f64.format.order p9 0 == some Ordering.eq)=false) (t2:(FloatKind.f64.format.order q9 0 == some Ordering.eq)=true) (w:World):Calls Tryz.prog 147 #[.float .f64 p9,.float .f64 q9,.float .f64 r9] w fun e w'=>e=.returned (.float .f64 r9)∧Kp w w':=by
 go_enter Tryz.func147,Tryz.ntmps147
 go_wp2
 exact BR (v:=.float .f64 r9) (by simp [results,Tryz.results147,go_sem]) rfl ⟨rfl,(by repeat (with_reducible (first | assumption | exact Kp.refl _ | apply Kp.drew | apply Kp.alloc | apply Kp.drewN | (refine Kp.setCell ?_ (by first | omega | (simp <;> omega)) _) | (refine Kp.trans ?_ (by assumption)))))⟩
theorem raisedF_ (p9 q9 r9 Z9:Nat) (t1:(FloatKind.f64.format.order p9 0 == some Ordering.eq)=false) (t2:(FloatKind.f64.format.order q9 0 == some Ordering.eq)=false) (w:World) (hf:∀ W:World,Kp w W→Calls Tryz.prog 161 #[.int .i64 1,.float .f64 p9,.float .f64 q9,.float .f64 r9] W fun e w'=>e=.returned (.float .f64 Z9)∧Kp W w'):Calls Tryz.prog 147 #[.float .f64 p9,.float .f64 q9,.float .f64 r9] w fun e w'=>e=.returned (.float .f64 Z9)∧Kp w w':=by
 go_enter Tryz.func147,Tryz.ntmps147
 go_wp2_with (first | (go_at_call 161;refine (hf _ (Kp.refl _)).mono ?_;rintro e w1 ⟨rfl,g1⟩))
 exact BR (v:=.float .f64 Z9) (by simp [results,Tryz.results147,go_sem]) rfl ⟨rfl,(by repeat (with_reducible (first | assumption | exact Kp.refl _ | apply Kp.drew | apply Kp.alloc | apply Kp.drewN | (refine Kp.setCell ?_ (by first | omega | (simp <;> omega)) _) | (refine Kp.trans ?_ (by assumption)))))⟩
theorem lowest9_ (a9 b9 E9:Nat→Nat) (r9:Nat) (hM:∀ W:World,Calls Tryz.prog 68 #[.int .i64 (-1)] W fun e w'=>e=.returned (.float .f64 18442240474082181120)∧w'=W) (hP:∀ W:World,Calls Tryz.prog 68 #[.int .i64 1] W fun e w'=>e=.returned (.float .f64 9218868437227405312)∧w'=W) (t1:(FloatKind.f64.format.order r9 18442240474082181120 == some Ordering.eq)=false) (h0:E9 0=9218868437227405312) (w:World) (hR:∀ i j:Nat,i<2→j<2→∀ W:World,Kp w W→Calls Tryz.prog 147 #[.float .f64 (a9 i),.float .f64 (b9 j),.float .f64 r9] W fun e w'=>∃ Z9:Nat,e=.returned (.float .f64 Z9)∧(∀ (ts:Array TypeId) (t:TypeId) (w:World),(Builtin.min_ ts t #[.float .f64 (E9 (2*i+j)),.float .f64 Z9]).run Tryz.prog w=.ok (.float .f64 (E9 (2*i+j+1))) w)∧Kp W w'):Calls Tryz.prog 95 #[.agg #[.float .f64 (a9 0),.float .f64 (a9 1)],.agg #[.float .f64 (b9 0),.float .f64 (b9 1)],.float .f64 r9] w fun e w'=>e=.returned (.float .f64 (E9 4))∧Kp w w':=by
 go_enter Tryz.func95,Tryz.ntmps95
 go_upto_region 5 with (first | (have z9:=mk9;clear z9;go_at_call 68;refine (hP _).mono ?_;rintro e w1 ⟨rfl,hw1⟩;obtain rfl:=hw1.symm;clear hw1) | (go_at_call 68;refine (hM _).mono ?_;rintro e w1 ⟨rfl,hw1⟩;obtain rfl:=hw1.symm;clear hw1;have mk9:=t1))
 have kw:Kp w (((w.alloc (.cells #[.float .f64 (a9 0),.float .f64 (a9 1)] 29)).alloc (.cells #[.float .f64 (b9 0),.float .f64 (b9 1)] 29)).alloc (.cells #[.float .f64 (a9 0),.float .f64 (a9 1)] 27)):=(((Kp.refl w).alloc _).alloc _).alloc _
 have hA:BK (((w.alloc (.cells #[.float .f64 (a9 0),.float .f64 (a9 1)] 29)).alloc (.cells #[.float .f64 (b9 0),.float .f64 (b9 1)] 29)).alloc (.cells #[.float .f64 (a9 0),.float .f64 (a9 1)] 27)) w.heap.size #[.float .f64 (a9 0),.float .f64 (a9 1)] 29:=((BK.new w _ _).kp ((Kp.refl _).alloc _)).kp ((Kp.refl _).alloc _)
 have hB:BK (((w.alloc (.cells #[.float .f64 (a9 0),.float .f64 (a9 1)] 29)).alloc (.cells #[.float .f64 (b9 0),.float .f64 (b9 1)] 29)).alloc (.cells #[.float .f64 (a9 0),.float .f64 (a9 1)] 27)) (w.heap.size+1) #[.float .f64 (b9 0),.float .f64 (b9 1)] 29:=(BK.newAt (by simp) _ _).kp ((Kp.refl _).alloc _)
 have hG:BK (((w.alloc (.cells #[.float .f64 (a9 0),.float .f64 (a9 1)] 29)).alloc (.cells #[.float .f64 (b9 0),.float .f64 (b9 1)] 29)).alloc (.cells #[.float .f64 (a9 0),.float .f64 (a9 1)] 27)) (w.heap.size+2) #[.float .f64 (a9 0),.float .f64 (a9 1)] 27:=BK.newAt (by simp) _ _
 generalize (((w.alloc (.cells #[.float .f64 (a9 0),.float .f64 (a9 1)] 29)).alloc (.cells #[.float .f64 (b9 0),.float .f64 (b9 1)] 29)).alloc (.cells #[.float .f64 (a9 0),.float .f64 (a9 1)] 27))=W at kw hA hB hG ⊢
 go_wp2
 go_loopw [7,23] (fun s7 s23 wr=>∃ i:Nat,s7=.float .f64 (E9 (2*i))∧s23=.int .i64 (i:Int)∧i≤2∧BK wr w.heap.size #[.float .f64 (a9 0),.float .f64 (a9 1)] 29∧BK wr (w.heap.size+1) #[.float .f64 (b9 0),.float .f64 (b9 1)] 29∧BK wr (w.heap.size+2) #[.float .f64 (a9 0),.float .f64 (a9 1)] 27∧Kp w wr) (fun _ s23 _=>2 - (intOf s23).toNat)
 case atStart=>exact ⟨0,by rw [Nat.mul_zero,h0],rfl,by decide,hA,hB,hG,kw⟩
 case round =>
  clear hA hB hG kw
  obtain ⟨i,rfl,rfl,hi,hA,hB,hG,kw⟩:=hrel
  by_cases ci:i<2
  ·have ts0:(0:Int)≤(i:Int):=by omega
   have ts1:(i:Int)<2:=by omega
   have ca:wr.cell? ⟨w.heap.size+2,i,none⟩=some (.float .f64 (a9 i)):=by
    rcases (by omega:i=0∨i=1) with rfl | rfl
    ·exact (hG.cell 0).trans rfl
    ·exact (hG.cell 1).trans rfl
   obtain ⟨b0,bz0,b1,bz1⟩:=(show BK wr (w.heap.size+1) #[.float .f64 (b9 0),.float .f64 (b9 1)] _ from hB).c2;skip
   go_upto_region 8 with fail
   have kh:Kp wr (wr.alloc (.cells #[.float .f64 (b9 0),.float .f64 (b9 1)] 27)):=(Kp.refl _).alloc _
   have hH:BK (wr.alloc (.cells #[.float .f64 (b9 0),.float .f64 (b9 1)] 27)) wr.heap.size #[.float .f64 (b9 0),.float .f64 (b9 1)] 27:=BK.new _ _ _
   replace hA:=hA.kp kh;replace hB:=hB.kp kh;replace hG:=hG.kp kh;replace kw:=Kp.trans kw kh
   generalize (wr.alloc (.cells #[.float .f64 (b9 0),.float .f64 (b9 1)] 27))=W1 at hA hB hG hH kw ⊢
   generalize wr.heap.size=hb at hH ⊢
   clear ca kh b0 bz0 b1 bz1
   go_wp2
   go_loopw [7,33] (fun s7 s33 wr=>∃ j:Nat,s7=.float .f64 (E9 (2*i+j))∧s33=.int .i64 (j:Int)∧j≤2∧BK wr w.heap.size #[.float .f64 (a9 0),.float .f64 (a9 1)] 29∧BK wr (w.heap.size+1) #[.float .f64 (b9 0),.float .f64 (b9 1)] 29∧BK wr (w.heap.size+2) #[.float .f64 (a9 0),.float .f64 (a9 1)] 27∧BK wr hb #[.float .f64 (b9 0),.float .f64 (b9 1)] 27∧Kp w wr) (fun _ s33 _=>2 - (intOf s33).toNat)
   case atStart=>exact ⟨0,rfl,rfl,by decide,hA,hB,hG,hH,kw⟩
   case round =>
    clear hA hB hG hH kw
    obtain ⟨j,rfl,rfl,hj,hA,hB,hG,hH,kw⟩:=hrel
    by_cases cj:j<2
    ·have us0:(0:Int)≤(j:Int):=by omega
     have us1:(j:Int)<2:=by omega
     have cb:wr.cell? ⟨hb,j,none⟩=some (.float .f64 (b9 j)):=by
      rcases (by omega:j=0∨j=1) with rfl | rfl
      ·exact (hH.cell 0).trans rfl
      ·exact (hH.cell 1).trans rfl
     go_wp2_with (first | (go_at_call 147;refine (hR i j ci cj _ kw).mono ?_;rintro e wq ⟨Z9,rfl,hmin,gq⟩;replace hA:=hA.kp gq;replace hB:=hB.kp gq;replace hG:=hG.kp gq;replace hH:=hH.kp gq;replace kw:=Kp.trans kw gq))
     exact ⟨⟨j+1,rfl,by go_num,by omega,hA,hB,hG,hH,kw⟩,by simp [intOf];omega⟩
    ·have hj2:j=2:=by omega
     have e2:E9 (2*i+j)=E9 (2*(i+1)):=by rw [hj2];rfl
     rw [e2]
     clear e2
     go_wp2
     exact ⟨⟨i+1,rfl,by go_num,by omega,hA,hB,hG,kw⟩,by simp [intOf];omega⟩
  ·have hi2:i=2:=by omega
   have e2:E9 (2*i)=E9 4:=by rw [hi2]
   rw [e2]
   clear e2
   go_wp2
   exact BR (v:=.float .f64 (E9 4)) (by simp [results,Tryz.results95,go_sem]) rfl ⟨rfl,kw⟩
set_option linter.unusedVariables false
set_option linter.unusedSimpArgs false
theorem meetsF_ (a1 a2 b1 b2 z1 z2 c1 c2 U9:Nat) (w:World) (hl1:∀ W:World,Kp w W→Calls Tryz.prog 95 #[.agg #[.float .f64 a1,.float .f64 a2],.agg #[.float .f64 b1,.float .f64 b2],.float .f64 z1] W fun e w'=>e=.returned (.float .f64 U9)∧Kp W w') (t1:(FloatKind.f64.format.order U9 c2 == some Ordering.lt || FloatKind.f64.format.order U9 c2 == some Ordering.eq)=false):Calls Tryz.prog 40 #[.agg #[.float .f64 a1,.float .f64 a2],.agg #[.float .f64 b1,.float .f64 b2],.agg #[.float .f64 z1,.float .f64 z2],.agg #[.float .f64 c1,.float .f64 c2]] w fun e w'=>e=.returned (.bool false)∧Kp w w':=by
 go_enter Tryz.func40,Tryz.ntmps40
 go_upto_region 1 with fail
 have kw:Kp w ((((w.alloc (.cells #[.float .f64 a1,.float .f64 a2] 29)).alloc (.cells #[.float .f64 b1,.float .f64 b2] 29)).alloc (.cells #[.float .f64 z1,.float .f64 z2] 29)).alloc (.cells #[.float .f64 c1,.float .f64 c2] 29)):=((((Kp.refl w).alloc _).alloc _).alloc _).alloc _
 have ha:BK ((((w.alloc (.cells #[.float .f64 a1,.float .f64 a2] 29)).alloc (.cells #[.float .f64 b1,.float .f64 b2] 29)).alloc (.cells #[.float .f64 z1,.float .f64 z2] 29)).alloc (.cells #[.float .f64 c1,.float .f64 c2] 29)) (w.heap.size) #[.float .f64 a1,.float .f64 a2] 29:=((((BK.new w _ _).kp ((Kp.refl _).alloc _)).kp ((Kp.refl _).alloc _)).kp ((Kp.refl _).alloc _))
 have hb:BK ((((w.alloc (.cells #[.float .f64 a1,.float .f64 a2] 29)).alloc (.cells #[.float .f64 b1,.float .f64 b2] 29)).alloc (.cells #[.float .f64 z1,.float .f64 z2] 29)).alloc (.cells #[.float .f64 c1,.float .f64 c2] 29)) (w.heap.size+1) #[.float .f64 b1,.float .f64 b2] 29:=(((BK.newAt (by simp) _ _).kp ((Kp.refl _).alloc _)).kp ((Kp.refl _).alloc _))
 have hz:BK ((((w.alloc (.cells #[.float .f64 a1,.float .f64 a2] 29)).alloc (.cells #[.float .f64 b1,.float .f64 b2] 29)).alloc (.cells #[.float .f64 z1,.float .f64 z2] 29)).alloc (.cells #[.float .f64 c1,.float .f64 c2] 29)) (w.heap.size+2) #[.float .f64 z1,.float .f64 z2] 29:=((BK.newAt (by simp) _ _).kp ((Kp.refl _).alloc _))
 have hc:BK ((((w.alloc (.cells #[.float .f64 a1,.float .f64 a2] 29)).alloc (.cells #[.float .f64 b1,.float .f64 b2] 29)).alloc (.cells #[.float .f64 z1,.float .f64 z2] 29)).alloc (.cells #[.float .f64 c1,.float .f64 c2] 29)) (w.heap.size+3) #[.float .f64 c1,.float .f64 c2] 29:=(BK.newAt (by simp) _ _)
 generalize ((((w.alloc (.cells #[.float .f64 a1,.float .f64 a2] 29)).alloc (.cells #[.float .f64 b1,.float .f64 b2] 29)).alloc (.cells #[.float .f64 z1,.float .f64 z2] 29)).alloc (.cells #[.float .f64 c1,.float .f64 c2] 29))=W at kw ha hb hz hc ⊢
 refine Fq.wp_region_grow (by kernel_rfl) (by kernel_rfl) (fun ι _ G hG hall=>?_)
 have cc0:∀ n,(G n).cell? ⟨w.heap.size,0,none⟩=some (.float .f64 a1):=fun n=>Fq.gkeep (hG n) ((ha.cell 0).trans rfl)
 have cc1:∀ n,(G n).cell? ⟨w.heap.size,1,none⟩=some (.float .f64 a2):=fun n=>Fq.gkeep (hG n) ((ha.cell 1).trans rfl)
 have cc2:∀ n,(G n).cell? ⟨w.heap.size+1,0,none⟩=some (.float .f64 b1):=fun n=>Fq.gkeep (hG n) ((hb.cell 0).trans rfl)
 have cc3:∀ n,(G n).cell? ⟨w.heap.size+1,1,none⟩=some (.float .f64 b2):=fun n=>Fq.gkeep (hG n) ((hb.cell 1).trans rfl)
 have cc4:∀ n,(G n).cell? ⟨w.heap.size+2,0,none⟩=some (.float .f64 z1):=fun n=>Fq.gkeep (hG n) ((hz.cell 0).trans rfl)
 have cc5:∀ n,(G n).cell? ⟨w.heap.size+2,1,none⟩=some (.float .f64 z2):=fun n=>Fq.gkeep (hG n) ((hz.cell 1).trans rfl)
 have cc6:∀ n,(G n).cell? ⟨w.heap.size+3,0,none⟩=some (.float .f64 c1):=fun n=>Fq.gkeep (hG n) ((hc.cell 0).trans rfl)
 have cc7:∀ n,(G n).cell? ⟨w.heap.size+3,1,none⟩=some (.float .f64 c2):=fun n=>Fq.gkeep (hG n) ((hc.cell 1).trans rfl)
 repeat (go_big_quiet_step (first | (go_at_call_of 95 (Value.agg #[.float .f64 a1,.float .f64 a2]);exact (hl1 _ (Kp.trans kw (hG _))).mono (fun e w' h=>⟨h.1,hall _ (Fq.gtrans (hG _) h.2)⟩))))
 refine wpQuiet_nil ?_
 rintro _ ⟨nq,rfl⟩
 have gq:Kp W (G nq):=hG nq
 clear cc0 cc1 cc2 cc3 cc4 cc5 cc6 cc7 hall hG
 go_wp2
 exact BR (v:=.bool false) (by simp [results,Tryz.results40,go_sem]) rfl ⟨rfl,(Kp.trans kw gq)⟩
theorem meetsT_ (a1 a2 b1 b2 z1 z2 c1 c2 U9:Nat) (n1 n2 zn cn V9:Nat) (v9:Bool) (w:World) (hl1:∀ W:World,Kp w W→Calls Tryz.prog 95 #[.agg #[.float .f64 a1,.float .f64 a2],.agg #[.float .f64 b1,.float .f64 b2],.float .f64 z1] W fun e w'=>e=.returned (.float .f64 U9)∧Kp W w') (t1:(FloatKind.f64.format.order U9 c2 == some Ordering.lt || FloatKind.f64.format.order U9 c2 == some Ordering.eq)=true) (hn:∀ W:World,Calls Tryz.prog 49 #[.agg #[.float .f64 a1,.float .f64 a2]] W fun e w'=>e=.returned (.agg #[.float .f64 n1,.float .f64 n2])∧Kp W w') (hl2:∀ W:World,Kp w W→Calls Tryz.prog 95 #[.agg #[.float .f64 n1,.float .f64 n2],.agg #[.float .f64 b1,.float .f64 b2],.float .f64 zn] W fun e w'=>e=.returned (.float .f64 V9)∧Kp W w') (t2:(FloatKind.f64.format.order V9 cn == some Ordering.lt || FloatKind.f64.format.order V9 cn == some Ordering.eq)=v9) (hz9:∀ w:World,(Op.unary .neg (.float .f64 z2)).run Tryz.prog w=.ok (.float .f64 zn) w) (hc9:∀ w:World,(Op.unary .neg (.float .f64 c1)).run Tryz.prog w=.ok (.float .f64 cn) w):Calls Tryz.prog 40 #[.agg #[.float .f64 a1,.float .f64 a2],.agg #[.float .f64 b1,.float .f64 b2],.agg #[.float .f64 z1,.float .f64 z2],.agg #[.float .f64 c1,.float .f64 c2]] w fun e w'=>e=.returned (.bool v9)∧Kp w w':=by
 go_enter Tryz.func40,Tryz.ntmps40
 go_upto_region 1 with fail
 have kw:Kp w ((((w.alloc (.cells #[.float .f64 a1,.float .f64 a2] 29)).alloc (.cells #[.float .f64 b1,.float .f64 b2] 29)).alloc (.cells #[.float .f64 z1,.float .f64 z2] 29)).alloc (.cells #[.float .f64 c1,.float .f64 c2] 29)):=((((Kp.refl w).alloc _).alloc _).alloc _).alloc _
 have ha:BK ((((w.alloc (.cells #[.float .f64 a1,.float .f64 a2] 29)).alloc (.cells #[.float .f64 b1,.float .f64 b2] 29)).alloc (.cells #[.float .f64 z1,.float .f64 z2] 29)).alloc (.cells #[.float .f64 c1,.float .f64 c2] 29)) (w.heap.size) #[.float .f64 a1,.float .f64 a2] 29:=((((BK.new w _ _).kp ((Kp.refl _).alloc _)).kp ((Kp.refl _).alloc _)).kp ((Kp.refl _).alloc _))
 have hb:BK ((((w.alloc (.cells #[.float .f64 a1,.float .f64 a2] 29)).alloc (.cells #[.float .f64 b1,.float .f64 b2] 29)).alloc (.cells #[.float .f64 z1,.float .f64 z2] 29)).alloc (.cells #[.float .f64 c1,.float .f64 c2] 29)) (w.heap.size+1) #[.float .f64 b1,.float .f64 b2] 29:=(((BK.newAt (by simp) _ _).kp ((Kp.refl _).alloc _)).kp ((Kp.refl _).alloc _))
 have hz:BK ((((w.alloc (.cells #[.float .f64 a1,.float .f64 a2] 29)).alloc (.cells #[.float .f64 b1,.float .f64 b2] 29)).alloc (.cells #[.float .f64 z1,.float .f64 z2] 29)).alloc (.cells #[.float .f64 c1,.float .f64 c2] 29)) (w.heap.size+2) #[.float .f64 z1,.float .f64 z2] 29:=((BK.newAt (by simp) _ _).kp ((Kp.refl _).alloc _))
 have hc:BK ((((w.alloc (.cells #[.float .f64 a1,.float .f64 a2] 29)).alloc (.cells #[.float .f64 b1,.float .f64 b2] 29)).alloc (.cells #[.float .f64 z1,.float .f64 z2] 29)).alloc (.cells #[.float .f64 c1,.float .f64 c2] 29)) (w.heap.size+3) #[.float .f64 c1,.float .f64 c2] 29:=(BK.newAt (by simp) _ _)
 generalize ((((w.alloc (.cells #[.float .f64 a1,.float .f64 a2] 29)).alloc (.cells #[.float .f64 b1,.float .f64 b2] 29)).alloc (.cells #[.float .f64 z1,.float .f64 z2] 29)).alloc (.cells #[.float .f64 c1,.float .f64 c2] 29))=W at kw ha hb hz hc ⊢
 refine Fq.wp_region_grow (by kernel_rfl) (by kernel_rfl) (fun ι _ G hG hall=>?_)
 have cc0:∀ n,(G n).cell? ⟨w.heap.size,0,none⟩=some (.float .f64 a1):=fun n=>Fq.gkeep (hG n) ((ha.cell 0).trans rfl)
 have cc1:∀ n,(G n).cell? ⟨w.heap.size,1,none⟩=some (.float .f64 a2):=fun n=>Fq.gkeep (hG n) ((ha.cell 1).trans rfl)
 have cc2:∀ n,(G n).cell? ⟨w.heap.size+1,0,none⟩=some (.float .f64 b1):=fun n=>Fq.gkeep (hG n) ((hb.cell 0).trans rfl)
 have cc3:∀ n,(G n).cell? ⟨w.heap.size+1,1,none⟩=some (.float .f64 b2):=fun n=>Fq.gkeep (hG n) ((hb.cell 1).trans rfl)
 have cc4:∀ n,(G n).cell? ⟨w.heap.size+2,0,none⟩=some (.float .f64 z1):=fun n=>Fq.gkeep (hG n) ((hz.cell 0).trans rfl)
 have cc5:∀ n,(G n).cell? ⟨w.heap.size+2,1,none⟩=some (.float .f64 z2):=fun n=>Fq.gkeep (hG n) ((hz.cell 1).trans rfl)
 have cc6:∀ n,(G n).cell? ⟨w.heap.size+3,0,none⟩=some (.float .f64 c1):=fun n=>Fq.gkeep (hG n) ((hc.cell 0).trans rfl)
 have cc7:∀ n,(G n).cell? ⟨w.heap.size+3,1,none⟩=some (.float .f64 c2):=fun n=>Fq.gkeep (hG n) ((hc.cell 1).trans rfl)
 repeat (go_big_quiet_step (first | (go_at_call_of 95 (Value.agg #[.float .f64 n1,.float .f64 n2]);exact (hl2 _ (Kp.trans kw (hG _))).mono (fun e w' h=>⟨h.1,hall _ (Fq.gtrans (hG _) h.2)⟩)) | (go_at_call_of 95 (Value.agg #[.float .f64 a1,.float .f64 a2]);exact (hl1 _ (Kp.trans kw (hG _))).mono (fun e w' h=>⟨h.1,hall _ (Fq.gtrans (hG _) h.2)⟩)) | (go_at_call 49;exact (hn _).mono (fun e w' h=>⟨h.1,hall _ (Fq.gtrans (hG _) h.2)⟩))))
 refine wpQuiet_nil ?_
 rintro _ ⟨nq,rfl⟩
 have gq:Kp W (G nq):=hG nq
 clear cc0 cc1 cc2 cc3 cc4 cc5 cc6 cc7 hall hG
 go_wp2
 exact BR (v:=.bool v9) (by simp [results,Tryz.results40,go_sem]) rfl ⟨rfl,(Kp.trans kw gq)⟩
set_option linter.unusedVariables false
set_option linter.unusedSimpArgs false
theorem point9_ (v9:Nat) (w:World):Calls Tryz.prog 41 #[.float .f64 v9] w fun e w'=>e=.returned (.agg #[.float .f64 v9,.float .f64 v9])∧Kp w w':=by
 go_enter Tryz.func41,Tryz.ntmps41
 go_wp2
 exact BR (v:=.agg #[.float .f64 v9,.float .f64 v9]) (by simp [results,Tryz.results41,go_sem]) rfl ⟨rfl,(by repeat (with_reducible (first | assumption | exact Kp.refl _ | apply Kp.drew | apply Kp.alloc | apply Kp.drewN | (refine Kp.setCell ?_ (by first | omega | (simp <;> omega)) _) | (refine Kp.trans ?_ (by assumption)))))⟩
theorem has9_ (v9 b1 b2 c1 c2 ub vb:Nat) (V9:Bool) (W:World) (hB:BK W ub #[.float .f64 b1,.float .f64 b2] 29) (hC:BK W vb #[.float .f64 c1,.float .f64 c2] 29) (hm:∀ W':World,Kp W W'→Calls Tryz.prog 40 #[.agg #[.float .f64 4607182418800017408,.float .f64 4607182418800017408],.agg #[.float .f64 b1,.float .f64 b2],.agg #[.float .f64 v9,.float .f64 v9],.agg #[.float .f64 c1,.float .f64 c2]] W' fun e w'=>e=.returned (.bool V9)∧Kp W' w'):Calls Tryz.prog 39 #[.float .f64 v9,.pointer (some ⟨ub,0,none⟩),.pointer (some ⟨vb,0,none⟩)] W fun e w'=>e=.returned (.bool V9)∧Kp W w':=by
 go_enter Tryz.func39,Tryz.ntmps39
 go_wp2
 refine Fq.wp_region_grow (by kernel_rfl) (by kernel_rfl) (fun ι _ G hG hall=>?_)
 have cc0:∀ n,(G n).cell? ⟨ub,0,none⟩=some (.float .f64 b1):=fun n=>Fq.gkeep (hG n) ((hB.cell 0).trans rfl)
 have cc1:∀ n,(G n).cell? ⟨ub,1,none⟩=some (.float .f64 b2):=fun n=>Fq.gkeep (hG n) ((hB.cell 1).trans rfl)
 have cc2:∀ n,(G n).cell? ⟨vb,0,none⟩=some (.float .f64 c1):=fun n=>Fq.gkeep (hG n) ((hC.cell 0).trans rfl)
 have cc3:∀ n,(G n).cell? ⟨vb,1,none⟩=some (.float .f64 c2):=fun n=>Fq.gkeep (hG n) ((hC.cell 1).trans rfl)
 repeat (go_big_quiet_step (first | (go_at_call_of 41 (Value.float .f64 4607182418800017408);exact (point9_ 4607182418800017408 _).mono (fun e w' h=>⟨h.1,hall _ (Fq.gtrans (hG _) h.2)⟩)) | (go_at_call_of 41 (Value.float .f64 v9);exact (point9_ v9 _).mono (fun e w' h=>⟨h.1,hall _ (Fq.gtrans (hG _) h.2)⟩)) | (go_at_call 40;exact (hm _ (hG _)).mono (fun e w' h=>⟨h.1,hall _ (Fq.gtrans (hG _) h.2)⟩))))
 refine wpQuiet_nil ?_
 rintro _ ⟨nq,rfl⟩
 have gq:Kp W (G nq):=hG nq
 clear cc0 cc1 cc2 cc3 hall hG
 go_wp2
 exact BR (v:=.bool V9) (by simp [results,Tryz.results39,go_sem]) rfl ⟨rfl,gq⟩
set_option linter.unusedVariables false
set_option linter.unusedSimpArgs false

theorem opP_pw (x:Int) (h:BdZ x):opP (pw x)=pw (-x):=by
 have h2:=abs_pw x h
 unfold opP pw Fq.wD
 rcases Int.lt_trichotomy x 0 with c | c | c
 ·rw [decide_eq_true c,decide_eq_false (show ¬ -x<0 by omega),Int.natAbs_neg]
  simp;repeat' split
  all_goals omega
 ·subst c;rfl
 ·rw [decide_eq_false (show ¬ x<0 by omega),decide_eq_true (show -x<0 by omega),Int.natAbs_neg]
  simp;repeat' split
  all_goals omega
theorem vd_neg (L H:Int) (h:VdZ L H):VdZ (-H) (-L):=by unfold VdZ at *;omega
theorem minus9_ (x:Int) (h:BdZ x) (w:World):Calls Tryz.prog 107 #[.float .f64 (pw x)] w fun e w'=>e=.returned (.float .f64 (pw (-x)))∧w'=w:=by
 have g:=minus6_ (decide (x<0)) x.natAbs (abs_pw x h) w
 have e:=opP_pw x h
 unfold pw at e ⊢
 rw [e] at g
 exact g
theorem neg9_ (a b:Nat) (L H:Int) (hx:Rd a b L H) (w:World):Calls Tryz.prog 49 #[.agg #[.float .f64 a,.float .f64 b]] w fun e w'=>e=.returned (.agg #[.float .f64 (pw (-H)),.float .f64 (pw (-L))])∧Kp w w' :=
 neg6c_ a b _ _ _ _ hx.call (minus9_ L hx.vd.lo) (minus9_ H hx.vd.hi) w
theorem empty9_ (w:World):Calls Tryz.prog 89 #[] w fun e w'=>e=.returned (.agg #[.float .f64 9218868437227405312,.float .f64 18442240474082181120])∧Kp w w':=by
 refine (Fq.empty6_ w).mono ?_
 exact fun e w' h=>⟨h.1,by first | exact h.2 | (rw [h.2];exact (Kp.refl _).alloc _)⟩
end Go.Proofs.YtmpjcknaelgnoaaGreatDoor
