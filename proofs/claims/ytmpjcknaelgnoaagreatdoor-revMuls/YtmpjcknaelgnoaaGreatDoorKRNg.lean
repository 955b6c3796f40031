import Derived.Test.YtmpjcknaelgnoaaGreatDoorKRMl
import Derived.Test.YtmpjcknaelgnoaaGreatDoorKRNb
import Derived.Test.YtmpjcknaelgnoaaGreatDoorKRNd
import Derived.Test.YtmpjcknaelgnoaaGreatDoorKRNe
set_option maxHeartbeats 4000000
set_option maxRecDepth 20000
namespace Go.Proofs.YtmpjcknaelgnoaaGreatDoor
open Go.RowKit Tryz
set_option linter.all false

theorem oP:pw 0=0:=by decide
theorem FE (d:Int)(hd:d=1∨d = -1)(z:Int)(hz:-9218868437227405312<z∧z<9218868437227405312):gE d 1 1 (vZ z)=z:=by
 rcases hd with rfl|rfl
 ·have a:=(BJ (vZ z) z hz).2 (Int.le_refl _)
  have b:=(jo 1 1 (by decide) (vZ z)).2.2
  have c:=(BJ (vZ z) (gE 1 1 1 (vZ z)) (by omega)).1 (Int.le_refl _)
  rcases cC (gE 1 1 1 (vZ z)) z with q|q
  ·have:=jQ _ _ q;omega
  ·omega
 ·have a:=(BL (vZ z) z hz).2 (Int.le_refl _)
  have b:=(jo 1 1 (by decide) (vZ z)).2.1
  have c:=(BL (vZ z) (gE (-1) 1 1 (vZ z)) (by omega)).1 (Int.le_refl _)
  rcases cC z (gE (-1) 1 1 (vZ z))with q|q
  ·have:=jQ _ _ q;omega
  ·omega
theorem A8 (d:Int)(hd:d=1∨d = -1)(x y:Int)(hx:dl x)(hy:dl y)(h:x=0∨y=0)(w:World)(hT:TT w):Calls prog 139 #[.int .i64 d,.float .f64 (pw (x)),.float .f64 (pw (y))] w (RT (.float .f64 (pw (x-y))) w):=by
 have q:=EF d (sN x) (sN y) x.natAbs y.natAbs (aI x hx) (aI y hy) (by rcases hd with g|g<;>omega) (by rcases hd with g|g<;>omega) w hT.1 hT.2
 refine q.mono ?_
 rintro e i ⟨R,rfl,c,k⟩
 have f:oA d (sN x) x.natAbs (!(sN y)) y.natAbs=some (x-y):=by
  unfold dl at hx hy
  unfold oA
  rw[if_neg (by rcases h with g|g<;>subst g<;>simp<;>omega)]
  by_cases a:x.natAbs=9218868437227405312
  ·rw[if_pos a]
   have b:y=0:=by rcases h with g|g<;>omega
   subst b
   rcases(by omega:x=9218868437227405312∨x = -9218868437227405312)with rfl|rfl<;>rfl
  ·rw[if_neg a]
   by_cases c2:y.natAbs=9218868437227405312
   ·rw[if_pos c2]
    have x0:x=0:=by rcases h with g|g<;>omega
    subst x0
    rcases(by omega:y=9218868437227405312∨y = -9218868437227405312)with rfl|rfl<;>rfl
   ·rw[if_neg c2,Fy,pJ,pJ]
    rcases h with g|g
    ·subst g
     rw[dI,Int.zero_add,<-gG,FE d hd (-y) (by omega),Int.zero_sub]
    ·subst g
     rw[dI,Int.neg_zero,Int.add_zero,FE d hd x (by omega),Int.sub_zero]
 exact⟨by rw[c _ f];rfl,k⟩
theorem An (b:Int)(hb:dl b)(w:World):Calls prog 109 #[.float .f64 (pw (b)),.int .i64 1] w (RE (.bool (decide (b=9218868437227405312))) w):=by
 have t:=CS b 9218868437227405311 hb (by unfold dl;omega)
 rw[show pw 9218868437227405311=9218868437227405311 from by decide,show decide ((9218868437227405311:Int)<b)=decide (b=9218868437227405312)from decide_eq_decide.2 (by unfold dl at hb;omega)]at t
 exact xY _ _ t w
theorem FU (K:Nat)(hK:K=1074)(d:Int)(hd:d=1∨d = -1)(x b:Int)(hx:dl x)(hb:0<=b∧b<9218868437227405312)(h:b=0->x≠0)(w:World)(hT:TT w):Calls prog 195 #[.int .i64 d,.float .f64 (pw (x)),.float .f64 (pw (b))] w (RT (.float .f64 (pw (qZ K d x b))) w):=by
 have q:=FT K hK d (sN x) (sN b) x.natAbs b.natAbs (aI x hx) (aI b (by unfold dl;omega)) (by rcases hd with g|g<;>omega) (by rcases hd with g|g<;>omega) w hT.1 hT.2
 refine q.mono ?_
 rintro e j ⟨R,rfl,f,k⟩
 have a:sN b=false:=by unfold sN;exact ae (by omega)
 have i:oD K d (sN x) x.natAbs (sN b) b.natAbs=some (qZ K d x b):=by
  unfold dl at hx
  unfold oD qZ
  rw[if_neg (show ¬b=9218868437227405312 by omega),a]
  by_cases c:b=0
  ·rw[if_pos (show b.natAbs=0 by omega),if_neg (show ¬(x.natAbs=0∨9218868437227405312<x.natAbs)by have:=h c;omega),if_pos (show x=9218868437227405312∨x = -9218868437227405312∨b=0 from Or.inr (Or.inr c))]
   unfold rI sN
   by_cases g:x<0
   ·rw[if_pos g,if_pos (af g)]
   ·rw[if_neg g,if_neg (by simpa using g)]
  ·rw[if_neg (show ¬b.natAbs=0 by omega),if_neg (show ¬(9218868437227405312<x.natAbs∨9218868437227405312<b.natAbs∨(x.natAbs=9218868437227405312∧b.natAbs=9218868437227405312))by omega)]
   by_cases c2:x.natAbs=9218868437227405312
   ·rw[if_pos c2,if_pos (show x=9218868437227405312∨x = -9218868437227405312∨b=0 by omega)]
    rcases(by omega:x=9218868437227405312∨x = -9218868437227405312)with rfl|rfl<;>rfl
   ·rw[if_neg c2,if_neg (show ¬b.natAbs=9218868437227405312 by omega),if_neg (show ¬(x=9218868437227405312∨x = -9218868437227405312∨b=0)by omega),Bool.xor_false,pJ,kN b hb.1,aU]
 exact⟨by rw[f _ i];rfl,k⟩
theorem Bi (K:Nat)(hK:K=1074)(d:Int)(hd:d=1∨d = -1)(x y b:Int)(hx:dl x)(hy:dl y)(h0:x=0∨y=0)(hb:0<=b∧b<=9218868437227405312)(h:b=0->x-y≠0)(w:World)(hT:TT w):Calls prog 157 #[.int .i64 d,.float .f64 (pw (x)),.float .f64 (pw (y)),.float .f64 (pw (b))] w (RT (.float .f64 (pw (qZ K d (x-y) b))) w):=by
 have a:dl (x-y):=by unfold dl at *;omega
 have g:=fun(W:World) (k:Kp w W)=>A8 (-1) (Or.inr rfl) x y hx hy h0 W (hT.kp k)
 have f:=fun(W:World) (k:Kp w W)=>A8 1 (Or.inl rfl) x y hx hy h0 W (hT.kp k)
 have hi:=fun(W:World)=>An b (by unfold dl;omega) W
 by_cases c:b=9218868437227405312
 ·rw[af c]at hi
  have e:qZ K d (x-y) b=0:=by unfold qZ;rw[if_pos c]
  rw[e,oP]
  exact EU d _ _ _ _ _ w g f hi
 ·rw[ae c]at hi
  have i:=tB (PzR.pw a) (PzR.pw a)
  rw[af rfl]at i
  exact EV d _ _ _ _ _ w _ g f hi i (fun W k=>FU K hK d hd (x-y) b a (by omega) h W (hT.kp k))
theorem Bh (K:Nat)(hK:K=1074)(xL xH yL yH bL bH:Int)(h0:(xL=0∧xH=0)∨(yL=0∧yH=0))(dx:VdZ xL xH)(dy:VdZ yL yH)(nx:xL≠9218868437227405312)(ny:yL≠9218868437227405312)(hb:0<=bL∧bL<9218868437227405312∧0<bH∧bH<=9218868437227405312∧bL<=bH)(h:bL=0->¬(xL-yH<=0∧0<=xH-yL))(w:World)(hT:TT w):Calls prog 117 #[.agg #[.float .f64 (pw (xL)),.float .f64 (pw (xH))],.agg #[.float .f64 (pw (yL)),.float .f64 (pw (yH))],.agg #[.float .f64 (pw (bL)),.float .f64 (pw (bH))]] w (RT (.agg #[.float .f64 (pw (E5 K (xL-yH) (xH-yL) bL bH)),.float .f64 (pw (E6 K (xL-yH) (xH-yL) bL bH))]) w):=by
 have j:=dx
 have l:=dy
 unfold VdZ at j l
 have n:VdZ bL bH:=by unfold VdZ;omega
 have a:=fun(W:World)=>mj _ _ bL bH (Rd.of n) W
 rw[ae (show ¬bL=9218868437227405312 by omega)]at a
 have d:=GL xL yH dx.lo dy.hi
 have c:=zw xH yL dx.hi dy.lo
 have g:=fun(b:Int) (g1:0<=b∧b<=9218868437227405312) (g2:b=0->xL-yH≠0) (W:World) (k:Kp w W)=>Bi K hK (-1) (Or.inr rfl) xL yH b dx.lo dy.hi (by omega) g1 g2 W (hT.kp k)
 have i:=fun(b:Int) (g1:0<=b∧b<=9218868437227405312) (g2:b=0->xH-yL≠0) (W:World) (k:Kp w W)=>Bi K hK 1 (Or.inl rfl) xH yL b dx.hi dy.lo (by omega) g1 g2 W (hT.kp k)
 unfold E5 E6
 by_cases m:yH<=xL
 ·rw[af m]at d
  rw[if_pos (show 0<=xL-yH by omega)]
  by_cases f:xH<=yL
  ·rw[af f]at c
   rw[if_pos (show xH-yL<=0 by omega)]
   exact md.2.2.2 _ _ _ _ _ _ _ _ w a d c (g bH (by omega) (by omega)) (i bH (by omega) (by omega))
  ·rw[ae f]at c
   rw[if_neg (show ¬xH-yL<=0 by omega)]
   exact md.2.2.1 _ _ _ _ _ _ _ _ w a d c (g bH (by omega) (by omega)) (i bL (by omega) (by omega))
 ·rw[ae m]at d
  rw[if_neg (show ¬0<=xL-yH by omega)]
  by_cases f:xH<=yL
  ·rw[af f]at c
   rw[if_pos (show xH-yL<=0 by omega)]
   exact md.2.1 _ _ _ _ _ _ _ _ w a d c (g bL (by omega) (by omega)) (i bH (by omega) (by omega))
  ·rw[ae f]at c
   rw[if_neg (show ¬xH-yL<=0 by omega)]
   exact md.1 _ _ _ _ _ _ _ _ w a d c (g bL (by omega) (by omega)) (i bL (by omega) (by omega))
theorem wS (x1 x2 y1 y2:Nat)(w:World):Calls prog 117 #[.agg #[.float .f64 x1,.float .f64 x2],.agg #[.float .f64 y1,.float .f64 y2],.agg #[.float .f64 (pw (9218868437227405312)),.float .f64 (pw (-9218868437227405312))]] w (RT (.agg #[.float .f64 (pw (9218868437227405312)),.float .f64 (pw (-9218868437227405312))]) w):=by
 have a:=fun(W:World)=>mj _ _ 9218868437227405312 (-9218868437227405312) (Rd.of (Or.inl ⟨rfl,rfl⟩)) W
 rw[af rfl]at a
 exact ES _ _ _ _ _ _ w a
def yP (bL bH:Int):Int:=if bL<0 then bL else 9218868437227405312
def yQ (bL bH:Int):Int:=if bL<0 then min bH 0 else -9218868437227405312
def Ea (bL bH:Int):Int:=if 0<bH then max bL 0 else 9218868437227405312
def Eb (bL bH:Int):Int:=if 0<bH then bH else -9218868437227405312
theorem Ck (bL bH:Int)(hd:VdZ bL bH)(w:World):Calls prog 53 #[.agg #[.float .f64 (pw (bL)),.float .f64 (pw (bH))]] w (RT (.tuple #[.agg #[.float .f64 (pw (yP bL bH)),.float .f64 (pw (yQ bL bH))],.agg #[.float .f64 (pw (Ea bL bH)),.float .f64 (pw (Eb bL bH))]]) w):=by
 have z:dl 0:=by unfold dl;omega
 have b:=E8 bL 0 hd.lo z
 have a:=CS bH 0 hd.hi z
 have h:=xz bH 0 hd.hi z
 have g:=xC bL 0 hd.lo z
 rw[oP]at b a h g
 have f:=nl
 have d:=lJ
 unfold yP yQ Ea Eb
 by_cases c:bL<0
 ·rw[af c]at b
  rw[if_pos c,if_pos c]
  by_cases c2:0<bH
  ·rw[af c2]at a
   rw[if_pos c2,if_pos c2]
   exact jV.2.2.2 _ _ _ _ w iM b a h g
  ·rw[ae c2]at a
   rw[if_neg c2,if_neg c2,f,d]
   exact jV.2.2.1 _ _ _ w iM b a h
 ·rw[ae c]at b
  rw[if_neg c,if_neg c,f,d]
  by_cases c2:0<bH
  ·rw[af c2]at a
   rw[if_pos c2,if_pos c2]
   exact jV.2.1 _ _ _ w iM b a g
  ·rw[ae c2]at a
   rw[if_neg c2,if_neg c2,f,d]
   exact jV.1 _ _ w iM b a
theorem yr (w:World):Calls prog 116 #[] w (RT (.agg #[.float .f64 18442240474082181120,.float .f64 9218868437227405312]) w):=by
 refine(Fq.FQ w).mono ?_
 rintro e a ⟨rfl,rfl⟩
 exact⟨rfl,(Kp.refl _).alloc _⟩
theorem Fs (bL bH:Int)(hd:VdZ bL bH)(w:World):Calls prog 52 #[.float .f64 0,.agg #[.float .f64 (pw (bL)),.float .f64 (pw (bH))]] w (RT (.bool (decide (bL<=0∧0<=bH))) w):=by
 have z:dl 0:=by unfold dl;omega
 have b:=zw bL 0 hd.lo z
 have c:=zw 0 bH z hd.hi
 have a:=Ak 0 z
 rw[oP]at b c a
 rw[ae (by decide)]at a
 have h:=xA 0 (pw bL) (pw bH) _ _ (Rd.of hd).call false _ _ a b c w
 rw[show(!false && (decide (bL<=0) && decide (0<=bH)))=decide (bL<=0∧0<=bH)from by by_cases d:bL<=0<;>by_cases c2:0<=bH<;>simp[d,c2]]at h
 exact h
theorem FP (K:Nat)(hK:K=1074)(bL bH cL cH:Int)(hb:VdZ bL bH)(hc:VdZ cL cH)(w:World)(hT:TT w):Calls prog 58 #[.agg #[.float .f64 (pw (bL)),.float .f64 (pw (bH))],.agg #[.float .f64 0,.float .f64 0],.agg #[.float .f64 (pw (cL)),.float .f64 (pw (cH))]] w (RT (.tuple #[.agg #[.float .f64 (pw (gL K (fB K cL cH bL bH))),.float .f64 (pw (gH K (fB K cL cH bL bH)))],.agg #[.float .f64 (pw (gL K (ik K cL cH bL bH))),.float .f64 (pw (gH K (ik K cL cH bL bH)))]]) w):=by
 have j:VdZ 0 0:=by unfold VdZ;omega
 have i:=fun(W:World)=>mj _ _ 0 0 (Rd.of j) W
 rw[ae (show ¬(0:Int)=9218868437227405312 by decide),oP]at i
 have a:=fun(W:World)=>mj _ _ cL cH (Rd.of hc) W
 have n:=hb
 have m:=hc
 unfold VdZ at n m
 have l:=Gx K vC rfl
 by_cases f:cL=9218868437227405312
 ·rw[af f]at a
  have e:fB K cL cH bL bH=vC∧ik K cL cH bL bH=vC:=by unfold fB ik;rw[if_pos (Or.inl f),if_pos (Or.inl f)];exact⟨rfl,rfl⟩
  rw[e.1,e.2,l.1,l.2,nl,lJ]
  exact tZ.1 _ _ _ _ _ _ w iM i a
 ·rw[ae f]at a
  have d:=fun(W:World)=>Fs bL bH hb W
  have b:=fun(W:World)=>DY _ _ _ _ 0 0 cL cH (Rd.of j) (Rd.of hc) W
  rw[show decide (¬max 0 cL<=min 0 cH)=decide (¬(cL<=0∧0<=cH))from decide_eq_decide.2 (by omega),oP]at b
  by_cases c2:bL<=0∧0<=bH∧cL<=0∧0<=cH
  ·have o:¬(cL=9218868437227405312∨bL=9218868437227405312):=by omega
   rw[af (show bL<=0∧0<=bH from⟨c2.1,c2.2.1⟩)]at d
   rw[ae (show ¬¬(cL<=0∧0<=cH)from fun h=>h c2.2.2)]at b
   have e:fB K cL cH bL bH=tG∧ik K cL cH bL bH=vC:=by unfold fB ik;rw[if_neg o,if_neg o,if_pos c2,if_pos c2];exact⟨rfl,rfl⟩
   rw[e.1,e.2,l.1,l.2,(Ho K).1,(Ho K).2,nl,lJ]
   exact tZ.2 _ _ _ _ _ _ w iM yr i a d b
  ·
   have t:=fun(W:World)=>Ck bL bH hb W
   have u:VdZ (yP bL bH) (yQ bL bH):=by unfold yP yQ VdZ;split<;>omega
   have s:=fun(W:World)=>Bo _ _ (yP bL bH) (yQ bL bH) (Rd.of u) W
   have p:∀W:World,Kp w W->Calls prog 117 #[.agg #[.float .f64 0,.float .f64 0],.agg #[.float .f64 (pw (cL)),.float .f64 (pw (cH))],.agg #[.float .f64 (pw (-(yQ bL bH))),.float .f64 (pw (-(yP bL bH)))]] W (RT (.agg #[.float .f64 (pw (gL K (fB K cL cH bL bH))),.float .f64 (pw (gH K (fB K cL cH bL bH)))]) W):=by
    intro W k
    by_cases c:bL<0
    ·have e:fB K cL cH bL bH=iw K (-cH) (-cL) (-bH) (-bL):=by unfold fB;rw[if_neg (by omega),if_neg c2]
     have g:=Hp K (-cH) (-cL) (-bH) (-bL) (by unfold VdZ;omega) (by unfold VdZ;omega) (by omega)
     rw[if_neg (show ¬(-cH=9218868437227405312∨-bH=9218868437227405312∨-bL<=0)by omega),if_neg (show ¬(-cH=9218868437227405312∨-bH=9218868437227405312∨-bL<=0)by omega)]at g
     rw[e,g.1,g.2]
     have q:=Bh K hK 0 0 cL cH (max (-bH) 0) (-bL) (Or.inl ⟨rfl,rfl⟩) j hc (by decide) f (by omega) (by omega) W (hT.kp k)
     rw[Int.zero_sub,Int.zero_sub,oP]at q
     rw[show -(yQ bL bH)=max (-bH) 0 from by unfold yQ;rw[if_pos c];omega,show -(yP bL bH) = -bL from by unfold yP;rw[if_pos c]]
     exact q
    ·have e:gL K (fB K cL cH bL bH)=9218868437227405312∧gH K (fB K cL cH bL bH) = -9218868437227405312:=by
      refine Gx K _ ?_
      unfold fB
      by_cases c3:cL=9218868437227405312∨bL=9218868437227405312
      ·rw[if_pos c3];rfl
      ·rw[if_neg c3,if_neg c2]
       exact af (Or.inr (Or.inr (by omega)))
     rw[e.1,e.2,show -(yQ bL bH)=9218868437227405312 from by unfold yQ;rw[if_neg c,eW],show -(yP bL bH) = -9218868437227405312 from by unfold yP;rw[if_neg c]]
     exact wS _ _ _ _ W
   have r:∀W:World,Kp w W->Calls prog 117 #[.agg #[.float .f64 (pw (cL)),.float .f64 (pw (cH))],.agg #[.float .f64 0,.float .f64 0],.agg #[.float .f64 (pw (Ea bL bH)),.float .f64 (pw (Eb bL bH))]] W (RT (.agg #[.float .f64 (pw (gL K (ik K cL cH bL bH))),.float .f64 (pw (gH K (ik K cL cH bL bH)))]) W):=by
    intro W k
    by_cases c:0<bH
    ·have e:ik K cL cH bL bH=iw K cL cH bL bH:=by unfold ik;rw[if_neg (by omega),if_neg c2]
     have g:=Hp K cL cH bL bH hb hc c2
     rw[if_neg (show ¬(cL=9218868437227405312∨bL=9218868437227405312∨bH<=0)by omega),if_neg (show ¬(cL=9218868437227405312∨bL=9218868437227405312∨bH<=0)by omega)]at g
     rw[e,g.1,g.2]
     have q:=Bh K hK cL cH 0 0 (max bL 0) bH (Or.inr ⟨rfl,rfl⟩) hc j f (by decide) (by omega) (by omega) W (hT.kp k)
     rw[Int.sub_zero,Int.sub_zero,oP]at q
     rw[show Ea bL bH=max bL 0 from by unfold Ea;rw[if_pos c],show Eb bL bH=bH from by unfold Eb;rw[if_pos c]]
     exact q
    ·have e:gL K (ik K cL cH bL bH)=9218868437227405312∧gH K (ik K cL cH bL bH) = -9218868437227405312:=by
      refine Gx K _ ?_
      unfold ik
      by_cases c3:cL=9218868437227405312∨bL=9218868437227405312
      ·rw[if_pos c3];rfl
      ·rw[if_neg c3,if_neg c2]
       exact af (Or.inr (Or.inr (by omega)))
     rw[e.1,e.2,show Ea bL bH=9218868437227405312 from by unfold Ea;rw[if_neg c],show Eb bL bH = -9218868437227405312 from by unfold Eb;rw[if_neg c]]
     exact wS _ _ _ _ W
   by_cases c3:bL<=0∧0<=bH
   ·rw[af c3]at d
    rw[af (show ¬(cL<=0∧0<=cH)from fun h=>c2 ⟨c3.1,c3.2,h.1,h.2⟩)]at b
    exact tY.2 _ _ _ _ _ _ _ _ _ _ _ _ _ _ _ _ w i a d b t s p r
   ·rw[ae c3]at d
    exact tY.1 _ _ _ _ _ _ _ _ _ _ _ _ _ _ _ _ w i a d t s p r
set_option linter.all false

theorem wO (K:Nat)(hK:K=1074)(v q:Int)(r9:Nat)(hv:-9218868437227405312<v∧v<9218868437227405312)(hq:dl q)(hr:PzR r9 0):∃Z9:Nat,PzR Z9 (iV K v q)∧∀w:World,TT w->Calls prog 147 #[.float .f64 (pw (v)),.float .f64 (pw (q)),.float .f64 r9] w (RT (.float .f64 Z9) w):=by
 have b:PzR 0 0:=⟨false,0,by decide,rfl,rfl⟩
 have f:dl v:=by unfold dl;omega
 have a:=tB (PzR.pw f) b
 have c:=tB (PzR.pw hq) b
 by_cases d:v=0
 ·rw[af d]at a
  refine⟨r9, ?_,fun w hT=>wL _ _ r9 a w⟩
  rw[d,vW];exact hr
 ·rw[ae d]at a
  by_cases c2:q=0
  ·rw[af c2]at c
   refine⟨r9, ?_,fun w hT=>wM _ _ r9 a c w⟩
   have e:iV K v q=0:=by unfold iV;rw[if_pos (Or.inr c2)]
   rw[e];exact hr
  ·rw[ae c2]at c
   obtain⟨n,m,s,rfl,h⟩:=hr
   have j:m=0:=by unfold Fq.gU at h;cases n<;>simp at h<;>omega
   subst j
   have l:oF K 1 (sN v) v.natAbs (sN q) q.natAbs n 0=some (iV K v q):=by
    unfold dl at hq
    unfold oF iV
    rw[if_neg (show ¬(v=0∨q=0)by omega)]
    by_cases c3:q=9218868437227405312∨q = -9218868437227405312
    ·rw[if_neg (show ¬(v.natAbs<9218868437227405312∧q.natAbs<9218868437227405312)by omega),if_neg (show ¬(9218868437227405312<v.natAbs∨9218868437227405312<q.natAbs∨(v.natAbs=9218868437227405312∧q.natAbs=0)∨(v.natAbs=0∧q.natAbs=9218868437227405312))by omega),if_neg (show ¬(9218868437227405312<0∨(0=9218868437227405312∧(sN v ^^ sN q)≠n))by omega),if_pos c3]
     congr 1
     unfold rI sN
     rcases c3 with rfl|rfl<;>rcases Int.lt_or_lt_of_ne d with g|g
     ·rw[af g,if_pos (by decide),if_neg (by omega)]
     ·rw[ae (show ¬v<0 by omega),if_neg (by decide),if_pos (by omega)]
     ·rw[af g,if_neg (by decide),if_pos (by omega)]
     ·rw[ae (show ¬v<0 by omega),if_pos (by decide),if_neg (by omega)]
    ·rw[if_pos (show v.natAbs<9218868437227405312∧q.natAbs<9218868437227405312 by omega),if_pos (by decide),if_neg c3,pJ,pJ,show Iv n 0=0 from by unfold Iv;rw[Fq.gj];cases n<;>rfl,bV,Int.add_zero]
   have p:=iV K v q
   have i:dl (iV K v q):=by
    unfold iV dl
    have:=gS 1 1 (2^K) (vZ v*vZ q)
    repeat' split
    all_goals omega
   refine⟨_,PzR.pw i,fun w hT=>wN _ _ _ _ a c w (fun W k=>?_)⟩
   refine(FG K hK 1 (sN v) (sN q) n v.natAbs q.natAbs 0 (aI v f) (aI q hq) (by decide) (by decide) (by decide) W (hT.kp k).1 (hT.kp k).2).mono ?_
   rintro e r ⟨R,rfl,o,g⟩
   exact⟨by rw[o _ l];rfl,g⟩
theorem vU (K:Nat)(v q:Int):dl (iV K v q):=by
 unfold iV dl
 have:=gS 1 1 (2^K) (vZ v*vZ q)
 repeat' split
 all_goals omega
theorem Bt (K:Nat)(hK:K=1074)(v L H:Int)(r9:Nat)(hv:-9218868437227405312<v∧v<9218868437227405312)(hL:dl L)(hH:dl H)(hr:PzR r9 0):∃U9,PzR U9 (min (iV K v L) (iV K v H))∧∀W:World,TT W->Calls prog 95 #[.agg #[.float .f64 (pw (v)),.float .f64 (pw (v))],.agg #[.float .f64 (pw (L)),.float .f64 (pw (H))],.float .f64 r9] W (RT (.float .f64 U9) W):=by
 have z:=vU K v L
 have s:=vU K v H
 obtain⟨l,f,q⟩:=wO K hK v L r9 hv hL hr
 obtain⟨m,n,p⟩:=wO K hK v H r9 hv hH hr
 have b:PzR 9218868437227405312 9218868437227405312:=⟨false,9218868437227405312,by decide,rfl,rfl⟩
 have c:PzR 18442240474082181120 (-9218868437227405312):=⟨true,9218868437227405312,by decide,rfl,rfl⟩
 have g:=tB hr c
 rw[ae (by decide)]at g
 obtain⟨x,B,E⟩:=oO b f
 obtain⟨t,C,r⟩:=oO B n
 obtain⟨A,D,y⟩:=oO C f
 obtain⟨o,d,u⟩:=oO D n
 generalize iV K v L=x0 at *
 generalize iV K v H=x1 at *
 unfold dl at z s
 rw[show min (min (min (min 9218868437227405312 x0) x1) x0) x1=min x0 x1 by omega]at d
 refine⟨o,d,fun W hT=>?_⟩
 refine xF (fun _=>pw v) (fun j=>match j with|0=>pw L|_=>pw H) (fun k=>match k with|0=>9218868437227405312|1=>x|2=>t|3=>A|_=>o) r9 Fq.qO Fq.nP g rfl W ?_
 intro i j hi F a k
 rcases(by omega:i=0∨i=1)with rfl|rfl<;>rcases(by omega:j=0∨j=1)with rfl|rfl
 ·exact(q a (hT.kp k)).mono (fun e w' h=>⟨l,h.1,E,h.2⟩)
 ·exact(p a (hT.kp k)).mono (fun e w' h=>⟨m,h.1,r,h.2⟩)
 ·exact(q a (hT.kp k)).mono (fun e w' h=>⟨l,h.1,y,h.2⟩)
 ·exact(p a (hT.kp k)).mono (fun e w' h=>⟨m,h.1,u,h.2⟩)
theorem xB (K:Nat)(hK:K=1074)(v bL bH cL cH:Int)(hv:-9218868437227405312<v∧v<9218868437227405312)(db:VdZ bL bH)(dc:VdZ cL cH)(w:World)(hT:TT w):Calls prog 40 #[.agg #[.float .f64 (pw (v)),.float .f64 (pw (v))],.agg #[.float .f64 (pw (bL)),.float .f64 (pw (bH))],.agg #[.float .f64 0,.float .f64 0],.agg #[.float .f64 (pw (cL)),.float .f64 (pw (cH))]] w (RT (.bool (decide (fI K v bL bH cL cH))) w):=by
 have c:PzR 0 0:=⟨false,0,by decide,rfl,rfl⟩
 have m:dl 0:=by unfold dl;omega
 obtain⟨f,t,j⟩:=Bt K hK v bL bH 0 hv db.lo db.hi c
 obtain⟨l,i,d⟩:=xv 0 m
 rw[Int.neg_zero]at i
 rw[oP]at d
 obtain⟨s,p,o⟩:=Bt K hK (-v) bL bH l (by omega) db.lo db.hi i
 obtain⟨n,r,u⟩:=xv cL dc.lo
 have b:=Bj t (PzR.pw dc.hi)
 have q:=Bj p r
 by_cases a:min (iV K v bL) (iV K v bH)<=cH
 ·rw[af a]at b
  have x:VdZ v v:=by unfold VdZ;omega
  have h:=qF.1 (pw v) (pw v) (pw bL) (pw bH) 0 0 (pw cL) (pw cH) f (pw (-v)) (pw (-v)) l n s _ w (fun W k=>j W (hT.kp k)) b (Bo _ _ v v (Rd.of x)) (fun W k=>o W (hT.kp k)) q d u
  refine h.mono ?_
  rintro e y ⟨rfl,g⟩
  exact⟨by rw[decide_eq_decide.2 (show fI K v bL bH cL cH ↔ (min (iV K (-v) bL) (iV K (-v) bH)<=-cL)from⟨fun h=>h.2,fun h=>⟨a,h⟩⟩)],g⟩
 ·rw[ae a]at b
  rw[ae (show ¬fI K v bL bH cL cH from fun h=>a h.1)]
  exact qF.2 (pw v) (pw v) (pw bL) (pw bH) 0 0 (pw cL) (pw cH) f w (fun W k=>j W (hT.kp k)) b
theorem DT (has:Int->Bool)(yL yH:Int)(h:VdZ yL yH):VdZ (qX has yL yH) (qY has yL yH):=by
 unfold qX qY
 by_cases c:yL=yH∧has yL=false
 ·rw[if_pos c,if_pos c];exact Or.inl ⟨rfl,rfl⟩
 ·rw[if_neg c,if_neg c];exact h
theorem s4 (has:Int->Bool)(oL oH yL yH:Int)(ho:VdZ oL oH)(hy:VdZ yL yH):((decide (yL=yH)=false∨has yL=true)∧∀W:World,Calls prog 88 #[.agg #[.float .f64 (pw (oL)),.float .f64 (pw (oH))],.agg #[.float .f64 (pw (yL)),.float .f64 (pw (yH))]] W (RT (.agg #[.float .f64 (pw (min oL (qX has yL yH))),.float .f64 (pw (max oH (qY has yL yH)))]) W))∨(decide (yL=yH)=true∧has yL=false∧pw (min oL (qX has yL yH))=pw oL∧pw (max oH (qY has yL yH))=pw oH):=by
 unfold qX qY
 by_cases c:yL=yH∧has yL=false
 ·rw[if_pos c,if_pos c]
  right
  unfold VdZ at ho
  refine⟨af c.1,c.2,by rw[show min oL 9218868437227405312=oL by omega],by rw[show max oH (-9218868437227405312)=oH by omega]⟩
 ·rw[if_neg c,if_neg c]
  left
  refine⟨?_,fun W=>DB _ _ _ _ oL oH yL yH (Rd.of ho) (Rd.of hy) W⟩
  by_cases d:yL=yH
  ·right
   cases h:has yL with
   | true=>rfl
   | false=>exact absurd ⟨d,h⟩ c
  ·left;exact ae d
theorem CO (K:Nat)(hK:K=1074)(a b c d e f:Nat)(bL bH cL cH L H:Int)(rb:Rd a b bL bH)(rc:Rd c d cL cH)(rx:Rd e f L H)(w:World)(hT:TT w):Calls prog 17 #[.agg #[.float .f64 a,.float .f64 b],.agg #[.float .f64 c,.float .f64 d],.agg #[.float .f64 e,.float .f64 f]] w (RT (.agg #[.float .f64 (pw (zK K L H cL cH bL bH)),.float .f64 (pw (zL K L H cL cH bL bH))]) w):=by
 have i:=rb.vd
 have m:=rc.vd
 have r:=rx.vd
 have ok:=Fp K cL cH bL bH i m
 have x:=DH K (fB K cL cH bL bH) ok.1
 have u:=DH K (ik K cL cH bL bH) ok.2
 have o:=oi L H _ _ r x
 have p:=oi L H _ _ r u
 have A:VdZ 9218868437227405312 (-9218868437227405312):=Or.inl ⟨rfl,rfl⟩
 have z:VdZ 0 0:=by unfold VdZ;omega
 have t:=DT (fun v=>decide (fI K v bL bH cL cH)) _ _ o
 have l:=GE K L H (fB K cL cH bL bH) (ik K cL cH bL bH) r ok.1 ok.2 (fun v=>decide (fI K v bL bH cL cH)) (fun h=>(De K cL cH bL bH i m h).2.2)
 have s:=s4 (fun v=>decide (fI K v bL bH cL cH)) 9218868437227405312 (-9218868437227405312) (iL L H (gL K (fB K cL cH bL bH)) (gH K (fB K cL cH bL bH))) (iH L H (gL K (fB K cL cH bL bH)) (gH K (fB K cL cH bL bH))) A o
 have y:=s4 (fun v=>decide (fI K v bL bH cL cH)) (qX (fun v=>decide (fI K v bL bH cL cH)) (iL L H (gL K (fB K cL cH bL bH)) (gH K (fB K cL cH bL bH))) (iH L H (gL K (fB K cL cH bL bH)) (gH K (fB K cL cH bL bH)))) (qY (fun v=>decide (fI K v bL bH cL cH)) (iL L H (gL K (fB K cL cH bL bH)) (gH K (fB K cL cH bL bH))) (iH L H (gL K (fB K cL cH bL bH)) (gH K (fB K cL cH bL bH)))) (iL L H (gL K (ik K cL cH bL bH)) (gH K (ik K cL cH bL bH))) (iH L H (gL K (ik K cL cH bL bH)) (gH K (ik K cL cH bL bH))) t p
 rw[l.1,l.2]at y
 have C:=t
 unfold VdZ at C
 rw[show min 9218868437227405312 (qX (fun v=>decide (fI K v bL bH cL cH)) (iL L H (gL K (fB K cL cH bL bH)) (gH K (fB K cL cH bL bH))) (iH L H (gL K (fB K cL cH bL bH)) (gH K (fB K cL cH bL bH))))=(qX (fun v=>decide (fI K v bL bH cL cH)) (iL L H (gL K (fB K cL cH bL bH)) (gH K (fB K cL cH bL bH))) (iH L H (gL K (fB K cL cH bL bH)) (gH K (fB K cL cH bL bH))))by omega,show max (-9218868437227405312) (qY (fun v=>decide (fI K v bL bH cL cH)) (iL L H (gL K (fB K cL cH bL bH)) (gH K (fB K cL cH bL bH))) (iH L H (gL K (fB K cL cH bL bH)) (gH K (fB K cL cH bL bH))))=(qY (fun v=>decide (fI K v bL bH cL cH)) (iL L H (gL K (fB K cL cH bL bH)) (gH K (fB K cL cH bL bH))) (iH L H (gL K (fB K cL cH bL bH)) (gH K (fB K cL cH bL bH))))by omega,nl,lJ]at s
 refine xw a b c d e f _ _ w (fun W0 k0=>?_)
 refine yo a b 0 0 c d e f (pw bL) (pw bH) 0 0 (pw cL) (pw cH) (pw (gL K (fB K cL cH bL bH))) (pw (gH K (fB K cL cH bL bH))) (pw (gL K (ik K cL cH bL bH))) (pw (gH K (ik K cL cH bL bH))) _ _ W0 rb.call (by have q:=(Rd.of z).call;rw[oP]at q;exact q) rc.call (fun W k=>FP K hK bL bH cL cH i m W ((hT.kp k0).kp k)) (fun W g k hB hZ hC hP=>?_)
 have n:=(hT.kp k0).kp k
 refine Dl e f W0.heap.size (W0.heap.size+1) (W0.heap.size+2) (some ⟨g,0,none⟩) 2 2 (by decide) (fun j=>match j with|0=>pw (gL K (fB K cL cH bL bH))|_=>pw (gL K (ik K cL cH bL bH))) (fun j=>match j with|0=>pw (gH K (fB K cL cH bL bH))|_=>pw (gH K (ik K cL cH bL bH))) (fun j=>match j with|0=>pw (iL L H (gL K (fB K cL cH bL bH)) (gH K (fB K cL cH bL bH)))|_=>pw (iL L H (gL K (ik K cL cH bL bH)) (gH K (ik K cL cH bL bH)))) (fun j=>match j with|0=>pw (iH L H (gL K (fB K cL cH bL bH)) (gH K (fB K cL cH bL bH)))|_=>pw (iH L H (gL K (ik K cL cH bL bH)) (gH K (ik K cL cH bL bH)))) (fun j=>match j with|0=>9218868437227405312|1=>pw (qX (fun v=>decide (fI K v bL bH cL cH)) (iL L H (gL K (fB K cL cH bL bH)) (gH K (fB K cL cH bL bH))) (iH L H (gL K (fB K cL cH bL bH)) (gH K (fB K cL cH bL bH))))|_=>pw (zK K L H cL cH bL bH)) (fun j=>match j with|0=>18442240474082181120|1=>pw (qY (fun v=>decide (fI K v bL bH cL cH)) (iL L H (gL K (fB K cL cH bL bH)) (gH K (fB K cL cH bL bH))) (iH L H (gL K (fB K cL cH bL bH)) (gH K (fB K cL cH bL bH))))|_=>pw (zL K L H cL cH bL bH)) (fun j=>match j with|0=>decide ((iL L H (gL K (fB K cL cH bL bH)) (gH K (fB K cL cH bL bH)))=(iH L H (gL K (fB K cL cH bL bH)) (gH K (fB K cL cH bL bH))))|_=>decide ((iL L H (gL K (ik K cL cH bL bH)) (gH K (ik K cL cH bL bH)))=(iH L H (gL K (ik K cL cH bL bH)) (gH K (ik K cL cH bL bH))))) (fun j=>match j with|0=>decide (fI K (iL L H (gL K (fB K cL cH bL bH)) (gH K (fB K cL cH bL bH))) bL bH cL cH)|_=>decide (fI K (iL L H (gL K (ik K cL cH bL bH)) (gH K (ik K cL cH bL bH))) bL bH cL cH)) W
  (Or.inr ⟨g,0,rfl,hP.lt,fun j hj=>by
   rcases(by omega:j=0∨j=1)with rfl|rfl
   ·exact⟨(hP.cell 0).trans rfl,(hP.cell 1).trans rfl⟩
   ·exact⟨(hP.cell 2).trans rfl,(hP.cell 3).trans rfl⟩⟩) ⟨rfl,rfl⟩ iM
  (fun j hj W2=>by
   rcases(by omega:j=0∨j=1)with rfl|rfl
   ·exact rY e f _ _ L H _ _ rx (Rd.of x) W2
   ·exact rY e f _ _ L H _ _ rx (Rd.of u) W2)
  (fun j hj W2=>by
   rcases(by omega:j=0∨j=1)with rfl|rfl
   ·exact pS _ _ _ _ (Rd.of o) W2
   ·exact pS _ _ _ _ (Rd.of p) W2)
  (fun j hj hk W2 k2=>by
   rcases(by omega:j=0∨j=1)with rfl|rfl
   ·have B:=cM hk
    have q:=o
    unfold VdZ at q
    exact BE _ _ _ _ _ _ _ _ _ _ _ W2 (hB.kp k2) (hZ.kp k2) (hC.kp k2) (fun W3 k3=>xB K hK (iL L H (gL K (fB K cL cH bL bH)) (gH K (fB K cL cH bL bH))) bL bH cL cH (by omega) i m W3 ((n.kp k2).kp k3))
   ·have B:=cM hk
    have q:=p
    unfold VdZ at q
    exact BE _ _ _ _ _ _ _ _ _ _ _ W2 (hB.kp k2) (hZ.kp k2) (hC.kp k2) (fun W3 k3=>xB K hK (iL L H (gL K (ik K cL cH bL bH)) (gH K (ik K cL cH bL bH))) bL bH cL cH (by omega) i m W3 ((n.kp k2).kp k3)))
  (fun j hj=>by
   rcases(by omega:j=0∨j=1)with rfl|rfl
   ·exact s
   ·exact y)
theorem Dz (a b:Nat)(w:World):Calls prog 9 #[.agg #[.int .u64 ((a:Nat):Int),.int .u64 ((b:Nat):Int)]] w (RT (.agg #[.float .f64 a,.float .f64 b]) w):=by
 have d:=Fq.DO a
 have c:=Fq.DO b
 generalize (a:Int)=X at d|-
 generalize (b:Int)=Y at c|-
 go_enter func9,ntmps9
 go_wp2
 go_region_held3 (fun w'=>w'.cell? ⟨w.heap.size,0,none⟩=some (.int .u64 X)∧w'.cell? ⟨w.heap.size,1,none⟩=some (.int .u64 Y)) (simp[go_sem]) (fail)
 go_wp2
 exact BR (v:=.agg #[.float .f64 a,.float .f64 b]) ⟨rfl,(by repeat(with_reducible(first|assumption|exact Kp.refl _|apply Kp.drew|apply Kp.alloc|apply Kp.drewN|(refine Kp.setCell ?_ (by first|omega|(simp<;>omega)) _)|(refine Kp.trans ?_ (by assumption)))))⟩
theorem Fe (a b:Nat)(w:World):Calls prog 10 #[.agg #[.float .f64 a,.float .f64 b]] w (RT (.agg #[.int .u64 ((a:Nat):Int),.int .u64 ((b:Nat):Int)]) w):=by
 have d:=Fq.GX a
 have c:=Fq.GX b
 generalize (a:Int)=X at d|-
 generalize (b:Int)=Y at c|-
 go_enter func10,ntmps10
 go_wp2
 go_region_held3 (fun w'=>w'.cell? ⟨w.heap.size,0,none⟩=some (.float .f64 a)∧w'.cell? ⟨w.heap.size,1,none⟩=some (.float .f64 b)) (simp[go_sem,World.cell?_alloc_past]) (fail)
 go_wp2
 exact BR (v:=.agg #[.int .u64 X,.int .u64 Y]) ⟨rfl,(by repeat(with_reducible(first|assumption|exact Kp.refl _|apply Kp.drew|apply Kp.alloc|apply Kp.drewN|(refine Kp.setCell ?_ (by first|omega|(simp<;>omega)) _)|(refine Kp.trans ?_ (by assumption)))))⟩
set_option linter.all false
theorem Fm (X1 X2 Y1 Y2 Z1 Z2 Sa Sb:Int)(A1 A2 B1 B2 C1 C2 Pa Pb:Nat)(w:World)(hin1:KC 9 #[.agg #[.int .u64 X1,.int .u64 X2]] (.agg #[.float .f64 A1,.float .f64 A2]))(hin2:KC 9 #[.agg #[.int .u64 Y1,.int .u64 Y2]] (.agg #[.float .f64 B1,.float .f64 B2]))(hin3:KC 9 #[.agg #[.int .u64 Z1,.int .u64 Z2]] (.agg #[.float .f64 C1,.float .f64 C2]))(hp:KW w 17 #[.agg #[.float .f64 A1,.float .f64 A2],.agg #[.float .f64 B1,.float .f64 B2],.agg #[.float .f64 C1,.float .f64 C2]] (.agg #[.float .f64 Pa,.float .f64 Pb]))(ho:∀W:World,Calls prog 10 #[.agg #[.float .f64 Pa,.float .f64 Pb]] W (RT (.agg #[.int .u64 Sa,.int .u64 Sb]) W))(hr:∀W:World,Calls prog 18 #[.agg #[.int .u64 X1,.int .u64 X2],.agg #[.int .u64 Y1,.int .u64 Y2],.agg #[.int .u64 Z1,.int .u64 Z2]] W (RT (.agg #[.int .u64 Sa,.int .u64 Sb]) W)):Calls prog 4 #[.agg #[.int .u64 X1,.int .u64 X2,.int .u64 Y1,.int .u64 Y2,.int .u64 Z1,.int .u64 Z2]] w (RT (.bool true) w):=by
 go_enter func4,ntmps4
 go_upto_region 1 with fail
 obtain⟨k,a⟩:=aA (w.alloc (.cells #[.int .u64 X1,.int .u64 X2,.int .u64 Y1,.int .u64 Y2,.int .u64 Z1,.int .u64 Z2] 26))
 have m:Kp w k:=by subst a;exact(Kp.refl w).alloc _
 have b:BK k w.heap.size #[.int .u64 X1,.int .u64 X2,.int .u64 Y1,.int .u64 Y2,.int .u64 Z1,.int .u64 Z2] 26:=by subst a;exact BK.new _ _ _
 rw[<-a];clear a
 refine Fq.ej (by kernel_rfl) (by kernel_rfl) (fun ι _ G hG hall=>?_)
 have g:∀n,(G n).cell? ⟨w.heap.size,0,none⟩=some (.int .u64 X1):=fun n=>Fq.ft (hG n) ((b.cell 0).trans rfl)
 have f:∀n,(G n).cell? ⟨w.heap.size,1,none⟩=some (.int .u64 X2):=fun n=>Fq.ft (hG n) ((b.cell 1).trans rfl)
 have d:∀n,(G n).cell? ⟨w.heap.size,2,none⟩=some (.int .u64 Y1):=fun n=>Fq.ft (hG n) ((b.cell 2).trans rfl)
 have i:∀n,(G n).cell? ⟨w.heap.size,3,none⟩=some (.int .u64 Y2):=fun n=>Fq.ft (hG n) ((b.cell 3).trans rfl)
 have c:∀n,(G n).cell? ⟨w.heap.size,4,none⟩=some (.int .u64 Z1):=fun n=>Fq.ft (hG n) ((b.cell 4).trans rfl)
 have j:∀n,(G n).cell? ⟨w.heap.size,5,none⟩=some (.int .u64 Z2):=fun n=>Fq.ft (hG n) ((b.cell 5).trans rfl)
 repeat(go_big_quiet_step (first|(go_at_call_of 9 (Value.agg #[.int .u64 X1,.int .u64 X2]);exact(hin1 _).mono (fun e w' h=>⟨h.1,hall _ (Fq.iC (hG _) h.2)⟩))|(go_at_call_of 9 (Value.agg #[.int .u64 Y1,.int .u64 Y2]);exact(hin2 _).mono (fun e w' h=>⟨h.1,hall _ (Fq.iC (hG _) h.2)⟩))|(go_at_call_of 9 (Value.agg #[.int .u64 Z1,.int .u64 Z2]);exact(hin3 _).mono (fun e w' h=>⟨h.1,hall _ (Fq.iC (hG _) h.2)⟩))|(go_at_call 9;exact(hin1 _).mono (fun e w' h=>⟨h.1,hall _ (Fq.iC (hG _) h.2)⟩))|(go_at_call 9;exact(hin2 _).mono (fun e w' h=>⟨h.1,hall _ (Fq.iC (hG _) h.2)⟩))|(go_at_call 9;exact(hin3 _).mono (fun e w' h=>⟨h.1,hall _ (Fq.iC (hG _) h.2)⟩))|(go_at_call 17;exact(hp _ (Kp.trans m (hG _))).mono (fun e w' h=>⟨h.1,hall _ (Fq.iC (hG _) h.2)⟩))|(go_at_call 10;exact(ho _).mono (fun e w' h=>⟨h.1,hall _ (Fq.iC (hG _) h.2)⟩))|(go_at_call 18;exact(hr _).mono (fun e w' h=>⟨h.1,hall _ (Fq.iC (hG _) h.2)⟩))))
 refine wpQuiet_nil ?_
 rintro _ ⟨l,rfl⟩
 have o:Kp k (G l):=hG l
 clear g f d i c j hall hG
 go_wp2
 exact BR ⟨rfl,(Kp.trans m o)⟩

theorem wJ (a b c d e f:Nat)(ha:a<18446744073709551616)(hb:b<18446744073709551616)(hc:c<18446744073709551616)(hd:d<18446744073709551616)(he:e<18446744073709551616)(hf:f<18446744073709551616)(w:World)(hT0:Tab w)(hQ0:Fq.Tab w):Calls prog 4 #[.agg #[.int .u64 ((a:Nat):Int),.int .u64 ((b:Nat):Int),.int .u64 ((c:Nat):Int),.int .u64 ((d:Nat):Int),.int .u64 ((e:Nat):Int),.int .u64 ((f:Nat):Int)]] w (RT (.bool true) w):=by
 obtain⟨K,h⟩:∃K:Nat,K=1074:=⟨_,rfl⟩
 have p:TT w:=⟨hT0,hQ0⟩
 obtain⟨j,o,i⟩:=Rd.ex a b ha hb
 obtain⟨n,l,g⟩:=Rd.ex c d hc hd
 obtain⟨L,H,m⟩:=Rd.ex e f he hf
 exact Fm _ _ _ _ _ _ _ _ a b c d e f _ _ w (Dz a b) (Dz c d) (Dz e f) (fun W k=>CO K h a b c d e f j o n l L H i g m W (p.kp k)) (Fe _ _) (zh K h a b c d e f j o n l L H i g m)
end Go.Proofs.YtmpjcknaelgnoaaGreatDoor
