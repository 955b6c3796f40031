import Derived.Test.YtmpjcknaelgnoaaGreatDoorKRXm
set_option maxHeartbeats 4000000
set_option maxRecDepth 20000
namespace Go.Proofs.YtmpjcknaelgnoaaGreatDoor
open Go.RowKit
set_option linter.unusedVariables false
set_option linter.unusedSimpArgs false
theorem vV_one (K:Nat) (hK:K=1074):Fq.vV Ieee.double 4607182418800017408=2 ^ K:=by
 unfold Fq.vV Fq.mM Fq.eE
 rw [Fq.binD,if_neg (by decide),if_neg (by decide),show (4607182418800017408:Nat) / 4503599627370496 - 1=1022 from by decide,show (4503599627370496:Nat)+4607182418800017408 % 4503599627370496=2 ^ 52 from by decide]
 obtain ⟨j,hj⟩:∃ j,j=1022:=⟨_,rfl⟩
 rw [← hj,← Nat.pow_add,show 52+j=K from by omega]

theorem vZ_one (K:Nat) (hK:K=1074) (s:Bool):Iv s 4607182418800017408=(if s then -1 else 1)*((2 ^ K:Nat):Int):=by
 unfold Iv
 rw [vV_one K hK]
 cases s
 ·simp
 ·simp
theorem iv_pz9 (n:Bool) (m:Nat):Iv n m=vZ (Fq.plz n m):=by
 unfold Fq.plz
 cases n
 ·simp;rw [vZ_pos _ (by omega)];unfold Iv;simp
 ·simp;rw [vZ_neg,vZ_pos _ (by omega)];unfold Iv;simp
theorem vZ_sg (s:Bool) (q:Int):vZ (if s then -q else q)=(if s then -1 else 1)*vZ q:=by
 cases s
 ·simp
 ·simp [vZ_neg]
theorem g53_sc (d:Int) (c1 c2 k:Nat) (hc:0<c2) (hk:0<k) (V:Int) (hd:d=1∨d = -1):g53 d c1 (c2*k) (V*(k:Int))=g53 d c1 c2 V:=by
 have kp:(0:Int)<(k:Int):=by omega
 have hc2:0<c2*k:=Nat.mul_pos hc hk
 have E:∀ z:Int,(vZ z*((c2*k:Nat):Int)≤V*(k:Int)*(c1:Int) ↔ vZ z*(c2:Int)≤V*(c1:Int))∧(V*(k:Int)*(c1:Int)≤vZ z*((c2*k:Nat):Int) ↔ V*(c1:Int)≤vZ z*(c2:Int)):=by
  intro z
  rw [Int.natCast_mul,← Int.mul_assoc,show V*(k:Int)*(c1:Int)=V*(c1:Int)*(k:Int) from by ac_rfl]
  exact ⟨⟨fun h=>Int.le_of_mul_le_mul_right h kp,fun h=>Int.mul_le_mul_of_nonneg_right h (by omega)⟩,⟨fun h=>Int.le_of_mul_le_mul_right h kp,fun h=>Int.mul_le_mul_of_nonneg_right h (by omega)⟩⟩
 have a1:=g53_le d c1 (c2*k) (V*(k:Int))
 have a2:=g53_le d c1 c2 V
 rcases hd with rfl | rfl
 ·have b1:=(g53_lohi c1 (c2*k) hc2 (V*(k:Int))).2.2
  have b2:=(g53_lohi c1 c2 hc V).2.2
  have u1:=fun z hz=>g_up c1 (c2*k) hc2 (V*(k:Int)) z hz
  have u2:=fun z hz=>g_up c1 c2 hc V z hz
  generalize g53 1 c1 (c2*k) (V*(k:Int))=x at *
  generalize g53 1 c1 c2 V=y at *
  rcases Int.lt_trichotomy x y with c | c | c
  ·have:=(u2 x (by omega)).2 ((E x).2.1 ((u1 x (by omega)).1 (by omega)));omega
  ·exact c
  ·have:=(u1 y (by omega)).2 ((E y).2.2 ((u2 y (by omega)).1 (by omega)));omega
 ·have b1:=(g53_lohi c1 (c2*k) hc2 (V*(k:Int))).2.1
  have b2:=(g53_lohi c1 c2 hc V).2.1
  have u1:=fun z hz=>g_dn c1 (c2*k) hc2 (V*(k:Int)) z hz
  have u2:=fun z hz=>g_dn c1 c2 hc V z hz
  generalize g53 (-1) c1 (c2*k) (V*(k:Int))=x at *
  generalize g53 (-1) c1 c2 V=y at *
  rcases Int.lt_trichotomy x y with c | c | c
  ·have:=(u1 y (by omega)).2 ((E y).1.2 ((u2 y (by omega)).1 (by omega)));omega
  ·exact c
  ·have:=(u2 x (by omega)).2 ((E x).1.1 ((u1 x (by omega)).1 (by omega)));omega
def PzR (R:Nat) (z:Int):Prop:=∃ n m,m≤9218868437227405312∧R=Fq.wD n m∧Fq.plz n m=z
theorem PzR.pw {z:Int} (h:BdZ z):PzR (pw z) z:=⟨_,_,abs_pw z h,rfl,plz_pw z⟩
theorem pz_le {R S:Nat} {x y:Int} (h1:PzR R x) (h2:PzR S y):(FloatKind.f64.format.order R S == some Ordering.lt || FloatKind.f64.format.order R S == some Ordering.eq)=decide (x≤y):=by
 obtain ⟨n,m,hm,rfl,rfl⟩:=h1
 obtain ⟨n',m',hm',rfl,rfl⟩:=h2
 rw [Fq.fle n n' m m' (by omega) (by omega)]
 exact decide_eq_decide.2 ⟨fun h=>h.2.2,fun h=>⟨hm,hm',h⟩⟩
theorem pz_eq {R S:Nat} {x y:Int} (h1:PzR R x) (h2:PzR S y):(FloatKind.f64.format.order R S == some Ordering.eq)=decide (x=y):=by
 obtain ⟨n,m,hm,rfl,rfl⟩:=h1
 obtain ⟨n',m',hm',rfl,rfl⟩:=h2
 rw [Fq.feq n n' m m' (by omega) (by omega)]
 exact decide_eq_decide.2 ⟨fun h=>h.2.2,fun h=>⟨hm,hm',h⟩⟩
theorem pz_min {R S:Nat} {x y:Int} (h1:PzR R x) (h2:PzR S y):∃ Q,PzR Q (min x y)∧∀ (ts:Array TypeId) (t:TypeId) (w:World),(Builtin.min_ ts t #[.float .f64 R,.float .f64 S]).run Tryz.prog w=.ok (.float .f64 Q) w:=by
 have g1:=h1
 have g2:=h2
 obtain ⟨n,m,hm,rfl,rfl⟩:=h1
 obtain ⟨n',m',hm',rfl,rfl⟩:=h2
 have ho:=Fq.ordD n n' m m' hm hm'
 rcases Int.lt_trichotomy (Fq.plz n m) (Fq.plz n' m') with g | g | g
 ·rw [Fq.cmp_lt g] at ho
  refine ⟨Fq.wD n m, ?_,fun ts t w=>?_⟩
  rotate_left
  ·generalize Fq.wD n m=X at ho ⊢
   generalize Fq.wD n' m'=Y at ho ⊢
   simp [Builtin.min_,Builtin.min2,ho]
  ·rw [show min (Fq.plz n m) (Fq.plz n' m')=Fq.plz n m by omega];exact g1
 ·rw [Fq.cmp_eq g] at ho
  refine ⟨if (FloatKind.f64.decode (Fq.wD n m)).neg then Fq.wD n m else Fq.wD n' m', ?_,fun ts t w=>?_⟩
  ·rw [show min (Fq.plz n m) (Fq.plz n' m')=Fq.plz n m by omega]
   split
   ·exact g1
   ·rw [g];exact g2
  ·generalize Fq.wD n m=X at ho ⊢
   generalize Fq.wD n' m'=Y at ho ⊢
   simp [Builtin.min_,Builtin.min2,ho]
 ·rw [Fq.cmp_gt g] at ho
  refine ⟨Fq.wD n' m', ?_,fun ts t w=>?_⟩
  rotate_left
  ·generalize Fq.wD n m=X at ho ⊢
   generalize Fq.wD n' m'=Y at ho ⊢
   simp [Builtin.min_,Builtin.min2,ho]
  ·rw [show min (Fq.plz n m) (Fq.plz n' m')=Fq.plz n' m' by omega];exact g2
theorem oF_one (K:Nat) (hK:K=1074) (s:Bool) (q:Int) (nr:Bool) (mr:Nat) (hq:BdZ q) (hr:mr<9218868437227405312):oF K 1 s 4607182418800017408 (sN q) q.natAbs nr mr=some (adZ 1 (Fq.plz nr mr) (if s then -q else q)):=by
 unfold BdZ at hq
 have hp:-9218868437227405312<Fq.plz nr mr∧Fq.plz nr mr<9218868437227405312:=by unfold Fq.plz;cases nr <;> simp <;> omega
 unfold oF
 by_cases c:q.natAbs<9218868437227405312
 ·rw [if_pos ⟨by decide,c⟩,if_pos hr,vZ_one K hK,vZ_sn,iv_pz9,adZ_fin 1 _ _ hp (by cases s <;> simp <;> omega),vZ_sg]
  have e:(if s=true then (-1:Int) else 1)*((2 ^ K:Nat):Int)*vZ q+vZ (Fq.plz nr mr)*((2 ^ K:Nat):Int)=(vZ (Fq.plz nr mr)+(if s=true then (-1:Int) else 1)*vZ q)*((2 ^ K:Nat):Int):=by
   rw [Int.add_mul,Int.add_comm]
   congr 1
   ac_rfl
  rw [e]
  have:=g53_sc 1 1 1 (2 ^ K) (by decide) (Nat.two_pow_pos K) (vZ (Fq.plz nr mr)+(if s=true then (-1:Int) else 1)*vZ q) (Or.inl rfl)
  rw [Nat.one_mul] at this
  rw [this]
 ·rw [if_neg (fun h=>c h.2),if_neg (by omega),if_neg (by omega)]
  have hy:q=9218868437227405312∨q = -9218868437227405312:=by omega
  unfold adZ oA
  have q0:¬ (9218868437227405312<(Fq.plz nr mr).natAbs∨9218868437227405312<(if s=true then -q else q).natAbs∨((Fq.plz nr mr).natAbs=9218868437227405312∧(if s=true then -q else q).natAbs=9218868437227405312∧sN (Fq.plz nr mr)≠sN (if s=true then -q else q))):=by
   cases s <;> simp <;> omega
  rw [if_neg q0,if_neg (by omega),if_pos (by cases s <;> simp <;> omega)]
  rcases hy with rfl | rfl <;> cases s <;> rfl
theorem adZ_r0 (v:Int) (hv:-9218868437227405312<v∧v<9218868437227405312):adZ 1 v 0=v:=by
 rw [adZ_fin 1 v 0 hv (by omega),vZ_zero,Int.add_zero]
 have:=g53_sc 1 1 1 1 (by decide) (by decide) (vZ v) (Or.inl rfl)
 have a:=(g1_up (vZ v) v hv).2 (Int.le_refl _)
 have b:=(g53_lohi 1 1 (by decide) (vZ v)).2.2
 have c:=(g1_up (vZ v) (g53 1 1 1 (vZ v)) (by omega)).1 (Int.le_refl _)
 rcases Int.lt_or_le (g53 1 1 1 (vZ v)) v with d | d
 ·have:=vZ_lt _ _ d;omega
 ·omega
theorem adZ_mr (v x y:Int) (hv:-9218868437227405312<v∧v<9218868437227405312) (h:x≤y) (hx:-9218868437227405312≤x) (hy:y≤9218868437227405312):adZ 1 v x≤adZ 1 v y:=by
 by_cases c1:x = -9218868437227405312
 ·rw [c1,adZ_lo 1 v _ (by omega) (by omega) (Or.inr rfl)];exact (adZ_bd _ _ _).1
 ·by_cases c2:y=9218868437227405312
  ·rw [c2,adZ_hi 1 v 9218868437227405312 (by omega) (by omega) (Or.inr rfl)];exact (adZ_bd _ _ _).2
  ·rw [adZ_fin 1 v x hv (by omega),adZ_fin 1 v y hv (by omega)]
   exact g53_mono _ _ _ (by decide) _ _ (by have:=vZ_le x y h;omega)
theorem one_pz (s:Bool):PzR (Fq.wD s 4607182418800017408) (if s then -4607182418800017408 else 4607182418800017408):=⟨s,4607182418800017408,by decide,rfl,by cases s <;> rfl⟩
theorem raised9_ (K:Nat) (hK:K=1074) (s:Bool) (q v:Int) (r9:Nat) (hq:BdZ q) (hr:PzR r9 v) (hv:-9218868437227405312<v∧v<9218868437227405312):∃ Z9:Nat,PzR Z9 (adZ 1 v (if s then -q else q))∧∀ w:World,TT w→Calls Tryz.prog 147 #[.float .f64 (Fq.wD s 4607182418800017408),.float .f64 (pw q),.float .f64 r9] w fun e w'=>e=.returned (.float .f64 Z9)∧Kp w w':=by
 have hz0:PzR 0 0:=⟨false,0,by decide,rfl,rfl⟩
 have t1:=pz_eq (one_pz s) hz0
 rw [decide_eq_false (by cases s <;> decide)] at t1
 have t2:=pz_eq (PzR.pw hq) hz0
 by_cases c:q=0
 ·rw [decide_eq_true c] at t2
  refine ⟨r9, ?_,fun w hT=>raisedY_ _ _ r9 t1 t2 w⟩
  rw [show (if s=true then -q else q)=0 from by cases s <;> simp <;> omega,adZ_r0 v hv]
  exact hr
 ·rw [decide_eq_false c] at t2
  obtain ⟨n,m,hm,rfl,rfl⟩:=hr
  have hm2:m<9218868437227405312:=by unfold Fq.plz at hv;cases n <;> simp at hv <;> omega
  have hb:=adZ_bd 1 (Fq.plz n m) (if s=true then -q else q)
  refine ⟨_,PzR.pw hb,fun w hT=>raisedF_ _ _ _ _ t1 t2 w (fun W k=>?_)⟩
  refine (fmaO_ K hK 1 s (sN q) n 4607182418800017408 q.natAbs m (by decide) (aI q hq) (by omega) (by decide) (by decide) W (hT.kp k).1 (hT.kp k).2).mono ?_
  rintro e w' ⟨R,rfl,hR,g⟩
  exact ⟨by rw [hR _ (oF_one K hK s q n m hq hm2)];rfl,g⟩
theorem low9_ (K:Nat) (hK:K=1074) (s:Bool) (L H v:Int) (r9:Nat) (hL:BdZ L) (hH:BdZ H) (hr:PzR r9 v) (hv:-9218868437227405312<v∧v<9218868437227405312):∃ U9,PzR U9 (min (adZ 1 v (if s then -L else L)) (adZ 1 v (if s then -H else H)))∧∀ W:World,TT W→Calls Tryz.prog 95 #[.agg #[.float .f64 (Fq.wD s 4607182418800017408),.float .f64 (Fq.wD s 4607182418800017408)],.agg #[.float .f64 (pw L),.float .f64 (pw H)],.float .f64 r9] W fun e w'=>e=.returned (.float .f64 U9)∧Kp W w':=by
 have z0:=adZ_bd 1 v (if s=true then -L else L)
 have z1:=adZ_bd 1 v (if s=true then -H else H)
 obtain ⟨X0,p0,c0⟩:=raised9_ K hK s L v r9 hL hr hv
 obtain ⟨X1,p1,c1⟩:=raised9_ K hK s H v r9 hH hr hv
 have pI9:PzR 9218868437227405312 9218868437227405312:=⟨false,9218868437227405312,by decide,rfl,rfl⟩
 have pM9:PzR 18442240474082181120 (-9218868437227405312):=⟨true,9218868437227405312,by decide,rfl,rfl⟩
 have t1:=pz_eq hr pM9
 rw [decide_eq_false (by omega)] at t1
 obtain ⟨R1,q1,m1⟩:=pz_min pI9 p0
 obtain ⟨R2,q2,m2⟩:=pz_min q1 p1
 obtain ⟨R3,q3,m3⟩:=pz_min q2 p0
 obtain ⟨R4,q4,m4⟩:=pz_min q3 p1
 generalize adZ 1 v (if s=true then -L else L)=x0 at *
 generalize adZ 1 v (if s=true then -H else H)=x1 at *
 unfold BdZ at z0 z1
 rw [show min (min (min (min 9218868437227405312 x0) x1) x0) x1=min x0 x1 by omega] at q4
 refine ⟨R4,q4,fun W hT=>?_⟩
 refine lowest9_ (fun _=>Fq.wD s 4607182418800017408) (fun j=>match j with | 0=>pw L | _=>pw H) (fun k=>match k with | 0=>9218868437227405312 | 1=>R1 | 2=>R2 | 3=>R3 | _=>R4) r9 Fq.infm_ Fq.inf1_ t1 rfl W ?_
 intro i j hi hj W2 k
 rcases (by omega:i=0∨i=1) with rfl | rfl <;> rcases (by omega:j=0∨j=1) with rfl | rfl
 ·exact (c0 W2 (hT.kp k)).mono (fun e w' h=>⟨X0,h.1,m1,h.2⟩)
 ·exact (c1 W2 (hT.kp k)).mono (fun e w' h=>⟨X1,h.1,m2,h.2⟩)
 ·exact (c0 W2 (hT.kp k)).mono (fun e w' h=>⟨X0,h.1,m3,h.2⟩)
 ·exact (c1 W2 (hT.kp k)).mono (fun e w' h=>⟨X1,h.1,m4,h.2⟩)
theorem neg_pz (v:Int) (hv:BdZ v):∃ R,PzR R (-v)∧∀ w:World,(Op.unary .neg (.float .f64 (pw v))).run Tryz.prog w=.ok (.float .f64 R) w:=by
 refine ⟨Fq.wD (!(decide (v<0))) v.natAbs,⟨_,_,abs_pw v hv,rfl, ?_⟩,fun w=>negW8 (decide (v<0)) v.natAbs (by have:=abs_pw v hv;omega) w⟩
 unfold Fq.plz
 by_cases c:v<0
 ·simp [c];omega
 ·simp [c];omega
def hasP (v Lb Hb Lc Hc:Int):Prop:=adZ 1 v Lb≤Hc∧adZ 1 (-v) (-Hb)≤-Lc
instance (v Lb Hb Lc Hc:Int):Decidable (hasP v Lb Hb Lc Hc):=by unfold hasP;infer_instance
theorem meets9_ (K:Nat) (hK:K=1074) (v Lb Hb Lc Hc:Int) (hv:-9218868437227405312<v∧v<9218868437227405312) (db:VdZ Lb Hb) (dc:VdZ Lc Hc) (nb:Lb≠9218868437227405312) (w:World) (hT:TT w):Calls Tryz.prog 40 #[.agg #[.float .f64 4607182418800017408,.float .f64 4607182418800017408],.agg #[.float .f64 (pw Lb),.float .f64 (pw Hb)],.agg #[.float .f64 (pw v),.float .f64 (pw v)],.agg #[.float .f64 (pw Lc),.float .f64 (pw Hc)]] w fun e w'=>e=.returned (.bool (decide (hasP v Lb Hb Lc Hc)))∧Kp w w':=by
 have bv:BdZ v:=by unfold BdZ;omega
 obtain ⟨U9,pU,cU⟩:=low9_ K hK false Lb Hb v (pw v) db.lo db.hi (PzR.pw bv) hv
 obtain ⟨rn,pn,cn⟩:=neg_pz v bv
 obtain ⟨V9,pV,cV⟩:=low9_ K hK true Lb Hb (-v) rn db.lo db.hi pn (by omega)
 obtain ⟨rc,pc,cc⟩:=neg_pz Lc dc.lo
 have hx:=db
 unfold VdZ at hx
 simp only [if_true,Bool.false_eq_true,if_false] at pU pV
 have e1:=adZ_mr v Lb Hb hv (by omega) (by omega) (by omega)
 have e2:=adZ_mr (-v) (-Hb) (-Lb) (by omega) (by omega) (by omega) (by omega)
 rw [show min (adZ 1 v Lb) (adZ 1 v Hb)=adZ 1 v Lb by omega] at pU
 rw [show min (adZ 1 (-v) (-Lb)) (adZ 1 (-v) (-Hb))=adZ 1 (-v) (-Hb) by omega] at pV
 have t1:=pz_le pU (PzR.pw dc.hi)
 have t2:=pz_le pV pc
 by_cases g1:adZ 1 v Lb≤Hc
 ·rw [decide_eq_true g1] at t1
  have h:=meetsT_ 4607182418800017408 4607182418800017408 (pw Lb) (pw Hb) (pw v) (pw v) (pw Lc) (pw Hc) U9 (Fq.wD true 4607182418800017408) (Fq.wD true 4607182418800017408) rn rc V9 _ w (fun W k=>cU W (hT.kp k)) t1 (neg9_ 4607182418800017408 4607182418800017408 4607182418800017408 4607182418800017408 (Rd.of (L:=4607182418800017408) (H:=4607182418800017408) (by unfold VdZ;omega))) (fun W k=>cV W (hT.kp k)) t2 cn cc
  refine h.mono ?_
  rintro e w' ⟨rfl,g⟩
  exact ⟨by rw [decide_eq_decide.2 (show hasP v Lb Hb Lc Hc ↔ (adZ 1 (-v) (-Hb)≤-Lc) from ⟨fun h=>h.2,fun h=>⟨g1,h⟩⟩)],g⟩
 ·rw [decide_eq_false g1] at t1
  rw [decide_eq_false (show ¬ hasP v Lb Hb Lc Hc from fun h=>g1 h.1)]
  exact meetsF_ 4607182418800017408 4607182418800017408 (pw Lb) (pw Hb) (pw v) (pw v) (pw Lc) (pw Hc) U9 w (fun W k=>cU W (hT.kp k)) t1
set_option linter.unusedVariables false
theorem add6v1_ (a b c d L1 H1 L2 H2:Nat) (hx:KC 38 #[.agg #[.float .f64 a,.float .f64 b]] (.agg #[.float .f64 L1,.float .f64 H1])) (hy:KC 38 #[.agg #[.float .f64 c,.float .f64 d]] (.agg #[.float .f64 L2,.float .f64 H2])) (hv1:KC 110 #[.agg #[.float .f64 L1,.float .f64 H1]] (.bool true)) (hE:KC 89 #[] (.agg #[.float .f64 9218868437227405312,.float .f64 18442240474082181120])) (w:World):Calls Tryz.prog 97 #[.agg #[.float .f64 a,.float .f64 b],.agg #[.float .f64 c,.float .f64 d]] w fun e w'=>e=.returned (.agg #[.float .f64 9218868437227405312,.float .f64 18442240474082181120])∧Kp w w':=by
  go_enter Tryz.func97,Tryz.ntmps97
  go_wp2
  go_region_with (first | (go_at_call_of 38 (Value.agg #[.float .f64 a,.float .f64 b]);refine (hx _).mono ?_;rintro e wx ⟨rfl,gx⟩;first | (have kx:=Kp.trans ky gx;have sx:=H6.keep sy gx;obtain ⟨⟨p0,p1,p2,p3⟩,⟨p4,p5,p6,p7⟩,⟨p8,p9,pa,pb⟩⟩:=id sx) | (have kx:Kp w wx:=Kp.trans (((((Kp.refl w).alloc _).alloc _).alloc _).drew) gx;have sx:=H6.keep (H6.new w (.float .f64 a) (.float .f64 b) (.float .f64 c) (.float .f64 d) (.float .f64 0) (.float .f64 0) 29 29 29) (Kp.trans (Kp.drew (Kp.refl _)) gx);obtain ⟨⟨p0,p1,p2,p3⟩,⟨p4,p5,p6,p7⟩,⟨p8,p9,pa,pb⟩⟩:=id sx)) | (go_at_call_of 38 (Value.agg #[.float .f64 c,.float .f64 d]);refine (hy _).mono ?_;rintro e wy ⟨rfl,gy⟩;first | (have ky:=Kp.trans kx gy;have sy:=H6.keep sx gy;obtain ⟨⟨p0,p1,p2,p3⟩,⟨p4,p5,p6,p7⟩,⟨p8,p9,pa,pb⟩⟩:=id sy) | (have ky:Kp w wy:=Kp.trans (((((Kp.refl w).alloc _).alloc _).alloc _).drew) gy;have sy:=H6.keep (H6.new w (.float .f64 a) (.float .f64 b) (.float .f64 c) (.float .f64 d) (.float .f64 0) (.float .f64 0) 29 29 29) (Kp.trans (Kp.drew (Kp.refl _)) gy);obtain ⟨⟨p0,p1,p2,p3⟩,⟨p4,p5,p6,p7⟩,⟨p8,p9,pa,pb⟩⟩:=id sy)))
  all_goals (first
   | skip
     have sw:=H6.put (id sy:H6 wy w.heap.size (.float .f64 a) (.float .f64 b) (.float .f64 c) (.float .f64 d) (.float .f64 0) (.float .f64 0)) (.float .f64 L1) (.float .f64 H1) (.float .f64 L2) (.float .f64 H2)
     have kw:Kp w ((((wy.setCell ⟨w.heap.size,0,none⟩ (.float .f64 L1)).setCell ⟨w.heap.size,1,none⟩ (.float .f64 H1)).setCell ⟨w.heap.size+1,0,none⟩ (.float .f64 L2)).setCell ⟨w.heap.size+1,1,none⟩ (.float .f64 H2)):=(((ky.setCell (Nat.le_refl _) _).setCell (Nat.le_refl _) _).setCell (Nat.le_succ _) _).setCell (Nat.le_succ _) _
     generalize hW:((((wy.setCell ⟨w.heap.size,0,none⟩ (.float .f64 L1)).setCell ⟨w.heap.size,1,none⟩ (.float .f64 H1)).setCell ⟨w.heap.size+1,0,none⟩ (.float .f64 L2)).setCell ⟨w.heap.size+1,1,none⟩ (.float .f64 H2))=W at sw kw ⊢
     clear hW
   | skip
     have sw:=H6.put (id sx:H6 wx w.heap.size (.float .f64 a) (.float .f64 b) (.float .f64 c) (.float .f64 d) (.float .f64 0) (.float .f64 0)) (.float .f64 L1) (.float .f64 H1) (.float .f64 L2) (.float .f64 H2)
     have kw:Kp w ((((wx.setCell ⟨w.heap.size,0,none⟩ (.float .f64 L1)).setCell ⟨w.heap.size,1,none⟩ (.float .f64 H1)).setCell ⟨w.heap.size+1,0,none⟩ (.float .f64 L2)).setCell ⟨w.heap.size+1,1,none⟩ (.float .f64 H2)):=(((kx.setCell (Nat.le_refl _) _).setCell (Nat.le_refl _) _).setCell (Nat.le_succ _) _).setCell (Nat.le_succ _) _
     generalize hW:((((wx.setCell ⟨w.heap.size,0,none⟩ (.float .f64 L1)).setCell ⟨w.heap.size,1,none⟩ (.float .f64 H1)).setCell ⟨w.heap.size+1,0,none⟩ (.float .f64 L2)).setCell ⟨w.heap.size+1,1,none⟩ (.float .f64 H2))=W at sw kw ⊢
     clear hW)
  all_goals (
   obtain ⟨⟨p0,p1,p2,p3⟩,⟨p4,p5,p6,p7⟩,⟨p8,p9,pa,pb⟩⟩:=id sw
   go_wp2_with (first | (go_at_call_of 110 (Value.agg #[.float .f64 L1,.float .f64 H1]);refine (hv1 _).mono ?_;rintro e wv ⟨rfl,gv⟩;have kv:=Kp.trans kw gv;have sv:=H6.keep sw gv;obtain ⟨⟨u0,u1,u2,u3⟩,⟨u4,u5,u6,u7⟩,⟨u8,u9,ua,ub⟩⟩:=id sv) | (go_at_call 89;refine (hE _).mono ?_;rintro e we ⟨rfl,ge⟩;obtain ⟨⟨e0,e1,e2,e3⟩,⟨e4,e5,e6,e7⟩,⟨e8,e9,ea,eb⟩⟩:=H6.keep sv ge;have ke:=Kp.trans kv ge))
   exact BR (v:=.agg #[.float .f64 9218868437227405312,.float .f64 18442240474082181120]) (by simp [results,Tryz.results97,go_sem,e8,e9]) rfl ⟨rfl,(ke.setCell (by simp;omega) _).setCell (by simp;omega) _⟩)
theorem add6v2_ (a b c d L1 H1 L2 H2:Nat) (hx:KC 38 #[.agg #[.float .f64 a,.float .f64 b]] (.agg #[.float .f64 L1,.float .f64 H1])) (hy:KC 38 #[.agg #[.float .f64 c,.float .f64 d]] (.agg #[.float .f64 L2,.float .f64 H2])) (hv1:KC 110 #[.agg #[.float .f64 L1,.float .f64 H1]] (.bool false)) (hv2:KC 110 #[.agg #[.float .f64 L2,.float .f64 H2]] (.bool true)) (hE:KC 89 #[] (.agg #[.float .f64 9218868437227405312,.float .f64 18442240474082181120])) (w:World):Calls Tryz.prog 97 #[.agg #[.float .f64 a,.float .f64 b],.agg #[.float .f64 c,.float .f64 d]] w fun e w'=>e=.returned (.agg #[.float .f64 9218868437227405312,.float .f64 18442240474082181120])∧Kp w w':=by
  go_enter Tryz.func97,Tryz.ntmps97
  go_wp2
  go_region_with (first | (go_at_call_of 38 (Value.agg #[.float .f64 a,.float .f64 b]);refine (hx _).mono ?_;rintro e wx ⟨rfl,gx⟩;first | (have kx:=Kp.trans ky gx;have sx:=H6.keep sy gx;obtain ⟨⟨p0,p1,p2,p3⟩,⟨p4,p5,p6,p7⟩,⟨p8,p9,pa,pb⟩⟩:=id sx) | (have kx:Kp w wx:=Kp.trans (((((Kp.refl w).alloc _).alloc _).alloc _).drew) gx;have sx:=H6.keep (H6.new w (.float .f64 a) (.float .f64 b) (.float .f64 c) (.float .f64 d) (.float .f64 0) (.float .f64 0) 29 29 29) (Kp.trans (Kp.drew (Kp.refl _)) gx);obtain ⟨⟨p0,p1,p2,p3⟩,⟨p4,p5,p6,p7⟩,⟨p8,p9,pa,pb⟩⟩:=id sx)) | (go_at_call_of 38 (Value.agg #[.float .f64 c,.float .f64 d]);refine (hy _).mono ?_;rintro e wy ⟨rfl,gy⟩;first | (have ky:=Kp.trans kx gy;have sy:=H6.keep sx gy;obtain ⟨⟨p0,p1,p2,p3⟩,⟨p4,p5,p6,p7⟩,⟨p8,p9,pa,pb⟩⟩:=id sy) | (have ky:Kp w wy:=Kp.trans (((((Kp.refl w).alloc _).alloc _).alloc _).drew) gy;have sy:=H6.keep (H6.new w (.float .f64 a) (.float .f64 b) (.float .f64 c) (.float .f64 d) (.float .f64 0) (.float .f64 0) 29 29 29) (Kp.trans (Kp.drew (Kp.refl _)) gy);obtain ⟨⟨p0,p1,p2,p3⟩,⟨p4,p5,p6,p7⟩,⟨p8,p9,pa,pb⟩⟩:=id sy)))
  all_goals (first
   | skip
     have sw:=H6.put (id sy:H6 wy w.heap.size (.float .f64 a) (.float .f64 b) (.float .f64 c) (.float .f64 d) (.float .f64 0) (.float .f64 0)) (.float .f64 L1) (.float .f64 H1) (.float .f64 L2) (.float .f64 H2)
     have kw:Kp w ((((wy.setCell ⟨w.heap.size,0,none⟩ (.float .f64 L1)).setCell ⟨w.heap.size,1,none⟩ (.float .f64 H1)).setCell ⟨w.heap.size+1,0,none⟩ (.float .f64 L2)).setCell ⟨w.heap.size+1,1,none⟩ (.float .f64 H2)):=(((ky.setCell (Nat.le_refl _) _).setCell (Nat.le_refl _) _).setCell (Nat.le_succ _) _).setCell (Nat.le_succ _) _
     generalize hW:((((wy.setCell ⟨w.heap.size,0,none⟩ (.float .f64 L1)).setCell ⟨w.heap.size,1,none⟩ (.float .f64 H1)).setCell ⟨w.heap.size+1,0,none⟩ (.float .f64 L2)).setCell ⟨w.heap.size+1,1,none⟩ (.float .f64 H2))=W at sw kw ⊢
     clear hW
   | skip
     have sw:=H6.put (id sx:H6 wx w.heap.size (.float .f64 a) (.float .f64 b) (.float .f64 c) (.float .f64 d) (.float .f64 0) (.float .f64 0)) (.float .f64 L1) (.float .f64 H1) (.float .f64 L2) (.float .f64 H2)
     have kw:Kp w ((((wx.setCell ⟨w.heap.size,0,none⟩ (.float .f64 L1)).setCell ⟨w.heap.size,1,none⟩ (.float .f64 H1)).setCell ⟨w.heap.size+1,0,none⟩ (.float .f64 L2)).setCell ⟨w.heap.size+1,1,none⟩ (.float .f64 H2)):=(((kx.setCell (Nat.le_refl _) _).setCell (Nat.le_refl _) _).setCell (Nat.le_succ _) _).setCell (Nat.le_succ _) _
     generalize hW:((((wx.setCell ⟨w.heap.size,0,none⟩ (.float .f64 L1)).setCell ⟨w.heap.size,1,none⟩ (.float .f64 H1)).setCell ⟨w.heap.size+1,0,none⟩ (.float .f64 L2)).setCell ⟨w.heap.size+1,1,none⟩ (.float .f64 H2))=W at sw kw ⊢
     clear hW)
  all_goals (
   obtain ⟨⟨p0,p1,p2,p3⟩,⟨p4,p5,p6,p7⟩,⟨p8,p9,pa,pb⟩⟩:=id sw
   go_wp2_with (first | (go_at_call_of 110 (Value.agg #[.float .f64 L1,.float .f64 H1]);refine (hv1 _).mono ?_;rintro e wv ⟨rfl,gv⟩;have kv:=Kp.trans kw gv;have sv:=H6.keep sw gv;obtain ⟨⟨u0,u1,u2,u3⟩,⟨u4,u5,u6,u7⟩,⟨u8,u9,ua,ub⟩⟩:=id sv) | (go_at_call_of 110 (Value.agg #[.float .f64 L2,.float .f64 H2]);refine (hv2 _).mono ?_;rintro e wz ⟨rfl,gz⟩;have kz:=Kp.trans kv gz;have sz:=H6.keep sv gz;obtain ⟨⟨t0,t1,t2,t3⟩,⟨t4,t5,t6,t7⟩,⟨t8,t9,ta,tb⟩⟩:=id sz) | (go_at_call 89;refine (hE _).mono ?_;rintro e we ⟨rfl,ge⟩;obtain ⟨⟨e0,e1,e2,e3⟩,⟨e4,e5,e6,e7⟩,⟨e8,e9,ea,eb⟩⟩:=H6.keep sz ge;have ke:=Kp.trans kz ge))
   exact BR (v:=.agg #[.float .f64 9218868437227405312,.float .f64 18442240474082181120]) (by simp [results,Tryz.results97,go_sem,e8,e9]) rfl ⟨rfl,(ke.setCell (by simp;omega) _).setCell (by simp;omega) _⟩)
set_option linter.unusedVariables false
theorem add6n_ (a b c d L1 H1 L2 H2 NL NH:Nat) (hx:KC 38 #[.agg #[.float .f64 a,.float .f64 b]] (.agg #[.float .f64 L1,.float .f64 H1])) (hy:KC 38 #[.agg #[.float .f64 c,.float .f64 d]] (.agg #[.float .f64 L2,.float .f64 H2])) (hv1:KC 110 #[.agg #[.float .f64 L1,.float .f64 H1]] (.bool false)) (hv2:KC 110 #[.agg #[.float .f64 L2,.float .f64 H2]] (.bool false)) (w:World) (hA1:∀ W:World,Kp w W→Calls Tryz.prog 140 #[.int .i64 (-1),.float .f64 L1,.float .f64 L2] W fun e w'=>e=.returned (.float .f64 NL)∧Kp W w') (hA2:∀ W:World,Kp w W→Calls Tryz.prog 140 #[.int .i64 1,.float .f64 H1,.float .f64 H2] W fun e w'=>e=.returned (.float .f64 NH)∧Kp W w'):Calls Tryz.prog 97 #[.agg #[.float .f64 a,.float .f64 b],.agg #[.float .f64 c,.float .f64 d]] w fun e w'=>e=.returned (.agg #[.float .f64 NL,.float .f64 NH])∧Kp w w':=by
  go_enter Tryz.func97,Tryz.ntmps97
  go_wp2
  go_region_with (first | (go_at_call_of 38 (Value.agg #[.float .f64 a,.float .f64 b]);refine (hx _).mono ?_;rintro e wx ⟨rfl,gx⟩;first | (have kx:=Kp.trans ky gx;have sx:=H6.keep sy gx;obtain ⟨⟨p0,p1,p2,p3⟩,⟨p4,p5,p6,p7⟩,⟨p8,p9,pa,pb⟩⟩:=id sx) | (have kx:Kp w wx:=Kp.trans (((((Kp.refl w).alloc _).alloc _).alloc _).drew) gx;have sx:=H6.keep (H6.new w (.float .f64 a) (.float .f64 b) (.float .f64 c) (.float .f64 d) (.float .f64 0) (.float .f64 0) 29 29 29) (Kp.trans (Kp.drew (Kp.refl _)) gx);obtain ⟨⟨p0,p1,p2,p3⟩,⟨p4,p5,p6,p7⟩,⟨p8,p9,pa,pb⟩⟩:=id sx)) | (go_at_call_of 38 (Value.agg #[.float .f64 c,.float .f64 d]);refine (hy _).mono ?_;rintro e wy ⟨rfl,gy⟩;first | (have ky:=Kp.trans kx gy;have sy:=H6.keep sx gy;obtain ⟨⟨p0,p1,p2,p3⟩,⟨p4,p5,p6,p7⟩,⟨p8,p9,pa,pb⟩⟩:=id sy) | (have ky:Kp w wy:=Kp.trans (((((Kp.refl w).alloc _).alloc _).alloc _).drew) gy;have sy:=H6.keep (H6.new w (.float .f64 a) (.float .f64 b) (.float .f64 c) (.float .f64 d) (.float .f64 0) (.float .f64 0) 29 29 29) (Kp.trans (Kp.drew (Kp.refl _)) gy);obtain ⟨⟨p0,p1,p2,p3⟩,⟨p4,p5,p6,p7⟩,⟨p8,p9,pa,pb⟩⟩:=id sy)))
  all_goals (first
   | skip
     have sw:=H6.put (id sy:H6 wy w.heap.size (.float .f64 a) (.float .f64 b) (.float .f64 c) (.float .f64 d) (.float .f64 0) (.float .f64 0)) (.float .f64 L1) (.float .f64 H1) (.float .f64 L2) (.float .f64 H2)
     have kw:Kp w ((((wy.setCell ⟨w.heap.size,0,none⟩ (.float .f64 L1)).setCell ⟨w.heap.size,1,none⟩ (.float .f64 H1)).setCell ⟨w.heap.size+1,0,none⟩ (.float .f64 L2)).setCell ⟨w.heap.size+1,1,none⟩ (.float .f64 H2)):=(((ky.setCell (Nat.le_refl _) _).setCell (Nat.le_refl _) _).setCell (Nat.le_succ _) _).setCell (Nat.le_succ _) _
     generalize hW:((((wy.setCell ⟨w.heap.size,0,none⟩ (.float .f64 L1)).setCell ⟨w.heap.size,1,none⟩ (.float .f64 H1)).setCell ⟨w.heap.size+1,0,none⟩ (.float .f64 L2)).setCell ⟨w.heap.size+1,1,none⟩ (.float .f64 H2))=W at sw kw ⊢
     clear hW
   | skip
     have sw:=H6.put (id sx:H6 wx w.heap.size (.float .f64 a) (.float .f64 b) (.float .f64 c) (.float .f64 d) (.float .f64 0) (.float .f64 0)) (.float .f64 L1) (.float .f64 H1) (.float .f64 L2) (.float .f64 H2)
     have kw:Kp w ((((wx.setCell ⟨w.heap.size,0,none⟩ (.float .f64 L1)).setCell ⟨w.heap.size,1,none⟩ (.float .f64 H1)).setCell ⟨w.heap.size+1,0,none⟩ (.float .f64 L2)).setCell ⟨w.heap.size+1,1,none⟩ (.float .f64 H2)):=(((kx.setCell (Nat.le_refl _) _).setCell (Nat.le_refl _) _).setCell (Nat.le_succ _) _).setCell (Nat.le_succ _) _
     generalize hW:((((wx.setCell ⟨w.heap.size,0,none⟩ (.float .f64 L1)).setCell ⟨w.heap.size,1,none⟩ (.float .f64 H1)).setCell ⟨w.heap.size+1,0,none⟩ (.float .f64 L2)).setCell ⟨w.heap.size+1,1,none⟩ (.float .f64 H2))=W at sw kw ⊢
     clear hW)
  all_goals (
   obtain ⟨⟨p0,p1,p2,p3⟩,⟨p4,p5,p6,p7⟩,⟨p8,p9,pa,pb⟩⟩:=id sw
   go_wp2_with (first | (go_at_call_of 110 (Value.agg #[.float .f64 L1,.float .f64 H1]);refine (hv1 _).mono ?_;rintro e wv ⟨rfl,gv⟩;have kv:=Kp.trans kw gv;have sv:=H6.keep sw gv;obtain ⟨⟨u0,u1,u2,u3⟩,⟨u4,u5,u6,u7⟩,⟨u8,u9,ua,ub⟩⟩:=id sv) | (go_at_call_of 110 (Value.agg #[.float .f64 L2,.float .f64 H2]);refine (hv2 _).mono ?_;rintro e wz ⟨rfl,gz⟩;have kz:=Kp.trans kv gz;have sz:=H6.keep sv gz;obtain ⟨⟨t0,t1,t2,t3⟩,⟨t4,t5,t6,t7⟩,⟨t8,t9,ta,tb⟩⟩:=id sz))
   go_region_held3 (fun w'=>w'.cell? ⟨w.heap.size,0,none⟩=some (.float .f64 L1)∧w'.cell? ⟨w.heap.size,1,none⟩=some (.float .f64 H1)∧w'.cell? ⟨w.heap.size+1,0,none⟩=some (.float .f64 L2)∧w'.cell? ⟨w.heap.size+1,1,none⟩=some (.float .f64 H2)) (first | (exact ⟨sz.1.1,sz.1.2.1,sz.2.1.1,sz.2.1.2.1⟩) | (exact ⟨sA.1.1,sA.1.2.1,sA.2.1.1,sA.2.1.2.1⟩) | (exact ⟨sC.1.1,sC.1.2.1,sC.2.1.1,sC.2.1.2.1⟩) | (exact ⟨(CF _ _ _ _ (by simp <;> omega)).trans ((CF _ _ _ _ (by simp <;> omega)).trans sA.1.1),(CF _ _ _ _ (by simp <;> omega)).trans ((CF _ _ _ _ (by simp <;> omega)).trans sA.1.2.1),(CF _ _ _ _ (by simp <;> omega)).trans ((CF _ _ _ _ (by simp <;> omega)).trans sA.2.1.1),(CF _ _ _ _ (by simp <;> omega)).trans ((CF _ _ _ _ (by simp <;> omega)).trans sA.2.1.2.1)⟩) | (exact ⟨(CF _ _ _ _ (by simp <;> omega)).trans ((CF _ _ _ _ (by simp <;> omega)).trans sC.1.1),(CF _ _ _ _ (by simp <;> omega)).trans ((CF _ _ _ _ (by simp <;> omega)).trans sC.1.2.1),(CF _ _ _ _ (by simp <;> omega)).trans ((CF _ _ _ _ (by simp <;> omega)).trans sC.2.1.1),(CF _ _ _ _ (by simp <;> omega)).trans ((CF _ _ _ _ (by simp <;> omega)).trans sC.2.1.2.1)⟩)) (first | (go_at_call_of 140 (Value.float .f64 L1);first | (refine (hA1 _ (Kp.trans kC (Kp.refl _))).mono ?_;rintro e wA ⟨rfl,gA⟩;have kA:=Kp.trans kC gA;have sA:=H6.keep sC gA;obtain ⟨⟨r0,r1,r2,r3⟩,⟨r4,r5,r6,r7⟩,⟨r8,r9,ra,rb⟩⟩:=id sA) | (refine (hA1 _ (Kp.drew kz)).mono ?_;rintro e wA ⟨rfl,gA⟩;have kA:=Kp.trans (Kp.drew kz) gA;have sA:=H6.keep sz (Kp.trans (Kp.drew (Kp.refl _)) gA);obtain ⟨⟨r0,r1,r2,r3⟩,⟨r4,r5,r6,r7⟩,⟨r8,r9,ra,rb⟩⟩:=id sA)) | (go_at_call_of 140 (Value.float .f64 H1);first | (refine (hA2 _ (Kp.trans kA (Kp.refl _))).mono ?_;rintro e wC ⟨rfl,gC⟩;have kC:=Kp.trans kA gC;have sC:=H6.keep sA gC;obtain ⟨⟨r0,r1,r2,r3⟩,⟨r4,r5,r6,r7⟩,⟨r8,r9,ra,rb⟩⟩:=id sC) | (refine (hA2 _ (Kp.drew kz)).mono ?_;rintro e wC ⟨rfl,gC⟩;have kC:=Kp.trans (Kp.drew kz) gC;have sC:=H6.keep sz (Kp.trans (Kp.drew (Kp.refl _)) gC);obtain ⟨⟨r0,r1,r2,r3⟩,⟨r4,r5,r6,r7⟩,⟨r8,r9,ra,rb⟩⟩:=id sC)))
   all_goals go_wp2
   all_goals first
    | exact BR (v:=.agg #[.float .f64 NL,.float .f64 NH]) (by simp [results,Tryz.results97,go_sem,r8,r9]) rfl ⟨rfl,(kA.setCell (by simp;omega) _).setCell (by simp;omega) _⟩
    | exact BR (v:=.agg #[.float .f64 NL,.float .f64 NH]) (by simp [results,Tryz.results97,go_sem,r8,r9]) rfl ⟨rfl,(kC.setCell (by simp;omega) _).setCell (by simp;omega) _⟩)
theorem voidI9_ (L H:Int) (h:VdZ L H) (w:World):Calls Tryz.prog 110 #[.agg #[.float .f64 (pw L),.float .f64 (pw H)]] w fun e w'=>e=.returned (.bool (decide (L=9218868437227405312)))∧Kp w w':=by
 have g:=Fq.void_ (pw L) (pw H) (pw_lt L h.lo) (pw_lt H h.hi) w
 rw [emp9 L H h] at g
 exact g
set_option linter.unusedVariables false
theorem sub6c_ (a b c d NL NH RL RH:Nat) (w:World) (hN:KC 49 #[.agg #[.float .f64 c,.float .f64 d]] (.agg #[.float .f64 NL,.float .f64 NH])) (hA:∀ W:World,Kp w W→Calls Tryz.prog 97 #[.agg #[.float .f64 a,.float .f64 b],.agg #[.float .f64 NL,.float .f64 NH]] W fun e w'=>e=.returned (.agg #[.float .f64 RL,.float .f64 RH])∧Kp W w'):Calls Tryz.prog 43 #[.agg #[.float .f64 a,.float .f64 b],.agg #[.float .f64 c,.float .f64 d]] w fun e w'=>e=.returned (.agg #[.float .f64 RL,.float .f64 RH])∧Kp w w':=by
 go_enter Tryz.func43,Tryz.ntmps43
 go_wp2
 generalize hW:(((w.alloc (.cells #[.float .f64 a,.float .f64 b] 29)).alloc (.cells #[.float .f64 c,.float .f64 d] 29)).alloc (.cells #[.float .f64 0,.float .f64 0] 29))=W
 have kw:Kp w W:=by rw [← hW];exact (((Kp.refl w).alloc _).alloc _).alloc _
 have xw0:W.cell? ⟨w.heap.size,0,none⟩=some (.float .f64 a):=by rw [← hW];simp [go_sem]
 have dw0:W.drew.cell? ⟨w.heap.size,0,none⟩=some (.float .f64 a):=xw0
 have xw1:W.cell? ⟨w.heap.size,1,none⟩=some (.float .f64 b):=by rw [← hW];simp [go_sem]
 have dw1:W.drew.cell? ⟨w.heap.size,1,none⟩=some (.float .f64 b):=xw1
 have xw2:W.cell? ⟨w.heap.size+1,0,none⟩=some (.float .f64 c):=by rw [← hW];simp [go_sem]
 have dw2:W.drew.cell? ⟨w.heap.size+1,0,none⟩=some (.float .f64 c):=xw2
 have xw3:W.cell? ⟨w.heap.size+1,1,none⟩=some (.float .f64 d):=by rw [← hW];simp [go_sem]
 have dw3:W.drew.cell? ⟨w.heap.size+1,1,none⟩=some (.float .f64 d):=xw3
 obtain ⟨r0,rz0,r1,rz1⟩:W.cell? ⟨w.heap.size+2,0,none⟩=some (.float .f64 0)∧W.frozen? ⟨w.heap.size+2,0,none⟩=false∧W.cell? ⟨w.heap.size+2,1,none⟩=some (.float .f64 0)∧W.frozen? ⟨w.heap.size+2,1,none⟩=false:=by rw [← hW];simp [go_sem]
 have hn1:w.heap.size+2≠w.heap.size:=by omega
 have hn2:w.heap.size+2≠w.heap.size+1:=by omega
 clear hW
 go_region_held3 (fun w'=>w'.cell? ⟨w.heap.size,0,none⟩=some (.float .f64 a)∧w'.cell? ⟨w.heap.size,1,none⟩=some (.float .f64 b)∧w'.cell? ⟨w.heap.size+1,0,none⟩=some (.float .f64 c)∧w'.cell? ⟨w.heap.size+1,1,none⟩=some (.float .f64 d)) (first | (with_reducible exact ⟨xw0,xw1,xw2,xw3⟩) | (with_reducible exact ⟨dw0,dw1,dw2,dw3⟩) | (with_reducible exact ⟨aw0,aw1,aw2,aw3⟩) | (with_reducible exact ⟨bw0,bw1,bw2,bw3⟩) | (exact ⟨(CF2 hn1 bw0),(CF2 hn1 bw1),(CF2 hn2 bw2),(CF2 hn2 bw3)⟩)) (first | (go_at_call 49;refine (hN _).mono ?_;rintro e wl ⟨rfl,gl⟩;have kl:Kp W wl:=Kp.trans (Kp.drew (Kp.refl _)) gl;have aw0:=kkeep kl xw0;have aw1:=kkeep kl xw1;have aw2:=kkeep kl xw2;have aw3:=kkeep kl xw3) | (go_at_call 97;refine (hA _ ?q0).mono ?_;(case q0=>exact kw.trans kl);rintro e wh ⟨rfl,gh⟩;have kh:Kp W wh:=Kp.trans kl gh;have bw0:=kkeep kh xw0;have bw1:=kkeep kh xw1;have bw2:=kkeep kh xw2;have bw3:=kkeep kh xw3;obtain ⟨R0,Rz0,R1,Rz1⟩:=AK2 kh ⟨r0,rz0,r1,rz1⟩))
 go_wp2
 exact BR (v:=.agg #[.float .f64 RL,.float .f64 RH]) (by simp [results,Tryz.results43,go_sem,R0,R1]) rfl ⟨rfl,KS2 ((Kp.trans kw kh)) (by first | omega | (simp <;> omega))⟩

def aLo (L1 H1 L2 H2:Int):Int:=if L1=9218868437227405312∨L2=9218868437227405312 then 9218868437227405312 else adZ (-1) L1 L2
def aHi (L1 H1 L2 H2:Int):Int:=if L1=9218868437227405312∨L2=9218868437227405312 then -9218868437227405312 else adZ 1 H1 H2
theorem add9_ (a b c d:Nat) (L1 H1 L2 H2:Int) (hx:Rd a b L1 H1) (hy:Rd c d L2 H2) (w:World) (hT:TT w):Calls Tryz.prog 97 #[.agg #[.float .f64 a,.float .f64 b],.agg #[.float .f64 c,.float .f64 d]] w fun e w'=>e=.returned (.agg #[.float .f64 (pw (aLo L1 H1 L2 H2)),.float .f64 (pw (aHi L1 H1 L2 H2))])∧Kp w w':=by
 have v1:=voidI9_ L1 H1 hx.vd
 have v2:=voidI9_ L2 H2 hy.vd
 unfold aLo aHi
 by_cases c1:L1=9218868437227405312
 ·rw [if_pos (Or.inl c1),if_pos (Or.inl c1),pw_I,pw_MI]
  rw [decide_eq_true c1] at v1
  exact add6v1_ a b c d _ _ _ _ hx.call hy.call v1 empty9_ w
 rw [decide_eq_false c1] at v1
 by_cases c2:L2=9218868437227405312
 ·rw [if_pos (Or.inr c2),if_pos (Or.inr c2),pw_I,pw_MI]
  rw [decide_eq_true c2] at v2
  exact add6v2_ a b c d _ _ _ _ hx.call hy.call v1 v2 empty9_ w
 rw [decide_eq_false c2] at v2
 rw [if_neg (by omega),if_neg (by omega)]
 have d1:=hx.vd
 have d2:=hy.vd
 have b1:=d1.lo;have b2:=d1.hi;have b3:=d2.lo;have b4:=d2.hi
 unfold VdZ at d1 d2
 exact add6n_ a b c d _ _ _ _ _ _ hx.call hy.call v1 v2 w (fun W k=>addP_ (-1) L1 L2 (by omega) (by omega) b1 b3 (by omega) W (hT.kp k)) (fun W k=>addP_ 1 H1 H2 (by omega) (by omega) b2 b4 (by omega) W (hT.kp k))
theorem sub9_ (a b c d:Nat) (L1 H1 L2 H2:Int) (hx:Rd a b L1 H1) (hy:Rd c d L2 H2) (w:World) (hT:TT w):Calls Tryz.prog 43 #[.agg #[.float .f64 a,.float .f64 b],.agg #[.float .f64 c,.float .f64 d]] w fun e w'=>e=.returned (.agg #[.float .f64 (pw (aLo L1 H1 (-H2) (-L2))),.float .f64 (pw (aHi L1 H1 (-H2) (-L2)))])∧Kp w w' :=
 sub6c_ a b c d _ _ _ _ w (neg9_ c d L2 H2 hy) (fun W k=>add9_ a b _ _ L1 H1 (-H2) (-L2) hx (Rd.of (vd_neg _ _ hy.vd)) W (hT.kp k))
set_option linter.unusedVariables false
theorem singleA_ (a b L H:Nat) (hx:KC 38 #[.agg #[.float .f64 a,.float .f64 b]] (.agg #[.float .f64 L,.float .f64 H])) (E1:Bool) (t1:(FloatKind.f64.format.order L H == some Ordering.eq)=E1) (w:World):Calls Tryz.prog 96 #[.agg #[.float .f64 a,.float .f64 b]] w fun e w'=>e=.returned (.bool E1)∧Kp w w':=by
 cases E1
 all_goals (
  go_enter Tryz.func96,Tryz.ntmps96
  go_wp2_with (first | (go_at_call 38;refine (hx _).mono ?_;rintro e w1 ⟨rfl,g1⟩;have k1:Kp w w1:=Kp.trans ((Kp.refl w).alloc _) g1;have q0:=Fq.H2.keep (Fq.H2.new w (.float .f64 a) (.float .f64 b) 29) g1;obtain ⟨x0,x1,x2,x3⟩:=id q0))
  exact BR (v:=.bool _) (by simp [results,Tryz.results96,go_sem]) rfl ⟨rfl,(by repeat (with_reducible (first | assumption | exact Kp.refl _ | apply Kp.drew | apply Kp.alloc | apply Kp.drewN | (refine Kp.setCell ?_ (by first | omega | (simp <;> omega)) _) | (refine Kp.trans ?_ (by assumption)))))⟩)
theorem single9_ (a b:Nat) (L H:Int) (hx:Rd a b L H) (w:World):Calls Tryz.prog 96 #[.agg #[.float .f64 a,.float .f64 b]] w fun e w'=>e=.returned (.bool (decide (L=H)))∧Kp w w':=by
 have h:=singleA_ a b _ _ hx.call _ rfl w
 rw [peq9 L H hx.vd.lo hx.vd.hi] at h
 exact h
set_option linter.unusedVariables false
set_option linter.unusedSimpArgs false
theorem left9_ (x1 x2:Nat) (ub vb:Nat) (p:Option Addr) (n c:Nat) (hn:n≤1024) (pl ph yl yh ol oh:Nat→Nat) (kd:Nat→Bool) (hs:Nat→Bool) (w:World)
  (hl:n=0∨∃ g off,p=some ⟨g,off,none⟩∧g<w.heap.size∧∀ j,j<n→w.cell? ⟨g,off+j*2,none⟩=some (.float .f64 (pl j))∧w.cell? ⟨g,off+j*2+1,none⟩=some (.float .f64 (ph j)))
  (h0:ol 0=9218868437227405312∧oh 0=18442240474082181120) (hE:∀ W:World,Calls Tryz.prog 89 #[] W fun e w'=>e=.returned (.agg #[.float .f64 9218868437227405312,.float .f64 18442240474082181120])∧Kp W w')
  (hI:∀ j,j<n→∀ W:World,Calls Tryz.prog 70 #[.agg #[.float .f64 x1,.float .f64 x2],.agg #[.float .f64 (pl j),.float .f64 (ph j)]] W fun e w'=>e=.returned (.agg #[.float .f64 (yl j),.float .f64 (yh j)])∧Kp W w')
  (hS:∀ j,j<n→∀ W:World,Calls Tryz.prog 96 #[.agg #[.float .f64 (yl j),.float .f64 (yh j)]] W fun e w'=>e=.returned (.bool (kd j))∧Kp W w')
  (hH:∀ j,j<n→kd j=true→∀ W:World,Kp w W→Calls Tryz.prog 39 #[.float .f64 (yl j),.pointer (some ⟨ub,0,none⟩),.pointer (some ⟨vb,0,none⟩)] W fun e w'=>e=.returned (.bool (hs j))∧Kp W w')
  (hU:∀ j,j<n→((kd j=false∨hs j=true)∧∀ W:World,Calls Tryz.prog 88 #[.agg #[.float .f64 (ol j),.float .f64 (oh j)],.agg #[.float .f64 (yl j),.float .f64 (yh j)]] W fun e w'=>e=.returned (.agg #[.float .f64 (ol (j+1)),.float .f64 (oh (j+1))])∧Kp W w')∨(kd j=true∧hs j=false∧ol (j+1)=ol j∧oh (j+1)=oh j)) :
  Calls Tryz.prog 42 #[.agg #[.float .f64 x1,.float .f64 x2],.func (.func 39) #[] #[.pointer (some ⟨ub,0,none⟩),.pointer (some ⟨vb,0,none⟩)],.slice p n c] w fun e w'=>e=.returned (.agg #[.float .f64 (ol n),.float .f64 (oh n)])∧Kp w w':=by
 have HN:Hid (n=n):=rfl
 go_enter Tryz.func42,Tryz.ntmps42
 go_upto_region 3 with (first | (go_at_call 89;refine (hE _).mono ?_;rintro e w1 ⟨rfl,g1⟩))
 have kw:Kp w (w1.alloc (.cells #[.float .f64 9218868437227405312,.float .f64 18442240474082181120] 29)):=(Kp.trans (((Kp.refl w).alloc _).alloc _) g1).alloc _
 have hX:BK (w1.alloc (.cells #[.float .f64 9218868437227405312,.float .f64 18442240474082181120] 29)) w.heap.size #[.float .f64 x1,.float .f64 x2] 29:=(((BK.new w #[.float .f64 x1,.float .f64 x2] 29).kp ((Kp.refl _).alloc _)).kp g1).kp ((Kp.refl _).alloc _)
 have hR:BK (w1.alloc (.cells #[.float .f64 9218868437227405312,.float .f64 18442240474082181120] 29)) (w.heap.size+1) #[.float .f64 0,.float .f64 0] 29:=((BK.newAt (w:=w.alloc (.cells #[.float .f64 x1,.float .f64 x2] 29)) (by simp) _ _).kp g1).kp ((Kp.refl _).alloc _)
 have hO:BK (w1.alloc (.cells #[.float .f64 9218868437227405312,.float .f64 18442240474082181120] 29)) w1.heap.size #[.float .f64 (ol 0),.float .f64 (oh 0)] 29:=by rw [h0.1,h0.2];exact BK.new _ _ _
 have hlo:w.heap.size+1<w1.heap.size:=by have:=Below.size g1;simp at this;omega
 generalize (w1.alloc (.cells #[.float .f64 9218868437227405312,.float .f64 18442240474082181120] 29))=W at kw hX hR hO ⊢
 generalize w1.heap.size=ob at hO hlo ⊢
 clear g1 h0
 go_wp2
 go_loopw [14] (fun s14 wr=>∃ i:Nat,s14=.int .i64 (i:Int)∧i≤n∧BK wr ob #[.float .f64 (ol i),.float .f64 (oh i)] 29∧BK wr w.heap.size #[.float .f64 x1,.float .f64 x2] 29∧BK wr (w.heap.size+1) #[.float .f64 0,.float .f64 0] 29∧Kp w wr) (fun s14 _=>n - (intOf s14).toNat)
 case atStart=>exact ⟨0,rfl,Nat.zero_le _,hO,hX,hR,kw⟩
 case round =>
  clear hO hX hR kw
  obtain ⟨i,rfl,hi,hO,hX,hR,kw⟩:=hrel
  by_cases ci:i<n
  ·have ts0:(0:Int)≤(i:Int):=by omega
   have ts1:(i:Int)<(n:Int):=by omega
   rcases hl with hl | ⟨g,off,rfl,hg,hl⟩
   ·omega
   obtain ⟨l0,l1⟩:=hl i ci
   replace l0:=kkeep kw l0
   replace l1:=kkeep kw l1
   have hIi:=hI i ci
   have hSi:=hS i ci
   have hHi:=hH i ci
   have hUi:=hU i ci
   go_upto_region 5 with fail
   have kp:Kp wr (wr.alloc (.cells #[.float .f64 (pl i),.float .f64 (ph i)] 29)):=(Kp.refl _).alloc _
   have hP:BK (wr.alloc (.cells #[.float .f64 (pl i),.float .f64 (ph i)] 29)) wr.heap.size #[.float .f64 (pl i),.float .f64 (ph i)] 29:=BK.new _ _ _
   replace hO:=hO.kp kp;replace hX:=hX.kp kp;replace hR:=hR.kp kp;replace kw:=Kp.trans kw kp
   generalize (wr.alloc (.cells #[.float .f64 (pl i),.float .f64 (ph i)] 29))=W1 at hP hO hX hR kw ⊢
   generalize wr.heap.size=pb at hP ⊢
   clear kp l0 l1
   obtain ⟨x0,xz0,x1,xz1⟩:=(show BK W1 (w.heap.size) #[.float .f64 x1,.float .f64 x2] _ from hX).c2;obtain ⟨q0,qz0,q1,qz1⟩:=(show BK W1 (pb) #[.float .f64 (pl i),.float .f64 (ph i)] _ from hP).c2;skip
   go_upto_region 6 with (first | (go_at_call 70;refine (hIi _).mono ?_;rintro e w2 ⟨rfl,g2⟩))
   have ky:Kp w2 (w2.alloc (.cells #[.float .f64 (yl i),.float .f64 (yh i)] 29)):=(Kp.refl _).alloc _
   have hY:BK (w2.alloc (.cells #[.float .f64 (yl i),.float .f64 (yh i)] 29)) w2.heap.size #[.float .f64 (yl i),.float .f64 (yh i)] 29:=BK.new _ _ _
   replace hO:=(hO.kp g2).kp ky;replace hX:=(hX.kp g2).kp ky;replace hR:=(hR.kp g2).kp ky;replace kw:=Kp.trans (Kp.trans kw g2) ky
   generalize (w2.alloc (.cells #[.float .f64 (yl i),.float .f64 (yh i)] 29))=W3 at hO hX hR hY kw ⊢
   generalize w2.heap.size=yb at hY ⊢
   clear hP g2 ky
   obtain ⟨y0,yz0,y1,yz1⟩:=(show BK W3 (yb) #[.float .f64 (yl i),.float .f64 (yh i)] _ from hY).c2;obtain ⟨o0,oz0,o1,oz1⟩:=(show BK W3 (ob) #[.float .f64 (ol i),.float .f64 (oh i)] _ from hO).c2;skip
   rcases hUi with ⟨hk | hk,hu⟩ | ⟨hk,hk2,e1,e2⟩
   ·rw [hk] at hSi
    clear hHi hk
    go_upto_region 8 with (first | (go_at_call 88;refine (hu _).mono ?_;rintro e w5 ⟨rfl,g5⟩;replace hO:=hO.kp g5;replace hX:=hX.kp g5;replace hR:=hR.kp g5;replace hY:=hY.kp g5;replace kw:=Kp.trans kw g5;obtain ⟨y0,yz0,y1,yz1⟩:=(show BK w5 (yb) #[.float .f64 (yl i),.float .f64 (yh i)] _ from hY).c2;obtain ⟨o0,oz0,o1,oz1⟩:=(show BK w5 (ob) #[.float .f64 (ol i),.float .f64 (oh i)] _ from hO).c2;skip) | (go_at_call 96;refine (hSi _).mono ?_;rintro e w4 ⟨rfl,g4⟩;replace hO:=hO.kp g4;replace hX:=hX.kp g4;replace hR:=hR.kp g4;replace hY:=hY.kp g4;replace kw:=Kp.trans kw g4;obtain ⟨y0,yz0,y1,yz1⟩:=(show BK w4 (yb) #[.float .f64 (yl i),.float .f64 (yh i)] _ from hY).c2;obtain ⟨o0,oz0,o1,oz1⟩:=(show BK w4 (ob) #[.float .f64 (ol i),.float .f64 (oh i)] _ from hO).c2;skip))
    replace kw:=(kw.setCell (p:=⟨ob,0,none⟩) (show w.heap.size≤ob by omega) (.float .f64 (ol (i+1)))).setCell (p:=⟨ob,1,none⟩) (show w.heap.size≤ob by omega) (.float .f64 (oh (i+1)))
    replace hX:=(hX.far ⟨ob,0,none⟩ (.float .f64 (ol (i+1))) (by simp;omega)).far ⟨ob,1,none⟩ (.float .f64 (oh (i+1))) (by simp;omega)
    replace hR:=(hR.far ⟨ob,0,none⟩ (.float .f64 (ol (i+1))) (by simp;omega)).far ⟨ob,1,none⟩ (.float .f64 (oh (i+1))) (by simp;omega)
    replace hO:BK ((w5.setCell ⟨ob,0,none⟩ (.float .f64 (ol (i+1)))).setCell ⟨ob,1,none⟩ (.float .f64 (oh (i+1)))) ob #[.float .f64 (ol (i+1)),.float .f64 (oh (i+1))] 29:=(hO.put 0 (.float .f64 (ol (i+1)))).put 1 (.float .f64 (oh (i+1)))
    generalize (w5.setCell ⟨ob,0,none⟩ (.float .f64 (ol (i+1)))).setCell ⟨ob,1,none⟩ (.float .f64 (oh (i+1)))=W5 at kw hX hR hO ⊢
    go_wp2
    exact ⟨⟨i+1,by go_num,by omega,hO,hX,hR,kw⟩,by simp [intOf];omega⟩
   ·rcases hkd:kd i with _ | _
    ·rw [hkd] at hSi
     clear hHi
     go_upto_region 8 with (first | (go_at_call 88;refine (hu _).mono ?_;rintro e w5 ⟨rfl,g5⟩;replace hO:=hO.kp g5;replace hX:=hX.kp g5;replace hR:=hR.kp g5;replace hY:=hY.kp g5;replace kw:=Kp.trans kw g5;obtain ⟨y0,yz0,y1,yz1⟩:=(show BK w5 (yb) #[.float .f64 (yl i),.float .f64 (yh i)] _ from hY).c2;obtain ⟨o0,oz0,o1,oz1⟩:=(show BK w5 (ob) #[.float .f64 (ol i),.float .f64 (oh i)] _ from hO).c2;skip) | (go_at_call 96;refine (hSi _).mono ?_;rintro e w4 ⟨rfl,g4⟩;replace hO:=hO.kp g4;replace hX:=hX.kp g4;replace hR:=hR.kp g4;replace hY:=hY.kp g4;replace kw:=Kp.trans kw g4;obtain ⟨y0,yz0,y1,yz1⟩:=(show BK w4 (yb) #[.float .f64 (yl i),.float .f64 (yh i)] _ from hY).c2;obtain ⟨o0,oz0,o1,oz1⟩:=(show BK w4 (ob) #[.float .f64 (ol i),.float .f64 (oh i)] _ from hO).c2;skip))
     replace kw:=(kw.setCell (p:=⟨ob,0,none⟩) (show w.heap.size≤ob by omega) (.float .f64 (ol (i+1)))).setCell (p:=⟨ob,1,none⟩) (show w.heap.size≤ob by omega) (.float .f64 (oh (i+1)))
     replace hX:=(hX.far ⟨ob,0,none⟩ (.float .f64 (ol (i+1))) (by simp;omega)).far ⟨ob,1,none⟩ (.float .f64 (oh (i+1))) (by simp;omega)
     replace hR:=(hR.far ⟨ob,0,none⟩ (.float .f64 (ol (i+1))) (by simp;omega)).far ⟨ob,1,none⟩ (.float .f64 (oh (i+1))) (by simp;omega)
     replace hO:BK ((w5.setCell ⟨ob,0,none⟩ (.float .f64 (ol (i+1)))).setCell ⟨ob,1,none⟩ (.float .f64 (oh (i+1)))) ob #[.float .f64 (ol (i+1)),.float .f64 (oh (i+1))] 29:=(hO.put 0 (.float .f64 (ol (i+1)))).put 1 (.float .f64 (oh (i+1)))
     generalize (w5.setCell ⟨ob,0,none⟩ (.float .f64 (ol (i+1)))).setCell ⟨ob,1,none⟩ (.float .f64 (oh (i+1)))=W5 at kw hX hR hO ⊢
     go_wp2
     exact ⟨⟨i+1,by go_num,by omega,hO,hX,hR,kw⟩,by simp [intOf];omega⟩
    ·rw [hkd] at hSi
     rw [hk] at hHi
     replace hHi:=hHi hkd
     go_upto_region 8 with (first | (go_at_call 88;refine (hu _).mono ?_;rintro e w5 ⟨rfl,g5⟩;replace hO:=hO.kp g5;replace hX:=hX.kp g5;replace hR:=hR.kp g5;replace hY:=hY.kp g5;replace kw:=Kp.trans kw g5;obtain ⟨y0,yz0,y1,yz1⟩:=(show BK w5 (yb) #[.float .f64 (yl i),.float .f64 (yh i)] _ from hY).c2;obtain ⟨o0,oz0,o1,oz1⟩:=(show BK w5 (ob) #[.float .f64 (ol i),.float .f64 (oh i)] _ from hO).c2;skip) | (go_at_call 39;refine (hHi _ kw).mono ?_;rintro e w6 ⟨rfl,g6⟩;replace hO:=hO.kp g6;replace hX:=hX.kp g6;replace hR:=hR.kp g6;replace hY:=hY.kp g6;replace kw:=Kp.trans kw g6;obtain ⟨y0,yz0,y1,yz1⟩:=(show BK w6 (yb) #[.float .f64 (yl i),.float .f64 (yh i)] _ from hY).c2;obtain ⟨o0,oz0,o1,oz1⟩:=(show BK w6 (ob) #[.float .f64 (ol i),.float .f64 (oh i)] _ from hO).c2;skip) | (go_at_call 96;refine (hSi _).mono ?_;rintro e w4 ⟨rfl,g4⟩;replace hO:=hO.kp g4;replace hX:=hX.kp g4;replace hR:=hR.kp g4;replace hY:=hY.kp g4;replace kw:=Kp.trans kw g4;obtain ⟨y0,yz0,y1,yz1⟩:=(show BK w4 (yb) #[.float .f64 (yl i),.float .f64 (yh i)] _ from hY).c2;obtain ⟨o0,oz0,o1,oz1⟩:=(show BK w4 (ob) #[.float .f64 (ol i),.float .f64 (oh i)] _ from hO).c2;skip))
     replace kw:=(kw.setCell (p:=⟨ob,0,none⟩) (show w.heap.size≤ob by omega) (.float .f64 (ol (i+1)))).setCell (p:=⟨ob,1,none⟩) (show w.heap.size≤ob by omega) (.float .f64 (oh (i+1)))
     replace hX:=(hX.far ⟨ob,0,none⟩ (.float .f64 (ol (i+1))) (by simp;omega)).far ⟨ob,1,none⟩ (.float .f64 (oh (i+1))) (by simp;omega)
     replace hR:=(hR.far ⟨ob,0,none⟩ (.float .f64 (ol (i+1))) (by simp;omega)).far ⟨ob,1,none⟩ (.float .f64 (oh (i+1))) (by simp;omega)
     replace hO:BK ((w5.setCell ⟨ob,0,none⟩ (.float .f64 (ol (i+1)))).setCell ⟨ob,1,none⟩ (.float .f64 (oh (i+1)))) ob #[.float .f64 (ol (i+1)),.float .f64 (oh (i+1))] 29:=(hO.put 0 (.float .f64 (ol (i+1)))).put 1 (.float .f64 (oh (i+1)))
     generalize (w5.setCell ⟨ob,0,none⟩ (.float .f64 (ol (i+1)))).setCell ⟨ob,1,none⟩ (.float .f64 (oh (i+1)))=W5 at kw hX hR hO ⊢
     go_wp2
     exact ⟨⟨i+1,by go_num,by omega,hO,hX,hR,kw⟩,by simp [intOf];omega⟩
   ·rw [hk] at hSi
    rw [hk2] at hHi
    replace hHi:=hHi hk
    go_wp2_with (first | (go_at_call 39;refine (hHi _ kw).mono ?_;rintro e w6 ⟨rfl,g6⟩;replace hO:=hO.kp g6;replace hX:=hX.kp g6;replace hR:=hR.kp g6;replace hY:=hY.kp g6;replace kw:=Kp.trans kw g6;obtain ⟨y0,yz0,y1,yz1⟩:=(show BK w6 (yb) #[.float .f64 (yl i),.float .f64 (yh i)] _ from hY).c2;obtain ⟨o0,oz0,o1,oz1⟩:=(show BK w6 (ob) #[.float .f64 (ol i),.float .f64 (oh i)] _ from hO).c2;skip) | (go_at_call 96;refine (hSi _).mono ?_;rintro e w4 ⟨rfl,g4⟩;replace hO:=hO.kp g4;replace hX:=hX.kp g4;replace hR:=hR.kp g4;replace hY:=hY.kp g4;replace kw:=Kp.trans kw g4;obtain ⟨y0,yz0,y1,yz1⟩:=(show BK w4 (yb) #[.float .f64 (yl i),.float .f64 (yh i)] _ from hY).c2;obtain ⟨o0,oz0,o1,oz1⟩:=(show BK w4 (ob) #[.float .f64 (ol i),.float .f64 (oh i)] _ from hO).c2;skip))
    exact ⟨⟨i+1,by go_num,by omega,by rw [e1,e2];exact hO,hX,hR,kw⟩,by simp [intOf];omega⟩
  ·have hin:i=n:=by omega
   have e1:ol i=ol n:=by rw [hin]
   have e2:oh i=oh n:=by rw [hin]
   rw [e1,e2] at hO
   obtain ⟨o0,oz0,o1,oz1⟩:=(show BK wr (ob) #[.float .f64 (ol n),.float .f64 (oh n)] _ from hO).c2;obtain ⟨r0,rz0,r1,rz1⟩:=(show BK wr (w.heap.size+1) #[.float .f64 0,.float .f64 0] _ from hR).c2;skip
   clear hl hI hS hH hU
   go_wp2
   exact BR (v:=.agg #[.float .f64 (ol n),.float .f64 (oh n)]) (by simp [results,Tryz.results42,go_sem,r0,r1]) rfl ⟨rfl,((kw.setCell (by first | omega | (simp <;> omega)) _).setCell (by first | omega | (simp <;> omega)) _)⟩
end Go.Proofs.YtmpjcknaelgnoaaGreatDoor
