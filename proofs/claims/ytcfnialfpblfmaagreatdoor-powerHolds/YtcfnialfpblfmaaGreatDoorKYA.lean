import Derived.Test.YtcfnialfpblfmaaGreatDoorKS2
import Derived.Test.YtcfnialfpblfmaaGreatDoorKXP
set_option maxHeartbeats 1000000
set_option maxRecDepth 20000
namespace Go.Proofs.YtcfnialfpblfmaaGreatDoor
open Go.RowKit
theorem steppedG_ (d V:Int) (s o sz:Bool) (r ro K:Nat) (hK:53≤K) (hK2:K≤2096) (hv:V.natAbs<2 ^ K) (hr1:r<9218868437227405312) (hro:ro<9218868437227405312) (hr:r=rgU 53 (rU 0 53 V.natAbs 1)) (hs:s=(if V=0 then sz else decide (V<0))) (ho1:Fq.plz o ro<0 ↔ V - Iv s r<0) (ho2:0<Fq.plz o ro ↔ 0<V - Iv s r) (w:World) :
  Calls Tryz.prog 110 #[.int .i64 d,.float .f64 (Fq.wD s r),.float .f64 (Fq.wD o ro)] w fun e w'=>e=.returned (.float .f64 (sumW d V))∧Kp w w':=by
 obtain ⟨S1,S2,S3⟩:=step_g d V s o sz r ro K hK hK2 hv hr hs ho1 ho2
 have hz:(0:Nat)=Fq.wD false 0:=rfl
 have hord:FloatKind.f64.format.order (Fq.wD o ro) 0=some (compare (Fq.plz o ro) 0):=by
  rw [hz,Fq.ordD o false ro 0 (by omega) (by decide)];rfl
 obtain ⟨P,hP⟩:∃ P,P=Fq.plz o ro:=⟨_,rfl⟩
 rw [← hP] at S1 S2 S3 hord
 obtain ⟨O,hO⟩:∃ O,O=Fq.wD o ro:=⟨_,rfl⟩
 obtain ⟨Z,hZ⟩:∃ Z,Z=sumW d V:=⟨_,rfl⟩
 obtain ⟨N,hN⟩:∃ N,N=Fq.wD s r:=⟨_,rfl⟩
 rw [← hZ] at S1 S2 S3
 rw [← hO] at hord
 rw [← hO,← hZ,← hN]
 have hup:=fun h=>Fq.up_d s r (by omega) h w
 have hdn:=fun h=>Fq.dn_d s r (by omega) h w
 have hpl:=Fq.plain_d s r (by omega) w
 rw [← hN] at hup hdn hpl
 clear hO hN hZ hr hs ho1 ho2 hP hz hv hK hK2 hr1 hro
 by_cases c1:d = -1
 ·by_cases c2:P<0
  ·obtain ⟨a1,a2⟩:=S1 c1 c2
   have hc:=hdn a1
   rw [a2] at hc
   have o1:(FloatKind.f64.format.order O 0 == some .lt)=true:=by rw [hord,Int.compare_eq_lt.2 c2];rfl
   subst c1
   clear S1 S2 S3 hup hdn hpl hord c2 a1 a2
   go_enter Tryz.func110,Tryz.ntmps110
   go_wp2_with fail
   refine hc.mono ?_;rintro e w1 ⟨rfl,hk⟩
   clear hc
   go_wp2
   exact BR (v:=.float .f64 Z) (by simp [results,Tryz.results110,go_sem]) rfl ⟨rfl,hk⟩
  ·have hc:=hpl
   rw [S3 (fun h=>c2 h.2) (fun h=>by omega)] at hc
   have o1:(FloatKind.f64.format.order O 0 == some .lt)=false:=by
    rw [hord]
    rcases Int.lt_trichotomy P 0 with h | h | h
    ·exact absurd h c2
    ·rw [Int.compare_eq_eq.2 h];rfl
    ·rw [Int.compare_eq_gt.2 h];rfl
   subst c1
   clear S1 S2 S3 hup hdn hpl hord c2
   go_enter Tryz.func110,Tryz.ntmps110
   go_wp2_with fail
   refine hc.mono ?_;rintro e w1 ⟨rfl,hw⟩
   obtain rfl:=hw.symm
   clear hc
   go_wp2
   exact BR (v:=.float .f64 Z) (by simp [results,Tryz.results110,go_sem]) rfl ⟨rfl,Kp.refl _⟩
 ·have e1:(d == -1)=false:=by simp [c1]
  by_cases c3:d=1
  ·by_cases c2:0<P
   ·obtain ⟨a1,a2⟩:=S2 c3 c2
    have hc:=hup a1
    rw [a2] at hc
    have o1:(FloatKind.f64.format.order O 0 == some .gt)=true:=by rw [hord,Int.compare_eq_gt.2 c2];rfl
    subst c3
    clear S1 S2 S3 hup hdn hpl hord c2 a1 a2 c1
    go_enter Tryz.func110,Tryz.ntmps110
    go_wp2_with fail
    refine hc.mono ?_;rintro e w1 ⟨rfl,hk⟩
    clear hc
    go_wp2
    exact BR (v:=.float .f64 Z) (by simp [results,Tryz.results110,go_sem]) rfl ⟨rfl,hk⟩
   ·have hc:=hpl
    rw [S3 (fun h=>c1 h.1) (fun h=>c2 h.2)] at hc
    have o1:(FloatKind.f64.format.order O 0 == some .gt)=false:=by
     rw [hord]
     rcases Int.lt_trichotomy P 0 with h | h | h
     ·rw [Int.compare_eq_lt.2 h];rfl
     ·rw [Int.compare_eq_eq.2 h];rfl
     ·exact absurd h c2
    subst c3
    clear S1 S2 S3 hup hdn hpl hord c2 c1
    go_enter Tryz.func110,Tryz.ntmps110
    go_wp2_with fail
    refine hc.mono ?_;rintro e w1 ⟨rfl,hw⟩
    obtain rfl:=hw.symm
    clear hc
    go_wp2
    exact BR (v:=.float .f64 Z) (by simp [results,Tryz.results110,go_sem]) rfl ⟨rfl,Kp.refl _⟩
  ·have e2:(d == 1)=false:=by simp [c3]
   have hc:=hpl
   rw [S3 (fun h=>c1 h.1) (fun h=>c3 h.1)] at hc
   clear S1 S2 S3 hup hdn hpl hord c1 c3
   go_enter Tryz.func110,Tryz.ntmps110
   go_wp2_with fail
   refine hc.mono ?_;rintro e w1 ⟨rfl,hw⟩
   obtain rfl:=hw.symm
   clear hc
   go_wp2
   exact BR (v:=.float .f64 Z) (by simp [results,Tryz.results110,go_sem]) rfl ⟨rfl,Kp.refl _⟩
theorem lacking_ (n s n':Bool) (m r m' e ey ex L:Nat) (hm:m<9218868437227405312) (hr:r<9218868437227405312) (hm':m'<9218868437227405312) (he:e≤1960) (hey:ey≤1960) (s1:1074≤e+ey) (s2:e+ey≤2944) (hL:L=1074) (p2:e+ey - L≤ex) (x2:ex≤1472) (hxx:(Iv n m).natAbs<9007199254740992*2 ^ ex)
  (hU:((2 ^ e:Nat):Int) ∣ Iv s r∧4503599627370496*2 ^ e≤(Iv s r).natAbs∧(Iv s r).natAbs<9007199254740992*2 ^ e) (hU':((2 ^ ey:Nat):Int) ∣ Iv n' m'∧4503599627370496*2 ^ ey≤(Iv n' m').natAbs∧(Iv n' m').natAbs<9007199254740992*2 ^ ey)
  (hfit:∀ V2:Int,V2*((2 ^ L:Nat):Int)=Iv s r*Iv n' m'→(((2 ^ (e+ey - L):Nat):Int) ∣ Iv n m∧((2 ^ (e+ey - L):Nat):Int) ∣ V2∧(Iv n m - V2).natAbs≤4503599627370496*2 ^ (e+ey - L)∧20282409603651670423947251286016*2 ^ (e+ey - L)≤V2.natAbs∧V2.natAbs<81129638414606681695789005144064*2 ^ (e+ey - L))) :
  ∃ (V2:Int) (f:Bool) (fr:Nat),V2*((2 ^ L:Nat):Int)=Iv s r*Iv n' m'∧fr<9218868437227405312∧Iv f fr=Iv n m - V2∧∀ w:World,Calls Tryz.prog 177 #[.float .f64 (Fq.wD n m),.float .f64 (Fq.wD s r),.float .f64 (Fq.wD n' m')] w fun e w'=>e=.returned (.float .f64 (Fq.wD f fr))∧w'=w:=by
 obtain ⟨V2,p,o,pr,ro,K,zV,h3,r0,r8,q0,q1,hex,K1,K2,kV⟩:=twoProduct_ s n' r m' e ey hr hm' he hey s1 s2 hU.1 hU.2.1 hU.2.2 hU'.1 hU'.2.1 hU'.2.2 L hL
 obtain ⟨d1,d2,d3,d4,d5⟩:=hfit V2 zV
 obtain ⟨W,hW⟩:∃ W,W=2 ^ (e+ey - L):=⟨_,rfl⟩
 rw [← hW] at d1 d2 d3 d4 d5
 obtain ⟨K5,hK5⟩:∃ K5:Nat,K5=1600:=⟨_,rfl⟩
 have kx:(Iv n m).natAbs<2 ^ K5:=by
  refine Nat.lt_of_lt_of_le hxx ?_
  rw [← pw53,← Nat.pow_add]
  exact Nat.pow_le_pow_right (by decide) (by omega)
 have kV5:V2.natAbs<2 ^ K5:=by
  refine Nat.lt_of_lt_of_le d5 ?_
  rw [show (81129638414606681695789005144064:Nat)=2 ^ 106 from by decide,hW,← Nat.pow_add]
  exact Nat.pow_le_pow_right (by decide) (by omega)
 obtain ⟨s9,r9,T9,_,_,n9,e9,e9',l0⟩:=op_nr V2 (s ^^ n') K5 (by omega) (by omega) kV5
 rw [show s9=p from e9'.trans q1.symm,show r9=pr from e9.trans q0.symm] at n9 l0
 obtain ⟨t,tr,T1,w1,t1,n1,_,_,l1⟩:=op_nr (Iv n m - Iv p pr) (n && !p) (K5+2) (by omega) (by omega) (lt_sub9 kx l0 (by omega)).2
 have lo:(Iv o ro).natAbs<2 ^ (K5+2):=by rw [hex];exact (lt_sub9 kV5 l0 (by omega)).2
 obtain ⟨f,fr,T2,w2,t2,n2,_,_,l2⟩:=op_nr (Iv t tr - Iv o ro) (t && !o) (K5+4) (by omega) (by omega) (lt_add9 l1 lo (by omega)).2
 have hfin:=lack_exact ⟨_,hW⟩ d1 d2 d3 d4 d5 n9 hex n1 n2
 have g1:=sub_w n p m pr hm r0 _ rfl
 have g2:=sub_w t o tr ro t1 r8 _ rfl
 rw [w1] at g1
 rw [w2] at g2
 refine ⟨V2,f,fr,zV,t2,hfin,fun w=>?_⟩
 clear zV r0 r8 q0 q1 hex K1 K2 kV d1 d2 d3 d4 d5 hW hK5 kx kV5 n9 e9 e9' l0 w1 t1 n1 l1 lo w2 t2 n2 l2 hfin hU hU' hfit hm hr hm' he hey s1 s2 hL p2 x2 hxx
 obtain ⟨X,hX⟩:∃ X,X=Fq.wD n m:=⟨_,rfl⟩
 obtain ⟨Y,hY⟩:∃ Y,Y=Fq.wD s r:=⟨_,rfl⟩
 obtain ⟨Z,hZ⟩:∃ Z,Z=Fq.wD n' m':=⟨_,rfl⟩
 obtain ⟨P,hP⟩:∃ P,P=Fq.wD p pr:=⟨_,rfl⟩
 obtain ⟨O,hO⟩:∃ O,O=Fq.wD o ro:=⟨_,rfl⟩
 obtain ⟨D,hD⟩:∃ D,D=Fq.wD t tr:=⟨_,rfl⟩
 obtain ⟨G,hG⟩:∃ G,G=Fq.wD f fr:=⟨_,rfl⟩
 rw [← hX,← hP,← hD] at g1
 rw [← hD,← hO,← hG] at g2
 rw [← hY,← hZ,← hP,← hO] at h3
 rw [← hX,← hY,← hZ,← hG]
 have f1:∀ w:World,(binOp .sub 22 (.float .f64 X) (.float .f64 P)).run Tryz.prog w=.ok (.float .f64 D) w:=fun w=>run_float_arith w .sub 22 .f64 X P D g1
 have f2:∀ w:World,(binOp .sub 22 (.float .f64 D) (.float .f64 O)).run Tryz.prog w=.ok (.float .f64 G) w:=fun w=>run_float_arith w .sub 22 .f64 D O G g2
 clear hX hY hZ hP hO hD hG g1 g2
 go_enter Tryz.func177,Tryz.ntmps177
 go_wp2_with fail
 refine SM (h3 _) ?_;clear h3
 go_wp2
 exact BR (v:=.float .f64 G) (by simp [results,Tryz.results177,go_sem]) rfl ⟨rfl,rfl⟩
theorem flipN (n:Bool) (m:Nat) (hm:m<9223372036854775808):Fq.wD n m ^^^ 9223372036854775808=Fq.wD (!n) m:=by
 obtain ⟨x,hx⟩:∃ x,x=Fq.wD n m:=⟨_,rfl⟩
 have h1:(x ^^^ 9223372036854775808) % 2 ^ 63=x % 2 ^ 63:=by
  rw [Nat.xor_mod_two_pow,show (9223372036854775808:Nat) % 2 ^ 63=0 from by decide,Nat.xor_zero]
 have h2:(x ^^^ 9223372036854775808) / 2 ^ 63=x / 2 ^ 63 ^^^ 1:=by
  rw [← Nat.shiftRight_eq_div_pow,← Nat.shiftRight_eq_div_pow,Nat.shiftRight_xor_distrib,show (9223372036854775808:Nat) >>> 63=1 from by decide]
 rw [show (2:Nat) ^ 63=9223372036854775808 from by decide] at h1 h2
 rw [← hx]
 generalize hz:x ^^^ 9223372036854775808=z at h1 h2 ⊢
 clear hz
 cases n
 ·have e:x=m:=by rw [hx];unfold Fq.wD;simp
  rw [e,Nat.div_eq_of_lt hm,show (0:Nat) ^^^ 1=1 from by decide] at h2
  rw [e,Nat.mod_eq_of_lt hm] at h1
  unfold Fq.wD
  simp
  omega
 ·have e:x=9223372036854775808+m:=by rw [hx];unfold Fq.wD;simp
  have e2:x / 9223372036854775808=1:=by omega
  have e3:x % 9223372036854775808=m:=by omega
  rw [e2,show (1:Nat) ^^^ 1=0 from by decide] at h2
  rw [e3] at h1
  unfold Fq.wD
  simp
  omega
theorem negW (n:Bool) (m:Nat) (hm:m<9223372036854775808) (w:World):(Op.unary .neg (.float .f64 (Fq.wD n m))).run Tryz.prog w=.ok (.float .f64 (Fq.wD (!n) m)) w:=by
 have h:Op.negFloat .f64 (Fq.wD n m)=Fq.wD (!n) m:=by
  unfold Op.negFloat
  exact flipN n m hm
 rw [← h];rfl
theorem twoQuotient_ (n n':Bool) (m m':Nat) (c1:2580562586483294208≤m∧m≤6633802251116740608) (c2:2580562586483294208≤m'∧m'≤6633802251116740608) :
  ∃ (V:Int) (s o:Bool) (r ro K:Nat),(∀ w:World,Calls Tryz.prog 147 #[.float .f64 (Fq.wD n m),.float .f64 (Fq.wD n' m')] w fun e w'=>e=.returned (.tuple #[.float .f64 (Fq.wD s r),.float .f64 (Fq.wD o ro)])∧w'=w)∧r<9218868437227405312∧ro<9218868437227405312∧r=rgU 53 (rU 0 53 V.natAbs 1)∧s=(if V=0 then n ^^ n' else decide (V<0))∧(Fq.plz o ro<0 ↔ V - Iv s r<0)∧(0<Fq.plz o ro ↔ 0<V - Iv s r)∧53≤K∧K≤2096∧V.natAbs<2 ^ K∧(∀ d,sumW d V=divW d (n ^^ n') (Fq.vV Ieee.double m) (Fq.vV Ieee.double m')):=by
 obtain ⟨L,hL⟩:∃ L:Nat,L=1074:=⟨_,rfl⟩
 obtain ⟨V,s,r,K,e,ey,ex,hdiv,r0,e0,e0',K1,K2,kV,hsum,⟨p1,p2,p3,p4,p5,p6⟩,hu1,hu2,hxx,hfit⟩:=quot_all n n' m m' c1.1 c1.2 c2.1 c2.2 L hL
 obtain ⟨V2,f,fr,zV,f0,hf,hl⟩:=lacking_ n s n' m r m' e ey ex L (by omega) r0 (by omega) p1 p2 p3 p4 hL p5 p6 hxx hu1 hu2 (fun V2 h=>(hfit V2 h).1)
 obtain ⟨g1,g2⟩:=(hfit V2 zV).2
 rw [← hf] at g1 g2
 have hdr:∀ w:World,(binOp .quo 22 (.float .f64 (Fq.wD n m)) (.float .f64 (Fq.wD n' m'))).run Tryz.prog w=.ok (.float .f64 (Fq.wD s r)) w:=fun w=>run_float_arith w .quo 22 .f64 _ _ _ hdiv
 have hz:(0:Nat)=Fq.wD false 0:=rfl
 have hord:FloatKind.f64.format.order (Fq.wD n' m') 0=some (compare (Fq.plz n' m') 0):=by
  rw [hz,Fq.ordD n' false m' 0 (by omega) (by decide)];rfl
 have hng:=fun w=>negW f fr (by omega) w
 obtain ⟨X,hX⟩:∃ X,X=Fq.wD n m:=⟨_,rfl⟩
 obtain ⟨Y,hY⟩:∃ Y,Y=Fq.wD n' m':=⟨_,rfl⟩
 obtain ⟨S,hS⟩:∃ S,S=Fq.wD s r:=⟨_,rfl⟩
 obtain ⟨G,hG⟩:∃ G,G=Fq.wD f fr:=⟨_,rfl⟩
 obtain ⟨G2,hG2⟩:∃ G2,G2=Fq.wD (!f) fr:=⟨_,rfl⟩
 rw [← hX,← hY,← hS] at hdr
 rw [← hX,← hS,← hY,← hG] at hl
 rw [← hY] at hord
 rw [← hG,← hG2] at hng
 cases n'
 ·have o1:(FloatKind.f64.format.order Y 0 == some .lt)=false:=by
   rw [hord,Int.compare_eq_gt.2 (by unfold Fq.plz;simp;omega)];rfl
  rw [if_neg (by simp)] at g1 g2
  obtain ⟨i1,i2⟩:=iv_plz f fr
  refine ⟨V,s,f,r,fr,K,fun w=>?_,r0,f0,e0,e0',i1.symm.trans g1,i2.symm.trans g2,K1,K2,kV,hsum⟩
  rw [← hX,← hY,← hS,← hG]
  clear hX hY hS hG hG2 hng hord hz hf zV hfit hxx hu1 hu2 hsum kV e0 e0' g1 g2 i1 i2 c1 c2 hdiv
  go_enter Tryz.func147,Tryz.ntmps147
  go_wp2_with fail
  refine SM (hl _) ?_;clear hl
  go_wp2
  exact BR (v:=.tuple #[.float .f64 S,.float .f64 G]) (by simp [results,Tryz.results147,go_sem]) rfl ⟨rfl,rfl⟩
 ·have o1:(FloatKind.f64.format.order Y 0 == some .lt)=true:=by
   rw [hord,Int.compare_eq_lt.2 (by unfold Fq.plz;simp;omega)];rfl
  rw [if_pos rfl] at g1 g2
  obtain ⟨i1,i2⟩:=iv_plz (!f) fr
  rw [iv_not] at i1 i2
  refine ⟨V,s,!f,r,fr,K,fun w=>?_,r0,f0,e0,e0',i1.symm.trans g1,i2.symm.trans g2,K1,K2,kV,hsum⟩
  rw [← hX,← hY,← hS,← hG2]
  clear hX hY hS hG hG2 hord hz hf zV hfit hxx hu1 hu2 hsum kV e0 e0' g1 g2 i1 i2 c1 c2 hdiv
  go_enter Tryz.func147,Tryz.ntmps147
  go_wp2_with fail
  refine SM (hl _) ?_;clear hl
  go_wp2
  exact BR (v:=.tuple #[.float .f64 S,.float .f64 G2]) (by simp [results,Tryz.results147,go_sem]) rfl ⟨rfl,rfl⟩
theorem ord_self (n:Bool) (m:Nat) (hm:m<9223372036854775808):(FloatKind.f64.format.order (Fq.wD n m) (Fq.wD n m) != some .eq)=decide (9218868437227405312<m):=by
 by_cases c:9218868437227405312<m
 ·rw [Fq.ordD_nanl n m _ c hm,decide_eq_true c];rfl
 ·rw [Fq.ordD n n m m (by omega) (by omega),Fq.cmp_eq rfl,decide_eq_false c];rfl
theorem ord_neg (n:Bool) (m:Nat) (hm:m≤9218868437227405312) (z:m≠0):(FloatKind.f64.format.order (Fq.wD n m) 0 == some .lt)=n:=by
 have hz:(0:Nat)=Fq.wD false 0:=rfl
 have hord:FloatKind.f64.format.order (Fq.wD n m) 0=some (compare (Fq.plz n m) 0):=by
  rw [hz,Fq.ordD n false m 0 hm (by decide)];rfl
 rw [hord]
 cases n
 ·rw [Int.compare_eq_gt.2 (by unfold Fq.plz;simp;omega)];rfl
 ·rw [Int.compare_eq_lt.2 (by unfold Fq.plz;simp;omega)];rfl
theorem isNaN_ (n:Bool) (m:Nat) (hm:m<9223372036854775808) (w:World):Calls Tryz.prog 119 #[.float .f64 (Fq.wD n m)] w fun e w'=>e=.returned (.bool (decide (9218868437227405312<m)))∧w'=w:=by
 have o1:=ord_self n m hm
 obtain ⟨X,hX⟩:∃ X,X=Fq.wD n m:=⟨_,rfl⟩
 rw [← hX] at o1 ⊢
 clear hX
 go_enter Tryz.func119,Tryz.ntmps119
 go_wp2
 exact BR (v:=.bool (decide (9218868437227405312<m))) (by simp [results,Tryz.results119,go_sem]) rfl ⟨rfl,rfl⟩
theorem byNought_ (n:Bool) (m:Nat) (hm:m<9223372036854775808) (w:World):Calls Tryz.prog 148 #[.float .f64 (Fq.wD n m)] w fun e w'=>e=.returned (.float .f64 (if m=0∨9218868437227405312<m then 9221120237041090561 else Fq.wD n 9218868437227405312))∧w'=w:=by
 have o1:=Fq.eqzD n m hm
 have h1:=isNaN_ n m hm w
 have h2:=mnan_ w
 have h3:=infD_ n w
 by_cases c1:m=0
 ·rw [if_pos (Or.inl c1)]
  rw [show (m == 0)=true from by simp [c1]] at o1
  obtain ⟨X,hX⟩:∃ X,X=Fq.wD n m:=⟨_,rfl⟩
  rw [← hX] at o1 h1 ⊢
  clear hX h1 h3 c1 hm
  go_enter Tryz.func148,Tryz.ntmps148
  go_wp2_with fail
  refine SM h2 ?_;clear h2
  go_wp2
  exact BR (v:=.float .f64 9221120237041090561) (by simp [results,Tryz.results148,go_sem]) rfl ⟨rfl,rfl⟩
 ·rw [show (m == 0)=false from by simp [c1]] at o1
  by_cases c2:9218868437227405312<m
  ·rw [if_pos (Or.inr c2)]
   rw [decide_eq_true c2] at h1
   obtain ⟨X,hX⟩:∃ X,X=Fq.wD n m:=⟨_,rfl⟩
   rw [← hX] at o1 h1 ⊢
   clear hX h3 c1 c2 hm
   go_enter Tryz.func148,Tryz.ntmps148
   go_wp2_with fail
   refine SM h1 ?_;clear h1
   go_wp2_with fail
   refine SM h2 ?_;clear h2
   go_wp2
   exact BR (v:=.float .f64 9221120237041090561) (by simp [results,Tryz.results148,go_sem]) rfl ⟨rfl,rfl⟩
  ·rw [if_neg (by omega)]
   rw [decide_eq_false c2] at h1
   have o2:=ord_neg n m (by omega) c1
   obtain ⟨X,hX⟩:∃ X,X=Fq.wD n m:=⟨_,rfl⟩
   obtain ⟨Z,hZ⟩:∃ Z,Z=Fq.wD n 9218868437227405312:=⟨_,rfl⟩
   rw [← hX] at o1 h1 o2 ⊢
   rw [← hZ] at h3 ⊢
   clear hX hZ h2 c1 c2 hm
   go_enter Tryz.func148,Tryz.ntmps148
   go_wp2_with fail
   refine SM h1 ?_;clear h1
   go_wp2_with fail
   refine SM h3 ?_;clear h3
   go_wp2
   exact BR (v:=.float .f64 Z) (by simp [results,Tryz.results148,go_sem]) rfl ⟨rfl,rfl⟩
theorem rat_div (d:Int) (ng:Bool) (a b x y:Nat) (ea eb:Int) (ha:a≠0) (hb:b≠0) (la:len32 a≤16384) (lb:len32 b≤16384) (hx:(x:Int)=ea+1074) (hy:(y:Int)=eb+1074):ratW d ng a b (ea - eb)=divW d ng (a*2 ^ x) (b*2 ^ y):=by
 unfold ratW divW
 rw [if_neg (by omega),if_neg hb,if_neg ha,if_neg (Nat.mul_ne_zero ha (Nat.ne_of_gt (Nat.two_pow_pos x))),rV_up _ _ _ _ _ _ (Nat.mul_pos (by omega) (Nat.two_pow_pos y)),rV_down _ _ _ _ _ _ (by omega),show (1074:Int)+(x:Int) - (y:Int)=ea - eb+1074 from by omega]
theorem by_ (d:Int) (s t:Bool) (a b:Nat) (ea eb:Int) (va vb:Value) (w:World) (hQ:Fq.Tab w) (hd1:-9223372036854775808≤d) (hd2:d<9223372036854775808) (ha:Ls w va (dig a)) (hb:Ls w vb (dig b)) (la:len32 a≤16384) (lb:len32 b≤16384) (ea1:-1074≤ea) (ea2:ea≤2048) (eb1:-1074≤eb) (eb2:eb≤2048) :
  Calls Tryz.prog 149 #[.agg #[.bool s,va,.int .i64 ea],.int .i64 d,.agg #[.bool t,vb,.int .i64 eb]] w fun e w'=>e=.returned (.float .f64 (ratW d (s ^^ t) a b (ea - eb)))∧Kp w w':=by
 obtain ⟨pa,ca,rfl,ha,hca⟩:=ha
 obtain ⟨pb,cb,rfl,hb,hcb⟩:=hb
 obtain ⟨La,hLa⟩:∃ La,La=(dig a).length:=⟨_,rfl⟩
 obtain ⟨Lb,hLb⟩:∃ Lb,Lb=(dig b).length:=⟨_,rfl⟩
 rw [← hLa,← hLb]
 obtain ⟨B,hB⟩:∃ B,B=w.heap.size:=⟨_,rfl⟩
 obtain ⟨w0,hw0⟩:∃ w0,w0=(w.alloc (.cells #[.bool s,.slice pa La ca,.int .i64 ea] 105)).alloc (.cells #[.bool t,.slice pb Lb cb,.int .i64 eb] 105):=⟨_,rfl⟩
 have hk0:Kp w w0:=by rw [hw0];exact ((Kp.refl w).alloc _).alloc _
 obtain ⟨x0,x1,x2,y0,y1,y2⟩:w0.cell? ⟨B,0,none⟩=some (.bool s)∧w0.cell? ⟨B,1,none⟩=some (.slice pa La ca)∧w0.cell? ⟨B,2,none⟩=some (.int .i64 ea)∧w0.cell? ⟨B+1,0,none⟩=some (.bool t)∧w0.cell? ⟨B+1,1,none⟩=some (.slice pb Lb cb)∧w0.cell? ⟨B+1,2,none⟩=some (.int .i64 eb):=by rw [hw0,hB];simp [go_sem]
 have h:=prat_ d (s ^^ t) pa pb ca cb (dig a) (dig b) (ea - eb) w0 (Fq.Tab.grown hQ hk0) hd1 hd2 (ha.grown hk0) (hb.grown hk0) (Wd_dig a) (Wd_dig b) (by change len32 a≤_;omega) (by change len32 b≤_;omega) hca hcb
 rw [val_dig,val_dig,← hLa,← hLb] at h
 have w1e:wrap64 (ea - eb)=ea - eb:=w64x _ (by omega) (by omega)
 obtain ⟨st,hst⟩:∃ st,st=(s ^^ t):=⟨_,rfl⟩
 have hst2:(s != t)=st:=by rw [hst]
 have hst3:(!decide (s=t))=st:=by rw [hst];cases s <;> cases t <;> rfl
 have hst4:(!(s == t))=st:=by rw [hst];cases s <;> cases t <;> rfl
 rw [← hst] at h ⊢
 obtain ⟨Z,hZ⟩:∃ Z,Z=ratW d st a b (ea - eb):=⟨_,rfl⟩
 rw [← hZ] at h ⊢
 have HW:Hid (w0=(w.alloc (.cells #[.bool s,.slice pa La ca,.int .i64 ea] 105)).alloc (.cells #[.bool t,.slice pb Lb cb,.int .i64 eb] 105)∧B=w.heap.size∧Kp w w0):=⟨hw0,hB,hk0⟩
 clear hZ hst ha hca hb hcb la lb hLa hLb hw0 hB hk0 hQ hd1 hd2 ea1 ea2 eb1 eb2
 go_enter Tryz.func149,Tryz.ntmps149
 go_wp2_with fail
 rw [← HW.out.2.1]
 try rw [← HW.out.1]
 go_wp2_with fail
 refine h.mono ?_;rintro e w1 ⟨rfl,k1⟩
 have hk:=HW.out.2.2.trans k1
 clear h k1
 go_wp2
 exact BR (v:=.float .f64 Z) (by simp [results,Tryz.results149,go_sem]) rfl ⟨rfl,hk⟩
theorem pdivQ_ (d:Int) (n n':Bool) (m m':Nat) (c1:2580562586483294208≤m∧m≤6633802251116740608) (c2:2580562586483294208≤m'∧m'≤6633802251116740608) (w:World) :
  Calls Tryz.prog 122 #[.int .i64 d,.float .f64 (Fq.wD n m),.float .f64 (Fq.wD n' m')] w fun e w'=>e=.returned (.float .f64 (divW d (n ^^ n') (Fq.vV Ieee.double m) (Fq.vV Ieee.double m')))∧Kp w w':=by
 have h1:=mild_ n m (by omega) w
 have h2:=mild_ n' m' (by omega) w
 rw [decide_eq_true c1] at h1
 rw [decide_eq_true c2] at h2
 obtain ⟨V,s,o,r,ro,K,h3,r0,r8,q0,q1,g1,g2,K1,K2,kV,hsum⟩:=twoQuotient_ n n' m m' c1 c2
 have h4:=steppedG_ d V s o (n ^^ n') r ro K K1 K2 kV r0 r8 q0 q1 g1 g2
 rw [hsum d] at h4
 obtain ⟨X,hX⟩:∃ X,X=Fq.wD n m:=⟨_,rfl⟩
 obtain ⟨Y,hY⟩:∃ Y,Y=Fq.wD n' m':=⟨_,rfl⟩
 obtain ⟨Z,hZ⟩:∃ Z,Z=divW d (n ^^ n') (Fq.vV Ieee.double m) (Fq.vV Ieee.double m'):=⟨_,rfl⟩
 obtain ⟨N,hN⟩:∃ N,N=Fq.wD s r:=⟨_,rfl⟩
 obtain ⟨O,hO⟩:∃ O,O=Fq.wD o ro:=⟨_,rfl⟩
 rw [← hX] at h1
 rw [← hY] at h2
 rw [← hX,← hY,← hN,← hO] at h3
 rw [← hN,← hO,← hZ] at h4
 rw [← hX,← hY,← hZ]
 clear hX hY hZ hN hO c1 c2 r0 r8 q0 q1 g1 g2 K1 K2 kV hsum
 go_enter Tryz.func122,Tryz.ntmps122
 go_wp2
 refine wp_scope_straight ?_
 go_wp2_with fail
 refine SM h1 ?_;clear h1
 go_wp2_with fail
 refine SM h2 ?_;clear h2
 have h5:=h3 w
 clear h3
 go_wp2_with fail
 refine SM h5 ?_;clear h5
 have h6:=h4 w
 clear h4
 go_wp2_with fail
 refine h6.mono ?_;rintro e w1 ⟨rfl,k1⟩
 clear h6
 go_wp2
 try rw [Exit.noGoto_ret]
 exact BR (v:=.float .f64 Z) (by simp [results,Tryz.results122,go_sem]) rfl ⟨rfl,k1⟩
theorem pdivE_ (d:Int) (n n':Bool) (m m':Nat) (hm:m<9218868437227405312) (hm':m'<9218868437227405312) (z:m≠0) (z':m'≠0) (ct:¬ ((2580562586483294208≤m∧m≤6633802251116740608)∧(2580562586483294208≤m'∧m'≤6633802251116740608))) (w:World) (hQ:Fq.Tab w) (hd1:-9223372036854775808≤d) (hd2:d<9223372036854775808) :
  Calls Tryz.prog 122 #[.int .i64 d,.float .f64 (Fq.wD n m),.float .f64 (Fq.wD n' m')] w fun e w'=>e=.returned (.float .f64 (divW d (n ^^ n') (Fq.vV Ieee.double m) (Fq.vV Ieee.double m')))∧Kp w w':=by
 have h1:=mild_ n m (by omega) w
 have h2:=mild_ n' m' (by omega) w
 have g1:=finite_ n m (by omega) w
 have g2:=finite_ n' m' (by omega) w
 rw [decide_eq_true hm] at g1
 rw [decide_eq_true hm'] at g2
 have o1:=Fq.eqzD n m (by omega)
 have o2:=Fq.eqzD n' m' (by omega)
 rw [show (m == 0)=false from by simp [z]] at o1
 rw [show (m' == 0)=false from by simp [z']] at o2
 obtain ⟨X,hX⟩:∃ X,X=Fq.wD n m:=⟨_,rfl⟩
 obtain ⟨Y,hY⟩:∃ Y,Y=Fq.wD n' m':=⟨_,rfl⟩
 obtain ⟨Z,hZ⟩:∃ Z,Z=divW d (n ^^ n') (Fq.vV Ieee.double m) (Fq.vV Ieee.double m'):=⟨_,rfl⟩
 obtain ⟨a,ea,a1,a2,a3,a4,ta⟩:=take_ n m hm
 obtain ⟨b,eb,b1,b2,b3,b4,tb⟩:=take_ n' m' hm'
 rw [show (n && !(m == 0))=n from by simp [z]] at ta
 rw [show (n' && !(m' == 0))=n' from by simp [z']] at tb
 have la:len32 a≤16384:=dlen a 16384 (by
  have:blen a≤53:=by rw [blen_le_iff,show (2:Nat) ^ 53=9007199254740992 from by decide];exact a4
  omega)
 have lb:len32 b≤16384:=dlen b 16384 (by
  have:blen b≤53:=by rw [blen_le_iff,show (2:Nat) ^ 53=9007199254740992 from by decide];exact b4
  omega)
 have za:a≠0:=fun h=>by rw [h,Nat.zero_mul] at a1;exact z ((vV_zero m).1 a1.symm)
 have zb:b≠0:=fun h=>by rw [h,Nat.zero_mul] at b1;exact z' ((vV_zero m').1 b1.symm)
 have hom:ratW d (n ^^ n') a b (ea - eb)=Z:=by
  rw [hZ,← a1,← b1]
  exact rat_div d (n ^^ n') a b _ _ ea eb za zb la lb (by omega) (by omega)
 have hp:∀ (va vb:Value) (w1:World),Kp w w1→Ls w1 va (dig a)→Ls w1 vb (dig b)→Calls Tryz.prog 149 #[.agg #[.bool n,va,.int .i64 ea],.int .i64 d,.agg #[.bool n',vb,.int .i64 eb]] w1 fun e w'=>e=.returned (.float .f64 Z)∧Kp w1 w':=fun va vb w1 k l1 l2=>by
  rw [← hom];exact by_ d n n' a b ea eb va vb w1 (Fq.Tab.grown hQ k) hd1 hd2 l1 l2 la lb a2 a3 b2 b3
 rw [← hX] at h1 g1 ta o1
 rw [← hY] at h2 g2 tb o2
 rw [← hX,← hY,← hZ]
 have ta1:=ta w hQ
 have tb1:=fun w1 (k:Kp w w1)=>tb w1 (Fq.Tab.grown hQ k)
 have HT:Hid (2580562586483294208≤m∧m≤6633802251116740608→¬ (2580562586483294208≤m'∧m'≤6633802251116740608)):=fun h h'=>ct ⟨h,h'⟩
 clear hX hY hZ hom la lb za zb a1 a2 a3 a4 b1 b2 b3 b4 ta tb hQ hd1 hd2 ct hm hm' z z'
 go_enter Tryz.func122,Tryz.ntmps122
 go_wp2
 refine wp_scope_jumps 0 (fun a' w'=>w'=w∧∃ u3 u4 u5 u6 u7 u8 u9 u10 u11 u12 u13 u14 u15 u16 u17 u18 u19 u20 u21 u22 u23 u24 u25 u26 u27 u28 u29 u30 u31 u32 u33 u34 u35 u36 u37 u38 u39 u40 u41 u42 u43 u44 u45 u46 u47 u48 u49 u50 u51 u52 u53 u54:Value,a'=⟨#[.int .i64 d,.float .f64 X,.float .f64 Y,u3,u4,u5,u6,u7,u8,u9,u10,u11,u12,u13,u14,u15,u16,u17,u18,u19,u20,u21,u22,u23,u24,u25,u26,u27,u28,u29,u30,u31,u32,u33,u34,u35,u36,u37,u38,u39,u40,u41,u42,u43,u44,u45,u46,u47,u48,u49,u50,u51,u52,u53,u54],[]⟩) (fun _ _=>0) rfl ?_ ?_
 ·clear g1 g2 ta1 tb1 hp o1 o2
  by_cases c1:2580562586483294208≤m∧m≤6633802251116740608
  ·rw [decide_eq_true c1] at h1
   rw [decide_eq_false (HT.out c1)] at h2
   clear c1 HT
   go_wp2_with fail
   refine SM h1 ?_;clear h1
   go_wp2_with fail
   refine SM h2 ?_;clear h2
   go_wp2_with fail
   go_step3
   exact ⟨rfl,rfl,_,_,_,_,_,_,_,_,_,_,_,_,_,_,_,_,_,_,_,_,_,_,_,_,_,_,_,_,_,_,_,_,_,_,_,_,_,_,_,_,_,_,_,_,_,_,_,_,_,_,_,_,rfl⟩
  ·rw [decide_eq_false c1] at h1
   clear c1 HT h2
   go_wp2_with fail
   refine SM h1 ?_;clear h1
   go_wp2_with fail
   go_step3
   exact ⟨rfl,rfl,_,_,_,_,_,_,_,_,_,_,_,_,_,_,_,_,_,_,_,_,_,_,_,_,_,_,_,_,_,_,_,_,_,_,_,_,_,_,_,_,_,_,_,_,_,_,_,_,_,_,_,_,rfl⟩
 ·rintro a' w' ⟨rfl,u3,u4,u5,u6,u7,u8,u9,u10,u11,u12,u13,u14,u15,u16,u17,u18,u19,u20,u21,u22,u23,u24,u25,u26,u27,u28,u29,u30,u31,u32,u33,u34,u35,u36,u37,u38,u39,u40,u41,u42,u43,u44,u45,u46,u47,u48,u49,u50,u51,u52,u53,u54,rfl⟩
  clear h1 h2 HT
  go_wp2_with fail
  refine g1.mono ?_;rintro e w9 ⟨rfl,hw'⟩;obtain rfl:=hw'.symm;clear hw' g1
  go_wp2_with fail
  refine g2.mono ?_;rintro e w9 ⟨rfl,hw'⟩;obtain rfl:=hw'.symm;clear hw' g2
  go_wp2_with fail
  refine ta1.mono ?_;rintro e w1 ⟨va,rfl,lva,k1⟩
  have tb2:=tb1 w1 k1
  clear ta1 tb1
  go_wp2_with fail
  refine tb2.mono ?_;rintro e w2 ⟨vb,rfl,lvb,k2⟩
  have k02:=k1.trans k2
  have hp2:=hp va vb w2 k02 (lva.kp k2) lvb
  clear tb2 hp lva lvb k1 k2
  go_wp2_with fail
  refine hp2.mono ?_;rintro e w3 ⟨rfl,k3⟩
  have k03:=k02.trans k3
  clear hp2 k02 k3
  go_wp2
  try simp only [Exit.jump]
  exact BR (v:=.float .f64 Z) (by simp [results,Tryz.results122,go_sem]) rfl ⟨rfl,k03⟩
theorem pdivN_ (d:Int) (n n':Bool) (m:Nat) (hm:m<9223372036854775808) (w:World) :
  Calls Tryz.prog 122 #[.int .i64 d,.float .f64 (Fq.wD n m),.float .f64 (Fq.wD n' 0)] w fun e w'=>e=.returned (.float .f64 (if m=0∨9218868437227405312<m then 9221120237041090561 else Fq.wD n 9218868437227405312))∧Kp w w':=by
 obtain ⟨m',hm0⟩:∃ m':Nat,m'=0:=⟨_,rfl⟩
 have h1:=mild_ n m hm w
 have h2:=mild_ n' m' (by omega) w
 have o2:=Fq.eqzD n' m' (by omega)
 rw [show (m' == 0)=true from by simp [hm0]] at o2
 have hb:=byNought_ n m hm w
 obtain ⟨R,hR⟩:∃ R,R=(if m=0∨9218868437227405312<m then 9221120237041090561 else Fq.wD n 9218868437227405312):=⟨_,rfl⟩
 rw [← hR,← hm0]
 obtain ⟨X,hX⟩:∃ X,X=Fq.wD n m:=⟨_,rfl⟩
 obtain ⟨Y,hY⟩:∃ Y,Y=Fq.wD n' m':=⟨_,rfl⟩
 rw [← hX] at h1 hb
 rw [← hY] at h2 o2
 rw [← hR] at hb
 rw [← hX,← hY]
 have HT:Hid (2580562586483294208≤m∧m≤6633802251116740608→¬ (2580562586483294208≤m'∧m'≤6633802251116740608)):=fun h h'=>by omega
 clear hX hY hR hm hm0
 go_enter Tryz.func122,Tryz.ntmps122
 go_wp2
 refine wp_scope_jumps 0 (fun a' w'=>w'=w∧∃ u3 u4 u5 u6 u7 u8 u9 u10 u11 u12 u13 u14 u15 u16 u17 u18 u19 u20 u21 u22 u23 u24 u25 u26 u27 u28 u29 u30 u31 u32 u33 u34 u35 u36 u37 u38 u39 u40 u41 u42 u43 u44 u45 u46 u47 u48 u49 u50 u51 u52 u53 u54:Value,a'=⟨#[.int .i64 d,.float .f64 X,.float .f64 Y,u3,u4,u5,u6,u7,u8,u9,u10,u11,u12,u13,u14,u15,u16,u17,u18,u19,u20,u21,u22,u23,u24,u25,u26,u27,u28,u29,u30,u31,u32,u33,u34,u35,u36,u37,u38,u39,u40,u41,u42,u43,u44,u45,u46,u47,u48,u49,u50,u51,u52,u53,u54],[]⟩) (fun _ _=>0) rfl ?_ ?_
 ·clear o2 hb
  by_cases c1:2580562586483294208≤m∧m≤6633802251116740608
  ·rw [decide_eq_true c1] at h1
   rw [decide_eq_false (HT.out c1)] at h2
   clear c1 HT
   go_wp2_with fail
   refine SM h1 ?_;clear h1
   go_wp2_with fail
   refine SM h2 ?_;clear h2
   go_wp2_with fail
   go_step3
   exact ⟨rfl,rfl,_,_,_,_,_,_,_,_,_,_,_,_,_,_,_,_,_,_,_,_,_,_,_,_,_,_,_,_,_,_,_,_,_,_,_,_,_,_,_,_,_,_,_,_,_,_,_,_,_,_,_,_,rfl⟩
  ·rw [decide_eq_false c1] at h1
   clear c1 HT h2
   go_wp2_with fail
   refine SM h1 ?_;clear h1
   go_wp2_with fail
   go_step3
   exact ⟨rfl,rfl,_,_,_,_,_,_,_,_,_,_,_,_,_,_,_,_,_,_,_,_,_,_,_,_,_,_,_,_,_,_,_,_,_,_,_,_,_,_,_,_,_,_,_,_,_,_,_,_,_,_,_,_,rfl⟩
 ·rintro a' w' ⟨rfl,u3,u4,u5,u6,u7,u8,u9,u10,u11,u12,u13,u14,u15,u16,u17,u18,u19,u20,u21,u22,u23,u24,u25,u26,u27,u28,u29,u30,u31,u32,u33,u34,u35,u36,u37,u38,u39,u40,u41,u42,u43,u44,u45,u46,u47,u48,u49,u50,u51,u52,u53,u54,rfl⟩
  clear h1 h2 HT
  go_wp2_with fail
  refine hb.mono ?_;rintro e w8 ⟨rfl,hw'⟩;obtain rfl:=hw'.symm;clear hw' hb
  go_wp2
  try simp only [Exit.jump]
  exact BR (v:=.float .f64 R) (by simp [results,Tryz.results122,go_sem]) rfl ⟨rfl,Kp.refl _⟩
def upW (d:Int) (ng:Bool) (A k:Nat):Nat:=mdW ng (finU 53 2098 9218868437227405311 9218868437227405312 (dirN ng d) (rV (dirN ng d) 53 (A ^ k) 1 (1074 - 1074*(k:Int))))
def dnW (d:Int) (ng:Bool) (A k:Nat):Nat:=mdW ng (finU 53 2098 9218868437227405311 9218868437227405312 (dirN ng d) (rV (dirN ng d) 53 1 (A ^ k) (1074+1074*(k:Int))))
theorem up_rat (d:Int) (ng:Bool) (a x k:Nat) (ea:Int) (ha:a≠0) (hx:(x:Int)=ea+1074) (hl:len32 (a ^ k)≤16384):ofW d ng (a ^ k) (ea*(k:Int))=upW d ng (a*2 ^ x) k:=by
 have hz:a ^ k≠0:=Nat.ne_of_gt (Nat.pow_pos (by omega))
 rw [of_rat]
 unfold ratW upW
 rw [if_neg (by rw [len32_one];omega),if_neg (by decide),if_neg hz,Nat.mul_pow,← Nat.pow_mul,rV_up _ _ _ _ _ _ (by decide)]
 have e:(1074 - 1074*(k:Int)+((x*k:Nat):Int))=ea*(k:Int)+1074:=by
  rw [Int.natCast_mul,hx,Int.add_mul];omega
 rw [e]
theorem dn_rat (d:Int) (ng:Bool) (a x k:Nat) (ea N:Int) (ha:a≠0) (hx:(x:Int)=ea+1074) (hN:N = -(k:Int)) (hl:len32 (a ^ k)≤16384):ratW d ng 1 (a ^ k) (ea*N)=dnW d ng (a*2 ^ x) k:=by
 have hz:a ^ k≠0:=Nat.ne_of_gt (Nat.pow_pos (by omega))
 unfold ratW dnW
 rw [if_neg (by rw [len32_one];omega),if_neg hz,if_neg (by decide),Nat.mul_pow,← Nat.pow_mul,rV_down _ _ _ _ _ _ (by omega)]
 have e:(1074+1074*(k:Int) - ((x*k:Nat):Int))=ea*N+1074:=by
  rw [Int.natCast_mul,hx,Int.add_mul,hN,Int.mul_neg];omega
 rw [e]
theorem mul_up (d:Int) (n:Bool) (A:Nat) (hA:A≠0):mulW d (n ^^ n) (A*A)=upW d false A 2:=by
 unfold mulW upW
 rw [if_neg (Nat.mul_ne_zero hA hA),show (n ^^ n)=false from by cases n <;> rfl,Nat.pow_two]
 rfl
theorem div_dn (d:Int) (n:Bool) (A B K:Nat) (hK:K=1074) (hB:B=2 ^ K) (hA:A≠0):divW d (false ^^ n) B A=dnW d n A 1:=by
 unfold divW dnW
 have hp:=Nat.two_pow_pos K
 rw [if_neg (by omega),show (false ^^ n)=n from by cases n <;> rfl,Nat.pow_one,hB,show (2:Nat) ^ K=1*2 ^ K from (Nat.one_mul _).symm,rV_up _ _ _ _ _ _ (by omega)]
 rw [show (1074:Int)+(K:Int)=1074+1074*((1:Nat):Int) from by omega]
theorem rg_vV (m:Nat) (_h:m<9218868437227405312):rgU 53 (Fq.vV Ieee.double m)=m:=by
 by_cases z:m=0
 ·subst z;rw [(vV_zero 0).2 rfl,rgU_zero]
 ·unfold Fq.vV Fq.mM Fq.eE
  rw [Fq.binD]
  by_cases c:m<4503599627370496
  ·rw [if_pos c,if_pos c,Nat.pow_zero,Nat.mul_one]
   unfold rgU
   have hb:blen m≤52:=by rw [blen_le_iff,show (2:Nat) ^ 52=4503599627370496 from by decide];exact c
   rw [show blen m - 53=0 from by omega];simp
  ·rw [if_neg c,if_neg c]
   have hb:blen (4503599627370496+m % 4503599627370496)=53:=blen_uniq _ 52 (by rw [show (2:Nat) ^ 52=4503599627370496 from by decide];omega) (by rw [show (2:Nat) ^ (52+1)=9007199254740992 from by decide];omega)
   rw [rgU_mul 53 _ _ 0 (by omega) (by rw [hb];simp) (by omega),Nat.pow_zero,Nat.mul_one,show (2:Nat) ^ (53 - 1)=4503599627370496 from by decide]
   omega
theorem rU_fl (d:Int) (A:Nat) (hA:FL (A:Int)):rU d 53 A 1=A:=by
 obtain ⟨E,hE⟩:∃ E,E=rE 53 A 1:=⟨_,rfl⟩
 obtain ⟨q,hq⟩:∃ q,q=rS 53 A 1:=⟨_,rfl⟩
 obtain ⟨r,hr⟩:∃ r,r=rR 53 A 1:=⟨_,rfl⟩
 obtain ⟨T,hT⟩:∃ T,T=2 ^ E:=⟨_,rfl⟩
 have hTp:0<T:=by rw [hT];exact Nat.two_pow_pos E
 have hAq:A=q*T+r:=by
  rw [hq,hr,hT,hE];unfold rS rR;rw [Nat.one_mul,Nat.mul_comm];exact (Nat.div_add_mod _ _).symm
 have hrl:r<T:=by rw [hr,hT,hE];unfold rR;rw [Nat.one_mul];exact Nat.mod_lt _ (Nat.two_pow_pos _)
 have hfix:=(rn_nr A).fix hA
 have h0:=rung_of A 0 E (q+(upw 0 q r T).toNat) hE (by rw [hq,hr,hT,hE,Nat.one_mul])
 rw [← hT] at h0
 have hr0:r=0:=by
  have e1:(q+(upw 0 q r T).toNat)*T=q*T+r:=by rw [← h0.1];omega
  rw [Nat.add_mul] at e1
  cases hu:upw 0 q r T
  ·rw [hu] at e1;simp at e1;omega
  ·rw [hu] at e1;simp at e1;omega
 have hd:=rung_of A d E (q+(upw d q r T).toNat) hE (by rw [hq,hr,hT,hE,Nat.one_mul])
 rw [← hT,hr0,upw_none _ _ _ hTp] at hd
 rw [hd.1,hAq,hr0];simp
theorem up_one (d:Int) (n:Bool) (m:Nat) (hm:m<9218868437227405312) (z:m≠0):upW d n (Fq.vV Ieee.double m) 1=Fq.wD n m:=by
 unfold upW
 have hfl:FL ((Fq.vV Ieee.double m:Nat):Int):=by
  have h:=iv_fl false m
  unfold Iv at h
  simpa using h
 have e:∀ dd:Int,rV dd 53 (Fq.vV Ieee.double m ^ 1) 1 (1074 - 1074*((1:Nat):Int))=Fq.vV Ieee.double m:=fun dd=>by
  rw [Nat.pow_one,show (1074 - 1074*((1:Nat):Int))=0 from by omega]
  unfold rV
  rw [show ((0:Int)).toNat=0 from rfl,show (-(0:Int)).toNat=0 from rfl,Nat.pow_zero,Nat.mul_one,Nat.mul_one]
  exact rU_fl dd _ hfl
 rw [e]
 have hbl:blen (Fq.vV Ieee.double m)≤2098:=by
  obtain ⟨K,hK⟩:∃ K:Nat,K=2098:=⟨_,rfl⟩
  rw [← hK,blen_le_iff]
  unfold Fq.vV Fq.mM Fq.eE
  rw [Fq.binD]
  by_cases c:m<4503599627370496
  ·rw [if_pos c,if_pos c,Nat.pow_zero,Nat.mul_one]
   refine Nat.lt_of_lt_of_le c ?_
   rw [show (4503599627370496:Nat)=2 ^ 52 from by decide]
   exact Nat.pow_le_pow_right (by decide) (by omega)
  ·rw [if_neg c,if_neg c]
   have h1:(4503599627370496+m % 4503599627370496)*2 ^ (m / 4503599627370496 - 1)<9007199254740992*2 ^ (m / 4503599627370496 - 1):=Nat.mul_lt_mul_of_pos_right (by omega) (Nat.two_pow_pos _)
   refine Nat.lt_of_lt_of_le h1 ?_
   rw [show (9007199254740992:Nat)=2 ^ 53 from by decide,← Nat.pow_add]
   exact Nat.pow_le_pow_right (by decide) (by omega)
 unfold finU mdW Fq.wD
 rw [if_pos hbl,rg_vV m hm,if_neg z]
theorem vV_one (K:Nat) (hK:K=1074):Fq.vV Ieee.double 4607182418800017408=2 ^ K:=by
 unfold Fq.vV Fq.mM Fq.eE
 rw [Fq.binD,if_neg (by decide),if_neg (by decide),show (4607182418800017408:Nat) / 4503599627370496 - 1=1022 from by decide,show (4503599627370496:Nat)+4607182418800017408 % 4503599627370496=2 ^ 52 from by decide]
 obtain ⟨j,hj⟩:∃ j,j=1022:=⟨_,rfl⟩
 rw [← hj,← Nat.pow_add,show 52+j=K from by omega]
theorem pow_len (a k:Nat) (ha:a<9007199254740992) (hk:k≤1024):len32 (a ^ k)≤16384:=dlen _ _ (by
 have h:blen (a ^ k)≤53*k+1:=by
  rw [blen_le_iff]
  have h1:a ^ k≤(2 ^ 53) ^ k:=Nat.pow_le_pow_left (by rw [show (2:Nat) ^ 53=9007199254740992 from by decide];omega) k
  rw [← Nat.pow_mul] at h1
  have h2:2 ^ (53*k)<2 ^ (53*k+1):=Nat.pow_lt_pow_right (by decide) (by omega)
  omega
 omega)
end Go.Proofs.YtcfnialfpblfmaaGreatDoor
