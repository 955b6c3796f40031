import Derived.Test.YtcfnialfpblfmaaGreatDoorKH4Q
import Derived.Test.YtcfnialfpblfmaaGreatDoorKMR23
import Derived.Scope
import Derived.ScopeJumps
set_option maxHeartbeats 1000000
set_option maxRecDepth 20000
namespace Go.Proofs.YtcfnialfpblfmaaGreatDoor
open Go.RowKit
theorem stepped_ (d V:Int) (s o sz:Bool) (r ro K:Nat) (hK:53≤K) (hK2:K≤2096) (hv:V.natAbs<2 ^ K) (hr1:r<9218868437227405312) (hro:ro<9218868437227405312) (hr:r=rgU 53 (rU 0 53 V.natAbs 1)) (hs:s=(if V=0 then sz else decide (V<0))) (ho:Iv o ro=V - Iv s r) (w:World) :
  Calls Tryz.prog 110 #[.int .i64 d,.float .f64 (Fq.wD s r),.float .f64 (Fq.wD o ro)] w fun e w'=>e=.returned (.float .f64 (sumW d V))∧Kp w w':=by
 obtain ⟨S1,S2,S3⟩:=step_w d V s o sz r ro K hK hK2 hv hr hs ho
 have hz:(0:Nat)=Fq.wD false 0:=rfl
 have hord:FloatKind.f64.format.order (Fq.wD o ro) 0=some (compare (Fq.plz o ro) 0):=by
  rw [hz,Fq.ordD o false ro 0 (by omega) (by decide)];rfl
 obtain ⟨P,hP⟩:∃ P,P=Fq.plz o ro:=⟨_,rfl⟩
 rw [← hP] at S1 S2 S3 hord
 obtain ⟨O,hO⟩:∃ O,O=Fq.wD o ro:=⟨_,rfl⟩
 obtain ⟨Z,hZ⟩:∃ Z,Z=sumW d V:=⟨_,rfl⟩
 obtain ⟨N,hN⟩:∃ N,N=Fq.wD s r:=⟨_,rfl⟩
 rw [← hZ] at S1 S2 S3
 rw [← hO] at hord
 rw [← hO,← hZ,← hN]
 have hup:=fun h=>Fq.up_d s r (by omega) h w
 have hdn:=fun h=>Fq.dn_d s r (by omega) h w
 have hpl:=Fq.plain_d s r (by omega) w
 rw [← hN] at hup hdn hpl
 clear hO hN hZ hr hs ho hP hz hv hK hK2 hr1 hro
 by_cases c1:d = -1
 ·by_cases c2:P<0
  ·obtain ⟨a1,a2⟩:=S1 c1 c2
   have hc:=hdn a1
   rw [a2] at hc
   have o1:(FloatKind.f64.format.order O 0 == some .lt)=true:=by rw [hord,Int.compare_eq_lt.2 c2];rfl
   subst c1
   clear S1 S2 S3 hup hdn hpl hord c2 a1 a2
   go_enter Tryz.func110,Tryz.ntmps110
   go_wp2_with fail
   refine hc.mono ?_;rintro e w1 ⟨rfl,hk⟩
   clear hc
   go_wp2
   exact BR (v:=.float .f64 Z) (by simp [results,Tryz.results110,go_sem]) rfl ⟨rfl,hk⟩
  ·have hc:=hpl
   rw [S3 (fun h=>c2 h.2) (fun h=>by omega)] at hc
   have o1:(FloatKind.f64.format.order O 0 == some .lt)=false:=by
    rw [hord]
    rcases Int.lt_trichotomy P 0 with h | h | h
    ·exact absurd h c2
    ·rw [Int.compare_eq_eq.2 h];rfl
    ·rw [Int.compare_eq_gt.2 h];rfl
   subst c1
   clear S1 S2 S3 hup hdn hpl hord c2
   go_enter Tryz.func110,Tryz.ntmps110
   go_wp2_with fail
   refine hc.mono ?_;rintro e w1 ⟨rfl,hw⟩
   obtain rfl:=hw.symm
   clear hc
   go_wp2
   exact BR (v:=.float .f64 Z) (by simp [results,Tryz.results110,go_sem]) rfl ⟨rfl,Kp.refl _⟩
 ·have e1:(d == -1)=false:=by simp [c1]
  by_cases c3:d=1
  ·by_cases c2:0<P
   ·obtain ⟨a1,a2⟩:=S2 c3 c2
    have hc:=hup a1
    rw [a2] at hc
    have o1:(FloatKind.f64.format.order O 0 == some .gt)=true:=by rw [hord,Int.compare_eq_gt.2 c2];rfl
    subst c3
    clear S1 S2 S3 hup hdn hpl hord c2 a1 a2 c1
    go_enter Tryz.func110,Tryz.ntmps110
    go_wp2_with fail
    refine hc.mono ?_;rintro e w1 ⟨rfl,hk⟩
    clear hc
    go_wp2
    exact BR (v:=.float .f64 Z) (by simp [results,Tryz.results110,go_sem]) rfl ⟨rfl,hk⟩
   ·have hc:=hpl
    rw [S3 (fun h=>c1 h.1) (fun h=>c2 h.2)] at hc
    have o1:(FloatKind.f64.format.order O 0 == some .gt)=false:=by
     rw [hord]
     rcases Int.lt_trichotomy P 0 with h | h | h
     ·rw [Int.compare_eq_lt.2 h];rfl
     ·rw [Int.compare_eq_eq.2 h];rfl
     ·exact absurd h c2
    subst c3
    clear S1 S2 S3 hup hdn hpl hord c2 c1
    go_enter Tryz.func110,Tryz.ntmps110
    go_wp2_with fail
    refine hc.mono ?_;rintro e w1 ⟨rfl,hw⟩
    obtain rfl:=hw.symm
    clear hc
    go_wp2
    exact BR (v:=.float .f64 Z) (by simp [results,Tryz.results110,go_sem]) rfl ⟨rfl,Kp.refl _⟩
  ·have e2:(d == 1)=false:=by simp [c3]
   have hc:=hpl
   rw [S3 (fun h=>c1 h.1) (fun h=>c3 h.1)] at hc
   clear S1 S2 S3 hup hdn hpl hord c1 c3
   go_enter Tryz.func110,Tryz.ntmps110
   go_wp2_with fail
   refine hc.mono ?_;rintro e w1 ⟨rfl,hw⟩
   obtain rfl:=hw.symm
   clear hc
   go_wp2
   exact BR (v:=.float .f64 Z) (by simp [results,Tryz.results110,go_sem]) rfl ⟨rfl,Kp.refl _⟩
theorem kfro {W w:World} {b o:Nat} (g:Kp W w) (h:b<W.heap.size):w.frozen? ⟨b,o,none⟩=W.frozen? ⟨b,o,none⟩:=World.frozen?_of_block (w:=W) (Below.block g b h)
theorem AK3 {W w:World} {b:Nat} {v0 v1 v2:Value} (g:Kp W w) (h:W.cell? ⟨b,0,none⟩=some v0∧W.frozen? ⟨b,0,none⟩=false∧W.cell? ⟨b,1,none⟩=some v1∧W.frozen? ⟨b,1,none⟩=false∧W.cell? ⟨b,2,none⟩=some v2∧W.frozen? ⟨b,2,none⟩=false):w.cell? ⟨b,0,none⟩=some v0∧w.frozen? ⟨b,0,none⟩=false∧w.cell? ⟨b,1,none⟩=some v1∧w.frozen? ⟨b,1,none⟩=false∧w.cell? ⟨b,2,none⟩=some v2∧w.frozen? ⟨b,2,none⟩=false:=by
 obtain ⟨c0,z0,c1,z1,c2,z2⟩:=h
 exact ⟨kkeep g c0,(kfro g (cell_lt c0)).trans z0,kkeep g c1,(kfro g (cell_lt c1)).trans z1,kkeep g c2,(kfro g (cell_lt c2)).trans z2⟩
theorem tz0_ (w:World):Calls Tryz.prog 140 #[.int .u64 0] w fun e w'=>e=.returned (.int .i64 64)∧w'=w:=by
 go_enter Tryz.func140,Tryz.ntmps140
 go_wp2
 exact BR (v:=.int .i64 64) (by simp [results,Tryz.results140,go_sem]) rfl ⟨rfl,rfl⟩
theorem take_ (n:Bool) (m:Nat) (hm:m<9218868437227405312) :
  ∃ (a:Nat) (ex:Int),a*2 ^ (ex+1074).toNat=Fq.vV Ieee.double m∧-1074≤ex∧ex≤2048∧a<9007199254740992∧∀ w:World,Fq.Tab w→Calls Tryz.prog 113 #[.float .f64 (Fq.wD n m)] w fun e w'=>∃ v,e=.returned (.agg #[.bool (n && !(m == 0)),v,.int .i64 ex])∧Ls w' v (dig a)∧Kp w w':=by
 obtain ⟨v1,v2,v3,v4,v5⟩:=Fq.vlsgD m hm
 obtain ⟨X,hX⟩:∃ X,X=Fq.wD n m:=⟨_,rfl⟩
 obtain ⟨sg,hsg⟩:∃ sg,sg=Fq.sgD m:=⟨_,rfl⟩
 obtain ⟨ep,hep⟩:∃ ep,ep=Fq.epD m:=⟨_,rfl⟩
 obtain ⟨nn,hnn⟩:∃ nn:Bool,nn=(n && !(m == 0)):=⟨_,rfl⟩
 rw [← hsg,← hep] at v1
 rw [← hsg] at v2 v3
 rw [← hep] at v4 v5
 -- the odd part and its zeros
 obtain ⟨a,k,hk,hka,htz,hsh,ha⟩:∃ a k:Nat,a*2 ^ (ep+(k:Int)+1074).toNat=Fq.vV Ieee.double m∧k≤64∧(∀ w1,Fq.Tab w1→Calls Tryz.prog 140 #[.int .u64 (sg:Int)] w1 fun e w'=>e=.returned (.int .i64 (k:Int))∧w'=w1)∧(sg:Int) / 2 ^ min k 64=(a:Int)∧a<9007199254740992:=by
  by_cases c:sg=0
  ·refine ⟨0,64, ?_,by omega, ?_,by rw [c];simp,by omega⟩
   ·have e:Fq.vV Ieee.double m=Fq.vlD m:=rfl
    rw [e,← v1,c];simp
   ·intro w1 _
    rw [c];exact tz0_ w1
  ·obtain ⟨o,o1,o2,o3,o4⟩:=ctz_odd sg c
   have hcl:blen sg≤53:=by rw [blen_le_iff,show (2:Nat) ^ 53=9007199254740992 from by decide];exact v2
   refine ⟨o,ctz sg, ?_,by omega, ?_, ?_, ?_⟩
   ·have e:Fq.vV Ieee.double m=Fq.vlD m:=rfl
    rw [e,← v1,show (ep+((ctz sg:Nat):Int)+1074).toNat=ctz sg+(ep+1074).toNat from by omega,Nat.pow_add,← Nat.mul_assoc,← o2]
   ·intro w1 t1
    have h:=Fq.tz_ o (ctz sg) o1 (by rw [← o2];omega) w1 t1
    rw [← o2] at h
    exact h
   ·rw [Nat.min_eq_left (by omega)]
    have:((sg / 2 ^ ctz sg:Nat):Int)=(o:Int):=by rw [o3]
    rw [← this,Int.natCast_ediv,castpow]
   ·have:=Nat.div_le_self sg (2 ^ ctz sg);omega
 refine ⟨a,ep+(k:Int),hk,by omega,by omega,ha,fun w hQ=>?_⟩
 obtain ⟨w0,hw0⟩:∃ w0,w0=w.alloc (.cells #[.bool false,.slice none 0 0,.int .i64 0] 105):=⟨_,rfl⟩
 obtain ⟨B,hB⟩:∃ B,B=w.heap.size:=⟨_,rfl⟩
 have hk0:Kp w w0:=by rw [hw0];exact (Kp.refl w).alloc _
 have hsp:=Fq.split_d n m hm w0
 rw [← hX,← hsg,← hep,← hnn] at hsp
 rw [← hX,← hnn]
 rw [Nat.min_eq_left hka] at hsh
 have hsm:=fun w1=>nsmall_ a (by omega) w1
 have htz2:=fun w1 (kk:Kp w0 w1)=>htz w1 (Fq.Tab.grown hQ (hk0.trans kk))
 have hal:∀ w1,Kp w0 w1→True:=fun _ _=>trivial
 obtain ⟨e0,e1,e2,f0,f1,f2⟩:w0.cell? ⟨B,0,none⟩=some (.bool false)∧w0.cell? ⟨B,1,none⟩=some (.slice none 0 0)∧w0.cell? ⟨B,2,none⟩=some (.int .i64 0)∧w0.frozen? ⟨B,0,none⟩=false∧w0.frozen? ⟨B,1,none⟩=false∧w0.frozen? ⟨B,2,none⟩=false:=by rw [hw0,hB];simp [go_sem]
 have hlt:=cell_lt e0
 have hep1:-1074≤ep:=v4
 have hep2:ep≤971:=v5
 have HW:Hid (w0=w.alloc (.cells #[.bool false,.slice none 0 0,.int .i64 0] 105)∧B=w.heap.size∧Kp w w0):=⟨hw0,hB,hk0⟩
 clear hal v1 v2 v3 v4 v5 hX hsg hep hnn hw0 hB hk0 htz hQ hk ha hm
 go_enter Tryz.func113,Tryz.ntmps113
 go_wp2_with fail
 rw [← HW.out.1,← HW.out.2.1]
 refine hsp.mono ?_;rintro e w1 ⟨rfl,k1⟩
 have k1':Kp w0 w1:=k1
 have htz3:=htz2 w1 k1'
 clear hsp htz2 k1
 go_wp2_with fail
 refine SM htz3 ?_;clear htz3
 have hs2:=hsm w1
 clear hsm
 go_wp2_with fail
 try rw [hsh]
 refine hs2.mono ?_;rintro e w2 ⟨v,rfl,ho,k2⟩
 have hls:=ho.ls
 obtain ⟨pv,cv,rfl,hav,hcv⟩:=ho.arr
 have k02:=k1'.trans k2
 have hlt2:=ho.lt
 replace e0:=kkeep k02 e0
 replace e1:=kkeep k02 e1
 replace e2:=kkeep k02 e2
 replace f0:=(kfro k02 hlt).trans f0
 replace f1:=(kfro k02 hlt).trans f1
 replace f2:=(kfro k02 hlt).trans f2
 have hks:=Below.size k1'
 obtain ⟨L,hL⟩:∃ L,L=(dig a).length:=⟨_,rfl⟩
 rw [← hL]
 have HO:Hid (Own w2 w1.heap.size (.slice pv (dig a).length cv) (dig a)∧L=(dig a).length∧Kp w0 w2∧B<w1.heap.size):=⟨ho,hL,k02,by omega⟩
 clear hs2 ho hls hav hcv k1' k2 k02 hlt2 hL hks
 go_wp2
 obtain ⟨ho,hL,k02,hBl⟩:=HO.out
 have kb:Kb B w2 (((w2.setCell ⟨B,0,none⟩ (.bool nn)).setCell ⟨B,1,none⟩ (.slice pv L cv)).setCell ⟨B,2,none⟩ (.int .i64 (ep+(k:Int)))):=(((Kb.refl B w2).setCell 0 _).setCell 1 _).setCell 2 _
 have ho2:=ho.kb kb (fun g hg=>by have:=ho.lt g hg;omega)
 have hls:=ho2.ls
 rw [← hL] at hls
 have hkw:Kp w (((w2.setCell ⟨B,0,none⟩ (.bool nn)).setCell ⟨B,1,none⟩ (.slice pv L cv)).setCell ⟨B,2,none⟩ (.int .i64 (ep+(k:Int)))):=kb.kp (HW.out.2.2.trans k02) (by rw [HW.out.2.1];exact Nat.le_refl _)
 exact BR (v:=.agg #[.bool nn,.slice pv L cv,.int .i64 (ep+(k:Int))]) (by simp [results,Tryz.results113,go_sem,e0,e1,e2]) rfl ⟨_,rfl,hls,hkw⟩
theorem halves_ (n:Bool) (m:Nat) (hm:m<9218868437227405312) (e:Nat) (he:e≤1960) (hU:((2 ^ e:Nat):Int) ∣ Iv n m) (b1:4503599627370496*2 ^ e≤(Iv n m).natAbs) (b2:(Iv n m).natAbs<9007199254740992*2 ^ e) :
  ∃ (h l:Bool) (hr lr:Nat),(∀ w:World,Calls Tryz.prog 136 #[.float .f64 (Fq.wD n m)] w fun e w'=>e=.returned (.tuple #[.float .f64 (Fq.wD h hr),.float .f64 (Fq.wD l lr)])∧w'=w)∧hr<9218868437227405312∧lr<9218868437227405312∧∃ a b:Int,Iv h hr=134217728*(((2 ^ e:Nat):Int)*a)∧Iv l lr=((2 ^ e:Nat):Int)*b∧Iv n m=Iv h hr+Iv l lr∧a.natAbs≤67108864∧b.natAbs≤67108864:=by
 obtain ⟨c,g,h,l,cr,gr,hr,lr,e1,e2,e3,e4,h1,h2,h3⟩:=half_words n m hm e he hU b1 b2
 refine ⟨h,l,hr,lr,fun w=>?_,h1,h2,h3⟩
 obtain ⟨X,hX⟩:∃ X,X=Fq.wD n m:=⟨_,rfl⟩
 obtain ⟨C,hC⟩:∃ C,C=Fq.wD c cr:=⟨_,rfl⟩
 obtain ⟨G,hG⟩:∃ G,G=Fq.wD g gr:=⟨_,rfl⟩
 obtain ⟨H,hH⟩:∃ H,H=Fq.wD h hr:=⟨_,rfl⟩
 obtain ⟨L,hL⟩:∃ L,L=Fq.wD l lr:=⟨_,rfl⟩
 rw [show Fq.wD false 4728779608772575232=4728779608772575232 from rfl,← hX,← hC] at e1
 rw [← hC,← hX,← hG] at e2
 rw [← hC,← hG,← hH] at e3
 rw [← hX,← hH,← hL] at e4
 rw [← hX,← hH,← hL]
 have g1:∀ w:World,(binOp .mul 22 (.float .f64 X) (.float .f64 4728779608772575232)).run Tryz.prog w=.ok (.float .f64 C) w:=fun w=>run_float_arith w .mul 22 .f64 X 4728779608772575232 C e1
 have g2:∀ w:World,(binOp .sub 22 (.float .f64 C) (.float .f64 X)).run Tryz.prog w=.ok (.float .f64 G) w:=fun w=>run_float_arith w .sub 22 .f64 C X G e2
 have g3:∀ w:World,(binOp .sub 22 (.float .f64 C) (.float .f64 G)).run Tryz.prog w=.ok (.float .f64 H) w:=fun w=>run_float_arith w .sub 22 .f64 C G H e3
 have g4:∀ w:World,(binOp .sub 22 (.float .f64 X) (.float .f64 H)).run Tryz.prog w=.ok (.float .f64 L) w:=fun w=>run_float_arith w .sub 22 .f64 X H L e4
 clear hX hC hG hH hL e1 e2 e3 e4 h1 h2 h3 hm hU b1 b2
 go_enter Tryz.func136,Tryz.ntmps136
 go_wp2
 exact BR (v:=.tuple #[.float .f64 H,.float .f64 L]) (by simp [results,Tryz.results136,go_sem]) rfl ⟨rfl,rfl⟩
theorem twoProduct_ (n n':Bool) (m m' e e':Nat) (hm:m<9218868437227405312) (hm':m'<9218868437227405312) (he:e≤1960) (he':e'≤1960) (s1:1074≤e+e') (s2:e+e'≤2944) (hU:((2 ^ e:Nat):Int) ∣ Iv n m) (b1:4503599627370496*2 ^ e≤(Iv n m).natAbs) (b2:(Iv n m).natAbs<9007199254740992*2 ^ e) (hU':((2 ^ e':Nat):Int) ∣ Iv n' m') (b3:4503599627370496*2 ^ e'≤(Iv n' m').natAbs) (b4:(Iv n' m').natAbs<9007199254740992*2 ^ e') (L:Nat) (hL:L=1074) :
  ∃ (V:Int) (s o:Bool) (r ro K:Nat),V*((2 ^ L:Nat):Int)=Iv n m*Iv n' m'∧(∀ w:World,Calls Tryz.prog 109 #[.float .f64 (Fq.wD n m),.float .f64 (Fq.wD n' m')] w fun e w'=>e=.returned (.tuple #[.float .f64 (Fq.wD s r),.float .f64 (Fq.wD o ro)])∧w'=w)∧r<9218868437227405312∧ro<9218868437227405312∧r=rgU 53 (rU 0 53 V.natAbs 1)∧s=(if V=0 then n ^^ n' else decide (V<0))∧Iv o ro=V - Iv s r∧53≤K∧K≤2096∧V.natAbs<2 ^ K:=by
 obtain ⟨h,l,hr,lr,k1,f1,f2,a,b,ga,gb,gx,la,lb⟩:=halves_ n m hm e he hU b1 b2
 obtain ⟨h',l',hr',lr',k2,f3,f4,a',b',ga',gb',gx',la',lb'⟩:=halves_ n' m' hm' e' he' hU' b3 b4
 obtain ⟨V,s,p1,q1,p2,q2,p3,q3,p4,o,r,pr1,qr1,pr2,qr2,pr3,qr3,pr4,ro,K,zV,w0,w1,w2,w3,w4,w5,w6,w7,w8,r0,r8,e0,e0',hex,K1,K2,kV⟩:=prod_words n n' h l h' l' m m' hr lr hr' lr' e e' hm hm' f1 f2 f3 f4 s1 s2 b1 b2 b3 b4 a b a' b' ga gb gx la lb ga' gb' gx' la' lb' L hL
 refine ⟨V,s,o,r,ro,K,zV,fun w=>?_,r0,r8,e0,e0',hex,K1,K2,kV⟩
 clear zV r0 r8 e0 e0' hex K1 K2 kV ga gb gx la lb ga' gb' gx' la' lb' f1 f2 f3 f4 hU b1 b2 hU' b3 b4 s1 s2 hm hm' he he' hL
 obtain ⟨X,hX⟩:∃ X,X=Fq.wD n m:=⟨_,rfl⟩
 obtain ⟨Y,hY⟩:∃ Y,Y=Fq.wD n' m':=⟨_,rfl⟩
 obtain ⟨S,hS⟩:∃ S,S=Fq.wD s r:=⟨_,rfl⟩
 obtain ⟨H1,hH1⟩:∃ H1,H1=Fq.wD h hr:=⟨_,rfl⟩
 obtain ⟨L1,hL1⟩:∃ L1,L1=Fq.wD l lr:=⟨_,rfl⟩
 obtain ⟨H2,hH2⟩:∃ H2,H2=Fq.wD h' hr':=⟨_,rfl⟩
 obtain ⟨L2,hL2⟩:∃ L2,L2=Fq.wD l' lr':=⟨_,rfl⟩
 obtain ⟨P1,hP1⟩:∃ P1,P1=Fq.wD p1 pr1:=⟨_,rfl⟩
 obtain ⟨P2,hP2⟩:∃ P2,P2=Fq.wD p2 pr2:=⟨_,rfl⟩
 obtain ⟨P3,hP3⟩:∃ P3,P3=Fq.wD p3 pr3:=⟨_,rfl⟩
 obtain ⟨P4,hP4⟩:∃ P4,P4=Fq.wD p4 pr4:=⟨_,rfl⟩
 obtain ⟨Q1,hQ1⟩:∃ Q1,Q1=Fq.wD q1 qr1:=⟨_,rfl⟩
 obtain ⟨Q2,hQ2⟩:∃ Q2,Q2=Fq.wD q2 qr2:=⟨_,rfl⟩
 obtain ⟨Q3,hQ3⟩:∃ Q3,Q3=Fq.wD q3 qr3:=⟨_,rfl⟩
 obtain ⟨O,hO⟩:∃ O,O=Fq.wD o ro:=⟨_,rfl⟩
 rw [← hX,← hY,← hS] at w0
 rw [← hH1,← hH2,← hP1] at w1
 rw [← hS,← hP1,← hQ1] at w2
 rw [← hL1,← hH2,← hP2] at w3
 rw [← hQ1,← hP2,← hQ2] at w4
 rw [← hH1,← hL2,← hP3] at w5
 rw [← hQ2,← hP3,← hQ3] at w6
 rw [← hL1,← hL2,← hP4] at w7
 rw [← hP4,← hQ3,← hO] at w8
 rw [← hX,← hH1,← hL1] at k1
 rw [← hY,← hH2,← hL2] at k2
 rw [← hX,← hY,← hS,← hO]
 have g0:∀ w:World,(binOp .mul 22 (.float .f64 X) (.float .f64 Y)).run Tryz.prog w=.ok (.float .f64 S) w:=fun w=>run_float_arith w .mul 22 .f64 X Y S w0
 have g1:∀ w:World,(binOp .mul 22 (.float .f64 H1) (.float .f64 H2)).run Tryz.prog w=.ok (.float .f64 P1) w:=fun w=>run_float_arith w .mul 22 .f64 H1 H2 P1 w1
 have g2:∀ w:World,(binOp .sub 22 (.float .f64 S) (.float .f64 P1)).run Tryz.prog w=.ok (.float .f64 Q1) w:=fun w=>run_float_arith w .sub 22 .f64 S P1 Q1 w2
 have g3:∀ w:World,(binOp .mul 22 (.float .f64 L1) (.float .f64 H2)).run Tryz.prog w=.ok (.float .f64 P2) w:=fun w=>run_float_arith w .mul 22 .f64 L1 H2 P2 w3
 have g4:∀ w:World,(binOp .sub 22 (.float .f64 Q1) (.float .f64 P2)).run Tryz.prog w=.ok (.float .f64 Q2) w:=fun w=>run_float_arith w .sub 22 .f64 Q1 P2 Q2 w4
 have g5:∀ w:World,(binOp .mul 22 (.float .f64 H1) (.float .f64 L2)).run Tryz.prog w=.ok (.float .f64 P3) w:=fun w=>run_float_arith w .mul 22 .f64 H1 L2 P3 w5
 have g6:∀ w:World,(binOp .sub 22 (.float .f64 Q2) (.float .f64 P3)).run Tryz.prog w=.ok (.float .f64 Q3) w:=fun w=>run_float_arith w .sub 22 .f64 Q2 P3 Q3 w6
 have g7:∀ w:World,(binOp .mul 22 (.float .f64 L1) (.float .f64 L2)).run Tryz.prog w=.ok (.float .f64 P4) w:=fun w=>run_float_arith w .mul 22 .f64 L1 L2 P4 w7
 have g8:∀ w:World,(binOp .sub 22 (.float .f64 P4) (.float .f64 Q3)).run Tryz.prog w=.ok (.float .f64 O) w:=fun w=>run_float_arith w .sub 22 .f64 P4 Q3 O w8
 clear hX hY hS hH1 hL1 hH2 hL2 hP1 hP2 hP3 hP4 hQ1 hQ2 hQ3 hO w0 w1 w2 w3 w4 w5 w6 w7 w8
 go_enter Tryz.func109,Tryz.ntmps109
 go_wp2_with fail
 refine SM (k1 _) ?_;clear k1
 go_wp2_with fail
 refine SM (k2 _) ?_;clear k2
 go_wp2
 exact BR (v:=.tuple #[.float .f64 S,.float .f64 O]) (by simp [results,Tryz.results109,go_sem]) rfl ⟨rfl,rfl⟩
open Ieee in
theorem ord_const (m C:Nat) (hm:m<9223372036854775808) (hC:C≤9218868437227405312):FloatKind.f64.format.order m C=if m≤9218868437227405312 then some (compare (m:Int) (C:Int)) else none:=by
 have hf:FloatKind.f64.format=double:=rfl
 have hi:double.infRung=9218868437227405312:=by decide +kernel
 have hw:double.signWeight=9223372036854775808:=by decide +kernel
 have hb:double.binade≤double.infRung:=by decide +kernel
 have r1:Fq.rg double m=m:=by unfold Fq.rg;rw [hw];exact Nat.mod_eq_of_lt hm
 have r2:Fq.rg double C=C:=by unfold Fq.rg;rw [hw];exact Nat.mod_eq_of_lt (by omega)
 have p1:Fq.pl double m=(m:Int):=by
  unfold Fq.pl Fq.ng
  rw [r1,hw,Nat.div_eq_of_lt hm];rfl
 have p2:Fq.pl double C=(C:Int):=by
  unfold Fq.pl Fq.ng
  rw [r2,hw,Nat.div_eq_of_lt (by omega)];rfl
 rw [hf]
 by_cases c:m≤9218868437227405312
 ·rw [if_pos c,Fq.order_num double m C hb (by rw [r1,hi];exact c) (by rw [r2,hi];exact hC),p1,p2]
 ·rw [if_neg c,Fq.order_nan_left double m C hb (by rw [r1,hi];omega)]
theorem mild_ (n:Bool) (m:Nat) (hm:m<9223372036854775808) (w:World):Calls Tryz.prog 108 #[.float .f64 (Fq.wD n m)] w fun e w'=>e=.returned (.bool (decide (2580562586483294208≤m∧m≤6633802251116740608)))∧w'=w:=by
 have h:=abs_ n m hm w
 obtain ⟨X,hX⟩:∃ X,X=Fq.wD n m:=⟨_,rfl⟩
 rw [← hX] at h ⊢
 have q1:=ord_const m 2580562586483294208 hm (by decide)
 have q2:=ord_const m 6633802251116740608 hm (by decide)
 clear hX
 by_cases c:m≤9218868437227405312
 ·rw [if_pos c] at q1 q2
  rcases Int.lt_trichotomy (m:Int) (2580562586483294208:Nat) with d1 | d1 | d1
  ·have o1:FloatKind.f64.format.order m 2580562586483294208=some .lt:=by rw [q1,Int.compare_eq_lt.2 d1]
   rw [decide_eq_false (by omega)]
   clear q1 q2 c d1
   go_enter Tryz.func108,Tryz.ntmps108
   go_wp2_with fail
   refine SM h ?_
   go_wp2
   exact BR (v:=.bool false) (by simp [results,Tryz.results108,go_sem]) rfl ⟨rfl,rfl⟩
  ·have o1:FloatKind.f64.format.order m 2580562586483294208=some .eq:=by rw [q1,Int.compare_eq_eq.2 d1]
   have o2:FloatKind.f64.format.order m 6633802251116740608=some .lt:=by rw [q2,Int.compare_eq_lt.2 (by omega)]
   rw [decide_eq_true (by omega)]
   clear q1 q2 c d1
   go_enter Tryz.func108,Tryz.ntmps108
   go_wp2_with fail
   refine SM h ?_
   go_wp2_with fail
   refine SM h ?_
   go_wp2
   exact BR (v:=.bool true) (by simp [results,Tryz.results108,go_sem]) rfl ⟨rfl,rfl⟩
  ·have o1:FloatKind.f64.format.order m 2580562586483294208=some .gt:=by rw [q1,Int.compare_eq_gt.2 d1]
   rcases Int.lt_trichotomy (m:Int) (6633802251116740608:Nat) with d2 | d2 | d2
   ·have o2:FloatKind.f64.format.order m 6633802251116740608=some .lt:=by rw [q2,Int.compare_eq_lt.2 d2]
    rw [decide_eq_true (by omega)]
    clear q1 q2 c d1 d2
    go_enter Tryz.func108,Tryz.ntmps108
    go_wp2_with fail
    refine SM h ?_
    go_wp2_with fail
    refine SM h ?_
    go_wp2
    exact BR (v:=.bool true) (by simp [results,Tryz.results108,go_sem]) rfl ⟨rfl,rfl⟩
   ·have o2:FloatKind.f64.format.order m 6633802251116740608=some .eq:=by rw [q2,Int.compare_eq_eq.2 d2]
    rw [decide_eq_true (by omega)]
    clear q1 q2 c d1 d2
    go_enter Tryz.func108,Tryz.ntmps108
    go_wp2_with fail
    refine SM h ?_
    go_wp2_with fail
    refine SM h ?_
    go_wp2
    exact BR (v:=.bool true) (by simp [results,Tryz.results108,go_sem]) rfl ⟨rfl,rfl⟩
   ·have o2:FloatKind.f64.format.order m 6633802251116740608=some .gt:=by rw [q2,Int.compare_eq_gt.2 d2]
    rw [decide_eq_false (by omega)]
    clear q1 q2 c d1 d2
    go_enter Tryz.func108,Tryz.ntmps108
    go_wp2_with fail
    refine SM h ?_
    go_wp2_with fail
    refine SM h ?_
    go_wp2
    exact BR (v:=.bool false) (by simp [results,Tryz.results108,go_sem]) rfl ⟨rfl,rfl⟩
 ·rw [if_neg c] at q1 q2
  have o1:=q1
  rw [decide_eq_false (by omega)]
  clear q1 q2 c
  go_enter Tryz.func108,Tryz.ntmps108
  go_wp2_with fail
  refine SM h ?_
  go_wp2
  exact BR (v:=.bool false) (by simp [results,Tryz.results108,go_sem]) rfl ⟨rfl,rfl⟩
theorem nmul_ (p q:Option Addr) (c d:Nat) (xs ys:List Int) (w:World) (hx:Arr w p xs) (hy:Arr w q ys) (hwx:Wd xs) (hwy:Wd ys) (lx:xs.length≤16777216) (ly:ys.length≤16777216) (hc:xs.length≤c) (hd:ys.length≤d) :
  Calls Tryz.prog 142 #[.slice p xs.length c,.slice q ys.length d] w fun e w'=>∃ v,e=.returned (.tuple #[v,.int .i64 (mulN (val xs) (val ys)).2])∧Own w' w.heap.size v (mulN (val xs) (val ys)).1∧Kp w w':=by
 have h1:=trim_ p c xs w hx (by omega) hc
 have h2:=trim_ q d ys w hy (by omega) hd
 have h3:=tooLong_ p (tl xs) c
 have h4:=tooLong_ q (tl ys) d
 have h5:=product_ p q c d (nz xs) (nz ys) w (hx.take _) (hy.take _) (hwx.take _) (hwy.take _) (by rw [nz_length];have:=tl_le xs;omega) (by rw [nz_length];have:=tl_le ys;omega)
 rw [nz_length,nz_length,val_nz,val_nz] at h5
 have e1:=tl_len xs hwx
 have e2:=tl_len ys hwy
 have lS:=tl_le xs
 have lT:=tl_le ys
 obtain ⟨a,ha⟩:∃ a,a=val xs:=⟨_,rfl⟩
 obtain ⟨b,hb'⟩:∃ b,b=val ys:=⟨_,rfl⟩
 rw [← ha,← hb'] at h5
 rw [← ha] at e1
 rw [← hb'] at e2
 obtain ⟨N,hN⟩:∃ N,N=xs.length:=⟨_,rfl⟩
 obtain ⟨M,hM⟩:∃ M,M=ys.length:=⟨_,rfl⟩
 obtain ⟨S,hS⟩:∃ S,S=tl xs:=⟨_,rfl⟩
 obtain ⟨T,hT⟩:∃ T,T=tl ys:=⟨_,rfl⟩
 rw [← hN,← hS] at h1
 rw [← hM,← hT] at h2
 rw [← hS] at h3 h5 e1 lS
 rw [← hT] at h4 h5 e2 lT
 rw [← hN,← hM,← ha,← hb']
 have lS2:S≤16777216:=by omega
 have lT2:T≤16777216:=by omega
 clear hx hy hwx hwy lx ly hc hd hN hM hS hT ha hb' lS lT
 by_cases c1:16384<S
 ·rw [decide_eq_true c1] at h3
  have e3:mulN a b=([],2):=by unfold mulN;rw [if_pos (Or.inl (by omega))]
  rw [e3]
  clear h4 h5 c1 e1 e2 e3 lS2 lT2
  go_enter Tryz.func142,Tryz.ntmps142
  go_wp2_with fail
  refine SM h1 ?_
  go_wp2_with fail
  refine SM h2 ?_
  go_wp2_with fail
  refine SM (h3 _) ?_
  go_wp2
  exact BR (v:=.tuple #[.slice none 0 0,.int .i64 2]) (by simp [results,Tryz.results142,go_sem] <;> simp only [*]) rfl ⟨_,rfl,Own.nil _ _,Kp.refl _⟩
 rw [decide_eq_false c1] at h3
 by_cases c2:16384<T
 ·rw [decide_eq_true c2] at h4
  have e3:mulN a b=([],2):=by unfold mulN;rw [if_pos (Or.inr (by omega))]
  rw [e3]
  clear h5 c1 c2 e1 e2 e3 lS2 lT2
  go_enter Tryz.func142,Tryz.ntmps142
  go_wp2_with fail
  refine SM h1 ?_
  go_wp2_with fail
  refine SM h2 ?_
  go_wp2_with fail
  refine SM (h3 _) ?_
  go_wp2_with fail
  refine SM (h4 _) ?_
  go_wp2
  exact BR (v:=.tuple #[.slice none 0 0,.int .i64 2]) (by simp [results,Tryz.results142,go_sem] <;> simp only [*]) rfl ⟨_,rfl,Own.nil _ _,Kp.refl _⟩
 rw [decide_eq_false c2] at h4
 have e0:mulN a b=if 16384<len32 (a*b) then ([],2) else (dig (a*b),0):=by unfold mulN;rw [if_neg (by omega)]
 by_cases c5:16384<S+T - 1
 ·have c6:=mul_words a b 16384 (by omega) (by omega) (by omega)
  rw [e0,if_pos c6]
  have t1:(16384:Int)<(S:Int)+(T:Int) - 1:=by omega
  clear h5 c1 c2 e1 e2 e0 c5 c6
  go_enter Tryz.func142,Tryz.ntmps142
  go_wp2_with fail
  refine SM h1 ?_
  go_wp2_with fail
  refine SM h2 ?_
  go_wp2_with fail
  refine SM (h3 _) ?_
  go_wp2_with fail
  refine SM (h4 _) ?_
  go_wp2
  exact BR (v:=.tuple #[.slice none 0 0,.int .i64 2]) (by simp [results,Tryz.results142,go_sem] <;> simp only [*]) rfl ⟨_,rfl,Own.nil _ _,Kp.refl _⟩
 have t1:¬ ((16384:Int)<(S:Int)+(T:Int) - 1):=by omega
 obtain ⟨K,hK⟩:∃ K,K=a*b:=⟨_,rfl⟩
 rw [e0,← hK]
 rw [← hK] at h5
 clear c1 c2 e0 hK e1 e2 c5
 by_cases c3:16384<len32 K
 ·rw [if_pos c3]
  go_enter Tryz.func142,Tryz.ntmps142
  go_wp2_with fail
  refine SM h1 ?_
  go_wp2_with fail
  refine SM h2 ?_
  go_wp2_with fail
  refine SM (h3 _) ?_
  go_wp2_with fail
  refine SM (h4 _) ?_
  go_wp2_with fail
  refine h5.mono ?_;rintro e w1 ⟨v,rfl,hO,hkp⟩
  obtain ⟨p1,cc,rfl,hA,_⟩:=hO.arr
  have hf:=unlessLong_ p1 (dig K).length cc
  have c4:(16384<(dig K).length):=c3
  rw [if_pos c4] at hf
  clear c4
  obtain ⟨D,hD⟩:∃ D,D=(dig K).length:=⟨_,rfl⟩
  have hO':Own w1 w.heap.size (.slice p1 D cc) (dig K):=by rw [hD];exact hO
  rw [← hD] at hf ⊢
  clear hA h1 h2 h3 h4 h5 hD c3 hO
  go_wp2_with fail
  refine (hf _).mono ?_;rintro e w2 ⟨rfl,hw2⟩;obtain rfl:=hw2.symm
  go_wp2
  exact BR (v:=.tuple #[.slice none 0 0,.int .i64 2]) (by simp [results,Tryz.results142,go_sem] <;> simp only [*]) rfl ⟨_,rfl,Own.nil _ _,hkp⟩
 ·rw [if_neg c3]
  go_enter Tryz.func142,Tryz.ntmps142
  go_wp2_with fail
  refine SM h1 ?_
  go_wp2_with fail
  refine SM h2 ?_
  go_wp2_with fail
  refine SM (h3 _) ?_
  go_wp2_with fail
  refine SM (h4 _) ?_
  go_wp2_with fail
  refine h5.mono ?_;rintro e w1 ⟨v,rfl,hO,hkp⟩
  obtain ⟨p1,cc,rfl,hA,_⟩:=hO.arr
  have hf:=unlessLong_ p1 (dig K).length cc
  have c4:¬ (16384<(dig K).length):=c3
  rw [if_neg c4] at hf
  clear c4
  obtain ⟨D,hD⟩:∃ D,D=(dig K).length:=⟨_,rfl⟩
  have hO':Own w1 w.heap.size (.slice p1 D cc) (dig K):=by rw [hD];exact hO
  rw [← hD] at hf ⊢
  clear hA h1 h2 h3 h4 h5 hD c3 hO
  go_wp2_with fail
  refine (hf _).mono ?_;rintro e w2 ⟨rfl,hw2⟩;obtain rfl:=hw2.symm
  go_wp2
  exact BR (v:=.tuple #[.slice p1 D cc,.int .i64 0]) (by simp [results,Tryz.results142,go_sem] <;> simp only [*]) rfl ⟨_,rfl,hO',hkp⟩

theorem rounded_ (d:Int) (ng:Bool) (c:Nat) (low:Int) (v:Value) (w:World) (hv:Ls w v (dig c)) (hT:Tab w) (hQ:Fq.Tab w) (hd1:-9223372036854775808≤d) (hd2:d<9223372036854775808) (hl:len32 c≤16384) :
  Calls Tryz.prog 115 #[.agg #[.bool ng,v,.int .i64 low],.int .i64 d] w fun e w'=>e=.returned (.float .f64 (ofW d ng c low))∧Kp w w':=by
 obtain ⟨p,cc,rfl,ha,hc⟩:=hv
 obtain ⟨L,hL⟩:∃ L,L=(dig c).length:=⟨_,rfl⟩
 obtain ⟨B,hB⟩:∃ B,B=w.heap.size:=⟨_,rfl⟩
 obtain ⟨w0,hw0⟩:∃ w0,w0=w.alloc (.cells #[.bool ng,.slice p L cc,.int .i64 low] 105):=⟨_,rfl⟩
 have hk0:Kp w w0:=by rw [hw0];exact (Kp.refl w).alloc _
 have h:=pof_ d ng p cc (dig c) low w0 (hT.grown hk0) (Fq.Tab.grown hQ hk0) hd1 hd2 (ha.grown hk0) (Wd_dig c) (by change len32 c≤_;omega) hc
 rw [val_dig,← hL] at h
 rw [← hL]
 obtain ⟨x0,x1,x2⟩:w0.cell? ⟨B,0,none⟩=some (.bool ng)∧w0.cell? ⟨B,1,none⟩=some (.slice p L cc)∧w0.cell? ⟨B,2,none⟩=some (.int .i64 low):=by rw [hw0,hB];simp [go_sem]
 obtain ⟨Z,hZ⟩:∃ Z,Z=ofW d ng c low:=⟨_,rfl⟩
 rw [← hZ] at h ⊢
 have HW:Hid (w0=w.alloc (.cells #[.bool ng,.slice p L cc,.int .i64 low] 105)∧B=w.heap.size∧Kp w w0):=⟨hw0,hB,hk0⟩
 clear hZ hL hw0 hB hk0 ha hc hT hQ hd1 hd2 hl
 go_enter Tryz.func115,Tryz.ntmps115
 go_wp2_with fail
 rw [← HW.out.2.1]
 try rw [← HW.out.1]
 go_wp2_with fail
 refine h.mono ?_;rintro e w1 ⟨rfl,k1⟩
 have hk:=HW.out.2.2.trans k1
 clear h k1
 go_wp2
 exact BR (v:=.float .f64 Z) (by simp [results,Tryz.results115,go_sem]) rfl ⟨rfl,hk⟩
theorem times_ (s t:Bool) (a b:Nat) (ea eb:Int) (va vb:Value) (w:World) (ha:Ls w va (dig a)) (hb:Ls w vb (dig b)) (la:a<9007199254740992) (lb:b<9007199254740992) (ea1:-1074≤ea) (ea2:ea≤2048) (eb1:-1074≤eb) (eb2:eb≤2048) :
  Calls Tryz.prog 114 #[.agg #[.bool s,va,.int .i64 ea],.agg #[.bool t,vb,.int .i64 eb]] w fun e w'=>∃ v,e=.returned (.agg #[.bool (s ^^ t),v,.int .i64 (ea+eb)])∧Ls w' v (dig (a*b))∧Kp w w':=by
 obtain ⟨pa,ca,rfl,ha,hca⟩:=ha
 obtain ⟨pb,cb,rfl,hb,hcb⟩:=hb
 obtain ⟨La,hLa⟩:∃ La,La=(dig a).length:=⟨_,rfl⟩
 obtain ⟨Lb,hLb⟩:∃ Lb,Lb=(dig b).length:=⟨_,rfl⟩
 rw [← hLa,← hLb]
 obtain ⟨B,hB⟩:∃ B,B=w.heap.size:=⟨_,rfl⟩
 obtain ⟨w0,hw0⟩:∃ w0,w0=((w.alloc (.cells #[.bool s,.slice pa La ca,.int .i64 ea] 105)).alloc (.cells #[.bool t,.slice pb Lb cb,.int .i64 eb] 105)).alloc (.cells #[.bool false,.slice none 0 0,.int .i64 0] 105):=⟨_,rfl⟩
 have hk0:Kp w w0:=by rw [hw0];exact (((Kp.refl w).alloc _).alloc _).alloc _
 obtain ⟨x0,x1,x2,y0,y1,y2,z0,z1,z2,f0,f1,f2⟩:w0.cell? ⟨B,0,none⟩=some (.bool s)∧w0.cell? ⟨B,1,none⟩=some (.slice pa La ca)∧w0.cell? ⟨B,2,none⟩=some (.int .i64 ea)∧w0.cell? ⟨B+1,0,none⟩=some (.bool t)∧w0.cell? ⟨B+1,1,none⟩=some (.slice pb Lb cb)∧w0.cell? ⟨B+1,2,none⟩=some (.int .i64 eb)∧w0.cell? ⟨B+2,0,none⟩=some (.bool false)∧w0.cell? ⟨B+2,1,none⟩=some (.slice none 0 0)∧w0.cell? ⟨B+2,2,none⟩=some (.int .i64 0)∧w0.frozen? ⟨B+2,0,none⟩=false∧w0.frozen? ⟨B+2,1,none⟩=false∧w0.frozen? ⟨B+2,2,none⟩=false:=by rw [hw0,hB];simp [go_sem]
 have hlt:=cell_lt z0
 have ba:blen a≤53:=by rw [blen_le_iff,show (2:Nat) ^ 53=9007199254740992 from by decide];exact la
 have bb:blen b≤53:=by rw [blen_le_iff,show (2:Nat) ^ 53=9007199254740992 from by decide];exact lb
 have la3:len32 a≤2:=dlen a 2 (by omega)
 have lb3:len32 b≤2:=dlen b 2 (by omega)
 have hab:len32 (a*b)≤16384:=dlen (a*b) 16384 (by
  have h:blen (a*b)≤53+53:=by
   rw [blen_le_iff,Nat.pow_add]
   exact Nat.mul_lt_mul'' ((blen_le_iff a 53).1 ba) ((blen_le_iff b 53).1 bb)
  omega)
 have q1:=nmul_ pa pb ca cb (dig a) (dig b) w0 (ha.grown hk0) (hb.grown hk0) (Wd_dig a) (Wd_dig b) (by change len32 a≤_;omega) (by change len32 b≤_;omega) hca hcb
 rw [val_dig,val_dig] at q1
 have hs:mulN a b=(dig (a*b),0):=by
  unfold mulN
  rw [if_neg (by omega),if_neg (by omega)]
 rw [hs,← hLa,← hLb] at q1
 have w1e:wrap64 (ea+eb)=ea+eb:=w64x _ (by omega) (by omega)
 have gne:∀ w:World,(binOp .neq 4 (.bool s) (.bool t)).run Tryz.prog w=.ok (.bool (s ^^ t)) w:=fun w=>by cases s <;> cases t <;> rfl
 obtain ⟨st,hst⟩:∃ st,st=(s ^^ t):=⟨_,rfl⟩
 have hst2:(s != t)=st:=by rw [hst]
 have hst3:(!decide (s=t))=st:=by rw [hst];cases s <;> cases t <;> rfl
 have hst4:(!(s == t))=st:=by rw [hst];cases s <;> cases t <;> rfl
 rw [← hst] at gne ⊢
 have HW:Hid (w0=((w.alloc (.cells #[.bool s,.slice pa La ca,.int .i64 ea] 105)).alloc (.cells #[.bool t,.slice pb Lb cb,.int .i64 eb] 105)).alloc (.cells #[.bool false,.slice none 0 0,.int .i64 0] 105)∧B=w.heap.size∧Kp w w0):=⟨hw0,hB,hk0⟩
 clear hst ha hca hb hcb la lb hLa hLb hw0 hB hk0 ba bb la3 lb3 hab hs
 go_enter Tryz.func114,Tryz.ntmps114
 go_wp2_with fail
 rw [← HW.out.2.1]
 try rw [← HW.out.1]
 refine q1.mono ?_;rintro e w1 ⟨v,rfl,ho,k1⟩
 obtain ⟨pv,cv,rfl,hav,hcv⟩:=ho.arr
 obtain ⟨LV,hLV⟩:∃ LV,LV=(dig (a*b)).length:=⟨_,rfl⟩
 rw [← hLV]
 replace x0:=kkeep k1 x0
 replace x1:=kkeep k1 x1
 replace x2:=kkeep k1 x2
 replace y0:=kkeep k1 y0
 replace y1:=kkeep k1 y1
 replace y2:=kkeep k1 y2
 replace z0:=kkeep k1 z0
 replace z1:=kkeep k1 z1
 replace z2:=kkeep k1 z2
 replace f0:=(kfro k1 hlt).trans f0
 replace f1:=(kfro k1 hlt).trans f1
 replace f2:=(kfro k1 hlt).trans f2
 have HO:Hid (Own w1 w0.heap.size (.slice pv (dig (a*b)).length cv) (dig (a*b))∧LV=(dig (a*b)).length∧Kp w0 w1∧B+2<w0.heap.size):=⟨ho,hLV,k1,hlt⟩
 clear q1 ho hav hcv k1 hLV
 go_wp2
 obtain ⟨ho,hL,k01,hBl⟩:=HO.out
 have kb:Kb (B+2) w1 (((w1.setCell ⟨B+2,0,none⟩ (.bool st)).setCell ⟨B+2,1,none⟩ (.slice pv LV cv)).setCell ⟨B+2,2,none⟩ (.int .i64 (ea+eb))):=(((Kb.refl (B+2) w1).setCell 0 _).setCell 1 _).setCell 2 _
 have ho2:=ho.kb kb (fun g hg=>by have:=ho.lt g hg;omega)
 have hls:=ho2.ls
 rw [← hL] at hls
 have hkw:Kp w (((w1.setCell ⟨B+2,0,none⟩ (.bool st)).setCell ⟨B+2,1,none⟩ (.slice pv LV cv)).setCell ⟨B+2,2,none⟩ (.int .i64 (ea+eb))):=kb.kp (HW.out.2.2.trans k01) (by rw [HW.out.2.1];omega)
 exact BR (v:=.agg #[.bool st,.slice pv LV cv,.int .i64 (ea+eb)]) (by simp [results,Tryz.results114,go_sem,z0,z1,z2]) rfl ⟨_,rfl,hls,hkw⟩
theorem rU_zero9:rU 0 53 0 1=0:=by
 have h:=rV_zero9 0 0
 unfold rV at h
 simpa using h
theorem mul_zero (n n':Bool) (m m':Nat) (hm:m<9218868437227405312) (hm':m'<9218868437227405312) (h:m=0∨m'=0):FloatKind.f64.format.mul (Fq.wD n m) (Fq.wD n' m')=some (Fq.wD (n ^^ n') 0):=by
 obtain ⟨K,hK⟩:∃ K:Nat,K=1074:=⟨_,rfl⟩
 have hz:Iv n m*Iv n' m'=0:=by
  have e:∀ b:Bool,Iv b 0=0:=fun b=>by
   have:=iv_abs b 0
   rw [(vV_zero 0).2 rfl] at this
   omega
  rcases h with h | h
  ·rw [h,e,Int.zero_mul]
  ·rw [h,e,Int.mul_zero]
 rw [mul_v n n' m m' hm hm' K 0 hK (by rw [hz,Int.zero_mul]),if_pos rfl,show (0:Int).natAbs=0 from rfl,rU_zero9]
 unfold finU
 rw [blen_zero,if_pos (by decide),rgU_zero]
theorem pmulQ_ (d:Int) (n n':Bool) (m m':Nat) (c1:2580562586483294208≤m∧m≤6633802251116740608) (c2:2580562586483294208≤m'∧m'≤6633802251116740608) (w:World) :
  Calls Tryz.prog 81 #[.int .i64 d,.float .f64 (Fq.wD n m),.float .f64 (Fq.wD n' m')] w fun e w'=>e=.returned (.float .f64 (mulW d (n ^^ n') (Fq.vV Ieee.double m*Fq.vV Ieee.double m')))∧Kp w w':=by
 have h1:=mild_ n m (by omega) w
 have h2:=mild_ n' m' (by omega) w
 rw [decide_eq_true c1] at h1
 rw [decide_eq_true c2] at h2
 obtain ⟨L,hL⟩:∃ L:Nat,L=1074:=⟨_,rfl⟩
 obtain ⟨e,e1,e2,u1,v1,v2⟩:=mild_unit n m c1.1 c1.2
 obtain ⟨e',e3,e4,u2,v3,v4⟩:=mild_unit n' m' c2.1 c2.2
 obtain ⟨V,s,o,r,ro,K,zV,h3,r0,r8,q0,q1,hex,K1,K2,kV⟩:=twoProduct_ n n' m m' e e' (by omega) (by omega) (by omega) (by omega) (by omega) (by omega) u1 v1 v2 u2 v3 v4 L hL
 have h4:=stepped_ d V s o (n ^^ n') r ro K K1 K2 kV r0 r8 q0 q1 hex
 rw [sum_mul d V (n ^^ n') _ L hL (abs_v n n' m m' L V zV) (sgn_v n n' m m' L V zV)] at h4
 obtain ⟨X,hX⟩:∃ X,X=Fq.wD n m:=⟨_,rfl⟩
 obtain ⟨Y,hY⟩:∃ Y,Y=Fq.wD n' m':=⟨_,rfl⟩
 obtain ⟨Z,hZ⟩:∃ Z,Z=mulW d (n ^^ n') (Fq.vV Ieee.double m*Fq.vV Ieee.double m'):=⟨_,rfl⟩
 obtain ⟨N,hN⟩:∃ N,N=Fq.wD s r:=⟨_,rfl⟩
 obtain ⟨O,hO⟩:∃ O,O=Fq.wD o ro:=⟨_,rfl⟩
 rw [← hX] at h1
 rw [← hY] at h2
 rw [← hX,← hY,← hN,← hO] at h3
 rw [← hN,← hO,← hZ] at h4
 rw [← hX,← hY,← hZ]
 clear hX hY hZ hN hO c1 c2 u1 v1 v2 u2 v3 v4 zV r0 r8 q0 q1 hex K1 K2 kV hL e1 e2 e3 e4
 go_enter Tryz.func81,Tryz.ntmps81
 go_wp2
 refine wp_scope_straight ?_
 go_wp2_with fail
 refine SM h1 ?_;clear h1
 go_wp2_with fail
 refine SM h2 ?_;clear h2
 have h5:=h3 w
 clear h3
 go_wp2_with fail
 refine SM h5 ?_;clear h5
 have h6:=h4 w
 clear h4
 go_wp2_with fail
 refine h6.mono ?_;rintro e w1 ⟨rfl,k1⟩
 clear h6
 go_wp2
 try rw [Exit.noGoto_ret]
 exact BR (v:=.float .f64 Z) (by simp [results,Tryz.results81,go_sem]) rfl ⟨rfl,k1⟩
theorem pmulE_ (d:Int) (n n':Bool) (m m':Nat) (hm:m<9218868437227405312) (hm':m'<9218868437227405312) (z:m≠0) (z':m'≠0) (ct:¬ ((2580562586483294208≤m∧m≤6633802251116740608)∧(2580562586483294208≤m'∧m'≤6633802251116740608))) (w:World) (hT:Tab w) (hQ:Fq.Tab w) (hd1:-9223372036854775808≤d) (hd2:d<9223372036854775808) :
  Calls Tryz.prog 81 #[.int .i64 d,.float .f64 (Fq.wD n m),.float .f64 (Fq.wD n' m')] w fun e w'=>e=.returned (.float .f64 (mulW d (n ^^ n') (Fq.vV Ieee.double m*Fq.vV Ieee.double m')))∧Kp w w':=by
 have h1:=mild_ n m (by omega) w
 have h2:=mild_ n' m' (by omega) w
 have g1:=finite_ n m (by omega) w
 have g2:=finite_ n' m' (by omega) w
 rw [decide_eq_true hm] at g1
 rw [decide_eq_true hm'] at g2
 have o1:=Fq.eqzD n m (by omega)
 have o2:=Fq.eqzD n' m' (by omega)
 rw [show (m == 0)=false from by simp [z]] at o1
 rw [show (m' == 0)=false from by simp [z']] at o2
 obtain ⟨X,hX⟩:∃ X,X=Fq.wD n m:=⟨_,rfl⟩
 obtain ⟨Y,hY⟩:∃ Y,Y=Fq.wD n' m':=⟨_,rfl⟩
 obtain ⟨Z,hZ⟩:∃ Z,Z=mulW d (n ^^ n') (Fq.vV Ieee.double m*Fq.vV Ieee.double m'):=⟨_,rfl⟩
 obtain ⟨a,ea,a1,a2,a3,a4,ta⟩:=take_ n m hm
 obtain ⟨b,eb,b1,b2,b3,b4,tb⟩:=take_ n' m' hm'
 rw [show (n && !(m == 0))=n from by simp [z]] at ta
 rw [show (n' && !(m' == 0))=n' from by simp [z']] at tb
 have hab:blen (a*b)≤106:=by
  have h:blen (a*b)≤53+53:=by
   rw [blen_le_iff,Nat.pow_add]
   exact Nat.mul_lt_mul'' (by rw [show (2:Nat) ^ 53=9007199254740992 from by decide];exact a4) (by rw [show (2:Nat) ^ 53=9007199254740992 from by decide];exact b4)
  omega
 have hom:ofW d (n ^^ n') (a*b) (ea+eb)=Z:=by
  rw [hZ]
  refine of_mul d (n ^^ n') (a*b) (ea+eb) _ (by omega) (by omega) (by omega) ?_
  rw [← a1,← b1,show (ea+eb+2148).toNat=(ea+1074).toNat+(eb+1074).toNat from by omega,Nat.pow_add]
  simp only [Nat.mul_assoc,Nat.mul_left_comm]
 have hr:∀ (v:Value) (w1:World),Kp w w1→Ls w1 v (dig (a*b))→Calls Tryz.prog 115 #[.agg #[.bool (n ^^ n'),v,.int .i64 (ea+eb)],.int .i64 d] w1 fun e w'=>e=.returned (.float .f64 Z)∧Kp w1 w':=fun v w1 k1 l1=>by
  rw [← hom];exact rounded_ d (n ^^ n') (a*b) (ea+eb) v w1 l1 (hT.grown k1) (Fq.Tab.grown hQ k1) hd1 hd2 (dlen (a*b) 16384 (by omega))
 have hp:=fun va vb w1 la lb=>times_ n n' a b ea eb va vb w1 la lb a4 b4 a2 a3 b2 b3
 rw [← hX] at h1 g1 ta o1
 rw [← hY] at h2 g2 tb o2
 rw [← hX,← hY,← hZ]
 have ta1:=ta w hQ
 have tb1:=fun w1 (k:Kp w w1)=>tb w1 (Fq.Tab.grown hQ k)
 obtain ⟨ee,hee⟩:∃ ee,ee=ea+eb:=⟨_,rfl⟩
 obtain ⟨ns,hns⟩:∃ ns,ns=(n ^^ n'):=⟨_,rfl⟩
 rw [← hee,← hns] at hr
 simp only [← hee,← hns] at hp
 have HT:Hid (2580562586483294208≤m∧m≤6633802251116740608→¬ (2580562586483294208≤m'∧m'≤6633802251116740608)):=fun h h'=>ct ⟨h,h'⟩
 clear hX hY hZ hom hab a1 a2 a3 a4 b1 b2 b3 b4 ta tb hT hQ hd1 hd2 ct hm hm' z z' hee hns
 go_enter Tryz.func81,Tryz.ntmps81
 go_wp2
 refine wp_scope_jumps 0 (fun a' w'=>w'=w∧∃ u3 u4 u5 u6 u7 u8 u9 u10 u11 u12 u13 u14 u15 u16 u17 u18 u19 u20 u21 u22 u23 u24 u25 u26 u27 u28 u29 u30 u31 u32 u33 u34 u35 u36 u37 u38 u39 u40 u41 u42 u43 u44 u45 u46 u47 u48 u49 u50 u51 u52 u53:Value,a'=⟨#[.int .i64 d,.float .f64 X,.float .f64 Y,u3,u4,u5,u6,u7,u8,u9,u10,u11,u12,u13,u14,u15,u16,u17,u18,u19,u20,u21,u22,u23,u24,u25,u26,u27,u28,u29,u30,u31,u32,u33,u34,u35,u36,u37,u38,u39,u40,u41,u42,u43,u44,u45,u46,u47,u48,u49,u50,u51,u52,u53],[]⟩) (fun _ _=>0) rfl ?_ ?_
 ·clear g1 g2 ta1 tb1 hp hr o1 o2
  by_cases c1:2580562586483294208≤m∧m≤6633802251116740608
  ·rw [decide_eq_true c1] at h1
   rw [decide_eq_false (HT.out c1)] at h2
   clear c1 HT
   go_wp2_with fail
   refine SM h1 ?_;clear h1
   go_wp2_with fail
   refine SM h2 ?_;clear h2
   go_wp2_with fail
   go_step3
   exact ⟨rfl,rfl,_,_,_,_,_,_,_,_,_,_,_,_,_,_,_,_,_,_,_,_,_,_,_,_,_,_,_,_,_,_,_,_,_,_,_,_,_,_,_,_,_,_,_,_,_,_,_,_,_,_,_,rfl⟩
  ·rw [decide_eq_false c1] at h1
   clear c1 HT h2
   go_wp2_with fail
   refine SM h1 ?_;clear h1
   go_wp2_with fail
   go_step3
   exact ⟨rfl,rfl,_,_,_,_,_,_,_,_,_,_,_,_,_,_,_,_,_,_,_,_,_,_,_,_,_,_,_,_,_,_,_,_,_,_,_,_,_,_,_,_,_,_,_,_,_,_,_,_,_,_,_,rfl⟩
 ·rintro a' w' ⟨rfl,u3,u4,u5,u6,u7,u8,u9,u10,u11,u12,u13,u14,u15,u16,u17,u18,u19,u20,u21,u22,u23,u24,u25,u26,u27,u28,u29,u30,u31,u32,u33,u34,u35,u36,u37,u38,u39,u40,u41,u42,u43,u44,u45,u46,u47,u48,u49,u50,u51,u52,u53,rfl⟩
  clear h1 h2 HT
  go_wp2_with fail
  refine g1.mono ?_;rintro e w9 ⟨rfl,hw'⟩;obtain rfl:=hw'.symm;clear hw' g1
  go_wp2_with fail
  refine g2.mono ?_;rintro e w9 ⟨rfl,hw'⟩;obtain rfl:=hw'.symm;clear hw' g2
  go_wp2_with fail
  refine ta1.mono ?_;rintro e w1 ⟨va,rfl,lva,k1⟩
  have tb2:=tb1 w1 k1
  clear ta1 tb1
  go_wp2_with fail
  refine tb2.mono ?_;rintro e w2 ⟨vb,rfl,lvb,k2⟩
  have hp2:=hp va vb w2 (lva.kp k2) lvb
  have k02:=k1.trans k2
  clear tb2 hp lva lvb k1 k2
  go_wp2_with fail
  refine hp2.mono ?_;rintro e w3 ⟨v,rfl,lv,k3⟩
  have k03:=k02.trans k3
  have hr2:=hr v w3 k03 lv
  clear hp2 hr k02 k3 lv
  go_wp2_with fail
  refine hr2.mono ?_;rintro e w4 ⟨rfl,k4⟩
  have k04:=k03.trans k4
  clear hr2 k03 k4
  go_wp2
  try simp only [Exit.jump]
  exact BR (v:=.float .f64 Z) (by simp [results,Tryz.results81,go_sem]) rfl ⟨rfl,k04⟩
theorem pmulP_ (d:Int) (n n':Bool) (m m':Nat) (hm:m<9223372036854775808) (hm':m'<9223372036854775808) (hi:¬ (m<9218868437227405312∧m'<9218868437227405312∧m≠0∧m'≠0)) (w w9:World) (RR R2:Nat) (hrun:(binOp .mul 22 (.float .f64 (Fq.wD n m)) (.float .f64 (Fq.wD n' m'))).run Tryz.prog w=.ok (.float .f64 RR) w9) (hk:Kp w w9) (hpl:Calls Tryz.prog 112 #[.float .f64 RR] w9 fun e w'=>e=.returned (.float .f64 R2)∧w'=w9) :
  Calls Tryz.prog 81 #[.int .i64 d,.float .f64 (Fq.wD n m),.float .f64 (Fq.wD n' m')] w fun e w'=>e=.returned (.float .f64 R2)∧Kp w w':=by
 have h1:=mild_ n m hm w
 have h2:=mild_ n' m' hm' w
 have g1:=finite_ n m hm w
 have g2:=finite_ n' m' hm' w
 have o1:=Fq.eqzD n m hm
 have o2:=Fq.eqzD n' m' hm'
 obtain ⟨X,hX⟩:∃ X,X=Fq.wD n m:=⟨_,rfl⟩
 obtain ⟨Y,hY⟩:∃ Y,Y=Fq.wD n' m':=⟨_,rfl⟩
 rw [← hX] at h1 g1 o1
 rw [← hY] at h2 g2 o2
 rw [← hX,← hY] at hrun
 rw [← hX,← hY]
 have HT:Hid (2580562586483294208≤m∧m≤6633802251116740608→¬ (2580562586483294208≤m'∧m'≤6633802251116740608)):=fun h h'=>hi ⟨by omega,by omega,by omega,by omega⟩
 have HI:Hid (¬ (m<9218868437227405312∧m'<9218868437227405312∧m≠0∧m'≠0)):=hi
 clear hX hY hi hm hm'
 go_enter Tryz.func81,Tryz.ntmps81
 go_wp2
 refine wp_scope_jumps 0 (fun a' w'=>w'=w∧∃ u3 u4 u5 u6 u7 u8 u9 u10 u11 u12 u13 u14 u15 u16 u17 u18 u19 u20 u21 u22 u23 u24 u25 u26 u27 u28 u29 u30 u31 u32 u33 u34 u35 u36 u37 u38 u39 u40 u41 u42 u43 u44 u45 u46 u47 u48 u49 u50 u51 u52 u53:Value,a'=⟨#[.int .i64 d,.float .f64 X,.float .f64 Y,u3,u4,u5,u6,u7,u8,u9,u10,u11,u12,u13,u14,u15,u16,u17,u18,u19,u20,u21,u22,u23,u24,u25,u26,u27,u28,u29,u30,u31,u32,u33,u34,u35,u36,u37,u38,u39,u40,u41,u42,u43,u44,u45,u46,u47,u48,u49,u50,u51,u52,u53],[]⟩) (fun _ _=>0) rfl ?_ ?_
 ·clear g1 g2 o1 o2 hrun hpl HI
  by_cases c1:2580562586483294208≤m∧m≤6633802251116740608
  ·rw [decide_eq_true c1] at h1
   rw [decide_eq_false (HT.out c1)] at h2
   clear c1 HT
   go_wp2_with fail
   refine SM h1 ?_;clear h1
   go_wp2_with fail
   refine SM h2 ?_;clear h2
   go_wp2_with fail
   go_step3
   exact ⟨rfl,rfl,_,_,_,_,_,_,_,_,_,_,_,_,_,_,_,_,_,_,_,_,_,_,_,_,_,_,_,_,_,_,_,_,_,_,_,_,_,_,_,_,_,_,_,_,_,_,_,_,_,_,_,rfl⟩
  ·rw [decide_eq_false c1] at h1
   clear c1 HT h2
   go_wp2_with fail
   refine SM h1 ?_;clear h1
   go_wp2_with fail
   go_step3
   exact ⟨rfl,rfl,_,_,_,_,_,_,_,_,_,_,_,_,_,_,_,_,_,_,_,_,_,_,_,_,_,_,_,_,_,_,_,_,_,_,_,_,_,_,_,_,_,_,_,_,_,_,_,_,_,_,_,rfl⟩
 ·rintro a' w' ⟨rfl,u3,u4,u5,u6,u7,u8,u9,u10,u11,u12,u13,u14,u15,u16,u17,u18,u19,u20,u21,u22,u23,u24,u25,u26,u27,u28,u29,u30,u31,u32,u33,u34,u35,u36,u37,u38,u39,u40,u41,u42,u43,u44,u45,u46,u47,u48,u49,u50,u51,u52,u53,rfl⟩
  clear h1 h2 HT
  by_cases c1:m<9218868437227405312
  ·rw [decide_eq_true c1] at g1
   by_cases c2:m'<9218868437227405312
   ·rw [decide_eq_true c2] at g2
    by_cases c3:m=0
    ·rw [show (m == 0)=true from by simp [c3]] at o1
     clear c1 c2 c3 HI o2
     go_wp2_with fail
     refine g1.mono ?_;rintro e w8 ⟨rfl,hw'⟩;obtain rfl:=hw'.symm;clear hw' g1
     go_wp2_with fail
     refine g2.mono ?_;rintro e w8 ⟨rfl,hw'⟩;obtain rfl:=hw'.symm;clear hw' g2
     go_wp2_with fail
     refine hpl.mono ?_;rintro e w8 ⟨rfl,hw'⟩;obtain rfl:=hw'.symm;clear hw' hpl
     go_wp2
     try simp only [Exit.jump]
     exact BR (v:=.float .f64 R2) (by simp [results,Tryz.results81,go_sem]) rfl ⟨rfl,hk⟩
    ·have c4:m'=0:=by have:=HI.out;omega
     rw [show (m == 0)=false from by simp [c3]] at o1
     rw [show (m' == 0)=true from by simp [c4]] at o2
     clear c1 c2 c3 c4 HI
     go_wp2_with fail
     refine g1.mono ?_;rintro e w8 ⟨rfl,hw'⟩;obtain rfl:=hw'.symm;clear hw' g1
     go_wp2_with fail
     refine g2.mono ?_;rintro e w8 ⟨rfl,hw'⟩;obtain rfl:=hw'.symm;clear hw' g2
     go_wp2_with fail
     refine hpl.mono ?_;rintro e w8 ⟨rfl,hw'⟩;obtain rfl:=hw'.symm;clear hw' hpl
     go_wp2
     try simp only [Exit.jump]
     exact BR (v:=.float .f64 R2) (by simp [results,Tryz.results81,go_sem]) rfl ⟨rfl,hk⟩
   ·rw [decide_eq_false c2] at g2
    clear c1 c2 HI o1 o2
    go_wp2_with fail
    refine g1.mono ?_;rintro e w8 ⟨rfl,hw'⟩;obtain rfl:=hw'.symm;clear hw' g1
    go_wp2_with fail
    refine g2.mono ?_;rintro e w8 ⟨rfl,hw'⟩;obtain rfl:=hw'.symm;clear hw' g2
    go_wp2_with fail
    refine hpl.mono ?_;rintro e w8 ⟨rfl,hw'⟩;obtain rfl:=hw'.symm;clear hw' hpl
    go_wp2
    try simp only [Exit.jump]
    exact BR (v:=.float .f64 R2) (by simp [results,Tryz.results81,go_sem]) rfl ⟨rfl,hk⟩
  ·rw [decide_eq_false c1] at g1
   clear c1 HI o1 o2 g2
   go_wp2_with fail
   refine g1.mono ?_;rintro e w8 ⟨rfl,hw'⟩;obtain rfl:=hw'.symm;clear hw' g1
   go_wp2_with fail
   refine hpl.mono ?_;rintro e w8 ⟨rfl,hw'⟩;obtain rfl:=hw'.symm;clear hw' hpl
   go_wp2
   try simp only [Exit.jump]
   exact BR (v:=.float .f64 R2) (by simp [results,Tryz.results81,go_sem]) rfl ⟨rfl,hk⟩
end Go.Proofs.YtcfnialfpblfmaaGreatDoor
