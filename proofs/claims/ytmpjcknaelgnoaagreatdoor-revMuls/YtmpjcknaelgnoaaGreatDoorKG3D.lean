import Derived.Test.YtmpjcknaelgnoaaGreatDoorKNSm
set_option maxHeartbeats 1000000
set_option maxRecDepth 100000
namespace Go.Proofs.YtmpjcknaelgnoaaGreatDoor
open Go.RowKit Tryz
theorem GH (d sg dm e f:Int)(neg aw nr up:Bool)(n m Y U sig wq rq E ue de Kv:Nat)(vN vM:Value)(w w3:World)(H1:Hid (Ls w3 vN (az (n*2^ue))))(H2:Hid (Ls w3 vM (az (m*2^de))))(HK:Hid (Kp w w3))(hsn:decide (sg<0)=neg)(HA:Hid ((aw=true ↔ dm=1)∧(nr=true ↔ dm≠1∧dm≠-1)∧dm=dU neg d))(HNM:Hid (n≠0∧m≠0∧aq n<=4194304∧aq m<=4194304))(HY2:Hid (Y=gO neg (if aq U<=2098 then fk 53 (U*2^0) else if dm = -1 then 9218868437227405311 else 9218868437227405312)))(HU2:Hid (U=sig*2^E∧wq<2^53∧sig<=2^53∧(aq U<=2098 ↔ ¬(sig=2^53∧((1023:Nat):Int)<e+((53:Nat):Int)))))(HE:Hid ((E:Int)=e+(Kv:Int)∧ue=(-e).toNat∧de=e.toNat∧wq=n*2^ue/(m*2^de)∧rq=n*2^ue%(m*2^de)∧up=fw dm wq rq (m*2^de)∧sig=wq+up.toNat∧e=max (f-53+1) (-(Kv:Int))∧-4194304<=f∧f<=4194304∧Kv=1074))(HE2:Hid ((E:Int)=e+(Kv:Int)∧ue=(-e).toNat∧de=e.toNat∧e=max (f-53+1) (-(Kv:Int))∧-4194304<=f∧f<=4194304∧Kv=1074))(HFB:Hid (f<=1023))(u0 u1 u4 u5 u6 u7 u8 u14 u16 u17 u18 u19 u20 u21 u22 u23 u24 u25 u26 u27 u28 u29 u30 u31 u32 u33 u34 u35 u36 u37 u38 u39 u40 u41 u42 u43 u44 u45 u46 u47 u48 u49 u50 u51 u52 u53 u54 u55 u56 u57 u58 u59 u60 u61 u62 u63 u64 u65 u66 u67 u68 u69 u70 u71 u72 u73 u74 u75 u76 u77 u78 u79 u80 u81 u82 u83 u84 u85 u86 u87 u88 u89 u90 u91 u92 u93 u94 u95 u96 u97 u98 u99 u100 u101 u102 u103 u104 u105 u106 u107 u108 u109 u110 u111 u112 u113 u114 u115 u116 u117 u118 u119 u120 u121 u122 u123 u124 u125 u126 u127 u128 u129 u130 u131 u132 u133 u134 u135 u136 u137 u138 u139 u140 u141 u142 u143 u144 u145 u146 u147 u148 u149 u150 u151 u152 u153 u154 u155 u156 u157 u158 u159 u160 u161 u162 u163 u164 u165 u166 u167 u168 u169 u170 u171 u172 u173 u174 u175:Value) :
  Code.wp prog (yw 13 (f189.body.getD .skip)) (bodyPost prog f189 (RT (.int .u64 (Y:Int)) w)) ⟨#[u0,u1,.int .i64 53,.int .i64 1023,u4,u5,u6,u7,u8,.int .i64 sg,.bool aw,.bool nr,vN,vM,u14,.int .i64 e,u16,u17,u18,u19,u20,u21,u22,u23,u24,u25,u26,u27,u28,u29,u30,u31,u32,u33,u34,u35,u36,u37,u38,u39,u40,u41,u42,u43,u44,u45,u46,u47,u48,u49,u50,u51,u52,u53,u54,u55,u56,u57,u58,u59,u60,u61,u62,u63,u64,u65,u66,u67,u68,u69,u70,u71,u72,u73,u74,u75,u76,u77,u78,u79,u80,u81,u82,u83,u84,u85,u86,u87,u88,u89,u90,u91,u92,u93,u94,u95,u96,u97,u98,u99,u100,u101,u102,u103,u104,u105,u106,u107,u108,u109,u110,u111,u112,u113,u114,u115,u116,u117,u118,u119,u120,u121,u122,u123,u124,u125,u126,u127,u128,u129,u130,u131,u132,u133,u134,u135,u136,u137,u138,u139,u140,u141,u142,u143,u144,u145,u146,u147,u148,u149,u150,u151,u152,u153,u154,u155,u156,u157,u158,u159,u160,u161,u162,u163,u164,u165,u166,u167,u168,u169,u170,u171,u172,u173,u174,u175],[]⟩ w3:=by
 conv=>arg 2;whnf
 have s:Hid (aq (n*2^ue)<=33554432∧aq (m*2^de)<=8388608∧0<m*2^de):=by
  have a:=HE2.out
  have i:=HNM.out
  refine⟨?_, ?_,aQ (by omega) (aP (by omega))⟩
  ·rw[du _ _ i.1];omega
  ·rw[du _ _ i.2.1];omega
 have b:=Ix vN vM (n*2^ue) (m*2^de) w3 H1.out H2.out s.out.1 s.out.2.1 s.out.2.2
 rw[<-HE.out.2.2.2.1,<-HE.out.2.2.2.2.1]at b
 go_wp2_with fail
 refine b.mono ?_;rintro e I ⟨vq,V,rfl,hq,hr,j⟩
 have Hq:Hid (Ls I vq (az wq)):=hq
 have x:Hid (Ls I V (az rq)):=hr
 replace H2:Hid (Ls I vM (az (m*2^de))):=H2.out.kp j
 replace HK:Hid (Kp w I):=HK.out.trans j
 clear b hq hr j H1
 have q:wq<18446744073709551616:=aE HU2.out.2.1 (by decide)
 have b:=Ex vq wq I Hq.out q
 clear q
 go_wp2_with fail
 refine SM b ?_;clear b Hq
 have T:Hid (aq rq<=8388608∧aq (rq*2^1)<=33554432):=by
  have a:rq<m*2^de:=by rw[HE.out.2.2.2.2.1];exact bZ _ s.out.2.2
  have i:aq rq<=8388608:=aT (jz (bO a)) s.out.2.1
  clear a
  refine⟨i, ?_⟩
  by_cases c:rq=0
  ·rw[c,aM,cP];omega
  ·rw[du _ _ c];omega
 have b:=qL V rq 1 I x.out (by have:=T.out;omega) (by omega)
 go_wp2_with fail
 refine b.mono ?_;rintro e J ⟨v5,rfl,hL,j⟩
 have H5:Hid (Ls J v5 (az (rq*2^1))):=hL
 replace x:Hid (Ls J V (az rq)):=x.out.kp j
 replace H2:Hid (Ls J vM (az (m*2^de))):=H2.out.kp j
 replace HK:Hid (Kp w J):=HK.out.trans j
 clear b hL j
 have b:=AG v5 vM (rq*2^1) (m*2^de) J H5.out H2.out T.out.2 (by have:=s.out;omega)
 obtain⟨A,F⟩:=aA (dW (rq*2^1) (m*2^de))
 have W:Hid (A=dW (rq*2^1) (m*2^de)):=F
 rw[<-F]at b
 clear F
 go_wp2_with fail
 refine b.mono ?_;rintro e t ⟨rfl,j⟩
 replace x:Hid (Ls t V (az rq)):=x.out.kp j
 replace HK:Hid (Kp w t):=HK.out.trans j
 clear b j H5 H2
 obtain⟨pr,cr,rfl,_,_⟩:=x.out
 obtain⟨Z,D⟩:=aA ((az rq).length)
 have u:Hid (Z=0 ↔ rq=0):=by show _ ↔ _;rw[D];exact iP rq
 rw[<-D]
 clear D x
 go_upto_region 24 with fail
 go_cut [153] (fun s153 wx=>s153=.bool up∧wx=t)
 case first =>
  have a:=HE.out.2.2.2.2.2.1
  obtain⟨K,C,X⟩:=HA.out
  have i:=u.out
  have P:=W.out
  obtain⟨M,hM⟩:=aA (m*2^de)
  rw[<-hM]at a P
  rw[fV]at P
  have p:0<A ↔ M<2*rq:=by rw[P];unfold dW;split<;>(try split)<;>omega
  have y:A=0 ↔ M=2*rq:=by rw[P];unfold dW;split<;>(try split)<;>omega
  unfold fw at a
  clear HE HE2 HU2 HA HY2 HNM s T W u P hM
  cases aw
  ·have H:dm≠1:=by simpa using K
   rw[if_neg H]at a
   cases nr
   ·have B:dm = -1:=by
     simp at C
     by_cases c1:dm = -1
     ·exact c1
     ·exact absurd c1 (by omega)
    rw[if_pos B]at a
    clear K C X i p y H B
    go_wp2_with fail
    go_meet
    exact⟨by rw[a],rfl⟩
   ·have B:dm≠-1:=by simp at C;exact C.2
    rw[if_neg B]at a
    clear K C X i H B
    by_cases ch:0<A
    ·have g:up=true:=by rw[a,af (p.1 ch)];rfl
     clear p y a
     go_wp2_with fail
     go_meet
     exact⟨by rw[g],rfl⟩
    ·by_cases o:A=0
     ·have e1:(A == 0)=true:=by simp[o]
      have g:up=decide (wq%2=1):=by
       rw[a,ae (mt p.2 ch),af (y.1 o)];simp
      clear p y a o
      rcases(by omega:wq%2=0∨wq%2=1)with Q|Q
      ·have e2:(wq:Int)%2=0:=by omega
       rw[Q]at g
       clear Q
       go_wp2_with fail
       go_meet
       exact⟨by rw[g];rfl,rfl⟩
      ·have e2:(wq:Int)%2=1:=by omega
       rw[Q]at g
       clear Q
       go_wp2_with fail
       go_meet
       exact⟨by rw[g];rfl,rfl⟩
     ·have e1:(A == 0)=false:=by simp[o]
      have g:up=false:=by
       rw[a,ae (mt p.2 ch),ae (mt y.2 o)];simp
      clear p y a o
      go_wp2_with fail
      go_meet
      exact⟨by rw[g],rfl⟩
  ·have H:dm=1:=by simpa using K
   rw[if_pos H]at a
   have B:nr=false:=by
    cases nr
    ·rfl
    ·simp at C;omega
   subst B
   clear K C X p y H
   by_cases l:rq=0
   ·have a0:Z=0:=i.2 l
    have g:up=false:=by rw[a,ae (by omega)]
    subst a0
    clear a i l
    go_wp2_with fail
    go_meet
    exact⟨by rw[g],rfl⟩
   ·have a0:0<(Z:Int):=by have:=mt i.1 l;omega
    have g:up=true:=by rw[a,af (by omega)]
    clear a i l
    go_wp2_with fail
    go_meet
    exact⟨by rw[g],rfl⟩
 case rest =>
 obtain⟨rfl,k⟩:=hcut
 obtain rfl:=k.symm
 clear k W u T s
 go_upto_if 153 with fail
 go_cut [18] (fun s18 wx=>s18=.int .u64 (sig:Int)∧wx=t)
 case first =>
  have a:=HE.out.2.2.2.2.2.2.1
  have i:wq<18446744073709551615:=aE HU2.out.2.1 (by decide)
  cases up
  ·have g:sig=wq:=by rw[a];rfl
   clear a i HE HE2 HU2 HA HY2 HNM HFB
   go_wp2_with fail
   go_meet
   exact⟨by rw[g],rfl⟩
  ·have g:sig=wq+1:=by rw[a];rfl
   have a2:IntKind.u64.wrap ((wq:Int)+1)=(sig:Int):=by rw[IntKind.wrap_u64];omega
   clear a i g HE HE2 HU2 HA HY2 HNM HFB
   go_wp2_with fail
   go_meet
   exact⟨by rfl,rfl⟩
 case rest =>
 obtain⟨rfl,k⟩:=hcut
 obtain rfl:=k.symm
 clear k
 obtain⟨N,G,O,S,R⟩:=Cp 53 1023 Kv 2098 9218868437227405311 0 Y n m U sig wq rq E (m*2^de) dm e f neg up (by omega) (by omega) (by have:=HE2.out;omega) (by omega) HU2.out.1 HU2.out.2.1 HU2.out.2.2.1 HU2.out.2.2.2 HE.out.2.2.2.2.2.1 HE.out.2.2.2.2.2.2.1 HE2.out.1 HE2.out.2.2.2.1 HFB.out HY2.out ⟨rfl,rfl⟩
 have g1:wrap64 (e+53)=e+53:=eQ _ (by omega) (by omega)
 rw[show(2:Nat)^53=9007199254740992 from by decide]at N G
 clear HE HE2 HU2 HA HY2 HNM HFB
 by_cases z:sig=9007199254740992
 ·by_cases o:1023<e+53
  ·have r:=N ⟨z,by simpa using o⟩
   have b:=wF neg t
   rw[<-r]at b
   have t1:((sig:Int) == 9007199254740992)=true:=by rw[z];rfl
   have a9:(sig:Int)=9007199254740992:=by omega
   clear N G O S R r z
   go_wp2_with fail
   try rw[hsn]
   refine SM b ?_;clear b
   go_wp2
   exact BR ⟨rfl,HK.out⟩
  ·obtain⟨r,L⟩:=G (fun h=>o (by simpa using h.2))
   have b:=xD neg sig e t O S R L
   rw[<-r]at b
   have t1:((sig:Int) == 9007199254740992)=true:=by rw[z];rfl
   clear N G O S R r z L
   go_wp2_with fail
   try rw[hsn]
   refine SM b ?_;clear b
   go_wp2
   exact BR ⟨rfl,HK.out⟩
 ·obtain⟨r,L⟩:=G (fun h=>z h.1)
  have b:=xD neg sig e t O S R L
  rw[<-r]at b
  have t1:((sig:Int) == 9007199254740992)=false:=by simp;omega
  clear N G O S R r z L
  go_wp2_with fail
  try rw[hsn]
  refine SM b ?_;clear b
  go_wp2
  exact BR ⟨rfl,HK.out⟩
theorem GI (d sg dm f:Int)(neg aw nr:Bool)(n m Y Kv:Nat)(vn vd:Value)(w w2:World)(Hn:Hid (Ls w2 vn (az n)))(Hd:Hid (Ls w2 vd (az m)))(HK:Hid (Kp w w2))(hsn:decide (sg<0)=neg)(HA:Hid ((aw=true ↔ dm=1)∧(nr=true ↔ dm≠1∧dm≠-1)∧dm=dU neg d))(HNM:Hid (n≠0∧m≠0∧aq n<=4194304∧aq m<=4194304))(HY:Hid (Y=gO neg (if aq (rV dm 53 n m (Kv:Int))<=2098 then fk 53 (rV dm 53 n m (Kv:Int)*2^0) else if dm = -1 then 9218868437227405311 else 9218868437227405312)))(HF2:Hid (f=mu n m))(HFR:Hid (-4194304<=f∧f<=4194304))(HKV:Hid (Kv=1074))(u0 u1 u4 u5 u6 u7 u8 u15 u16 u17 u18 u19 u20 u21 u22 u23 u24 u25 u26 u27 u28 u29 u30 u31 u32 u33 u34 u35 u36 u37 u38 u39 u40 u41 u42 u43 u44 u45 u46 u47 u48 u49 u50 u51 u52 u53 u54 u55 u56 u57 u58 u59 u60 u61 u62 u63 u64 u65 u66 u67 u68 u69 u70 u71 u72 u73 u74 u75 u76 u77 u78 u79 u80 u81 u82 u83 u84 u85 u86 u87 u88 u89 u90 u91 u92 u93 u94 u95 u96 u97 u98 u99 u100 u101 u102 u103 u104 u105 u106 u107 u108 u109 u110 u111 u112 u113 u114 u115 u116 u117 u118 u119 u120 u121 u122 u123 u124 u125 u126 u127 u128 u129 u130 u131 u132 u133 u134 u135 u136 u137 u138 u139 u140 u141 u142 u143 u144 u145 u146 u147 u148 u149 u150 u151 u152 u153 u154 u155 u156 u157 u158 u159 u160 u161 u162 u163 u164 u165 u166 u167 u168 u169 u170 u171 u172 u173 u174 u175:Value) :
  Code.wp prog (yw 9 (f189.body.getD .skip)) (bodyPost prog f189 (RT (.int .u64 (Y:Int)) w)) ⟨#[u0,u1,.int .i64 53,.int .i64 1023,u4,u5,u6,u7,u8,.int .i64 sg,.bool aw,.bool nr,vn,vd,.int .i64 f,u15,u16,u17,u18,u19,u20,u21,u22,u23,u24,u25,u26,u27,u28,u29,u30,u31,u32,u33,u34,u35,u36,u37,u38,u39,u40,u41,u42,u43,u44,u45,u46,u47,u48,u49,u50,u51,u52,u53,u54,u55,u56,u57,u58,u59,u60,u61,u62,u63,u64,u65,u66,u67,u68,u69,u70,u71,u72,u73,u74,u75,u76,u77,u78,u79,u80,u81,u82,u83,u84,u85,u86,u87,u88,u89,u90,u91,u92,u93,u94,u95,u96,u97,u98,u99,u100,u101,u102,u103,u104,u105,u106,u107,u108,u109,u110,u111,u112,u113,u114,u115,u116,u117,u118,u119,u120,u121,u122,u123,u124,u125,u126,u127,u128,u129,u130,u131,u132,u133,u134,u135,u136,u137,u138,u139,u140,u141,u142,u143,u144,u145,u146,u147,u148,u149,u150,u151,u152,u153,u154,u155,u156,u157,u158,u159,u160,u161,u162,u163,u164,u165,u166,u167,u168,u169,u170,u171,u172,u173,u174,u175],[]⟩ w2:=by
 conv=>arg 2;whnf
 have j:=HFR.out
 have X:=HKV.out
 obtain⟨e,O⟩:∃e:Int,e=max (f-53+1) (-(Kv:Int)):=⟨_,rfl⟩
 obtain⟨E,N⟩:∃E:Nat,(E:Int)=e+(Kv:Int):=⟨(e+(Kv:Int)).toNat,by omega⟩
 obtain⟨c,D⟩:∃c:Nat,c=(-e).toNat:=⟨_,rfl⟩
 obtain⟨h,F⟩:∃h:Nat,h=e.toNat:=⟨_,rfl⟩
 obtain⟨W,Q⟩:∃W:Nat,W=Kv-c:=⟨_,rfl⟩
 obtain⟨A,r⟩:=aA (n*2^c/(m*2^h))
 obtain⟨M,H⟩:=aA (n*2^c%(m*2^h))
 obtain⟨L,I⟩:=aA (fw dm A M (m*2^h))
 obtain⟨g,o⟩:=aA (A+L.toNat)
 have k:=zm dm 53 1023 Kv 2098 n m e E c h W (by omega) (by omega) (by omega) HNM.out.1 HNM.out.2.1 (by rw[O,HF2.out];rfl) N (by rw[ak,<-ag];exact congrArg (fun x=>n*2^x) (by omega)) (by rw[ak,<-ag];exact congrArg (fun x=>m*2^x) (by omega)) g (by rw[o,I,H,r])
 rw[<-HF2.out,<-r]at k
 obtain⟨U,Z⟩:=aA (rV dm 53 n m (Kv:Int))
 have b:Hid (Y=gO neg (if aq U<=2098 then fk 53 (U*2^0) else if dm = -1 then 9218868437227405311 else 9218868437227405312)):=by rw[Z];exact HY.out
 rw[<-Z]at k
 have q:Hid (U=g*2^E∧A<2^53∧g<=2^53∧(((1023:Nat):Int)<f->2098<aq U)∧(¬((1023:Nat):Int)<f->(aq U<=2098 ↔ ¬(g=2^53∧((1023:Nat):Int)<e+((53:Nat):Int))))):=k
 have y:Hid ((E:Int)=e+(Kv:Int)∧c=(-e).toNat∧h=e.toNat∧A=n*2^c/(m*2^h)∧M=n*2^c%(m*2^h)∧L=fw dm A M (m*2^h)∧g=A+L.toNat∧e=max (f-53+1) (-(Kv:Int))∧-4194304<=f∧f<=4194304∧Kv=1074):=⟨N,D,F,r,H,I,o,O,j.1,j.2,HKV.out⟩
 have a:Hid ((E:Int)=e+(Kv:Int)∧c=(-e).toNat∧h=e.toNat∧e=max (f-53+1) (-(Kv:Int))∧-4194304<=f∧f<=4194304∧Kv=1074):=⟨N,D,F,O,j.1,j.2,HKV.out⟩
 clear X k HY O N D F Q r H I o Z HF2 j
 by_cases cg:1023<f
 ·have C:=q.out.2.2.2.1 (by simpa using cg)
  cases aw
  ·cases nr
   ·have z:Y=gO neg 9218868437227405311:=by
     rw[b.out,if_neg (by omega),if_pos]
     have p:=HA.out
     simp at p
     by_cases c1:dm = -1
     ·exact c1
     ·exact absurd c1 (by omega)
    have i:=CA neg w2
    rw[<-z]at i
    clear z C b q y a HA HNM
    go_wp2_with fail
    try rw[hsn]
    refine SM i ?_;clear i
    go_wp2
    exact BR ⟨rfl,HK.out⟩
   ·have z:Y=gO neg 9218868437227405312:=by
     rw[b.out,if_neg (by omega),if_neg]
     have p:=HA.out
     simp at p
     omega
    have i:=wF neg w2
    rw[<-z]at i
    clear z C b q y a HA HNM
    go_wp2_with fail
    try rw[hsn]
    refine SM i ?_;clear i
    go_wp2
    exact BR ⟨rfl,HK.out⟩
  ·have z:Y=gO neg 9218868437227405312:=by
    rw[b.out,if_neg (by omega),if_neg]
    have p:=HA.out
    simp at p
    omega
   have i:=wF neg w2
   rw[<-z]at i
   clear z C b q y a HA HNM
   go_wp2_with fail
   try rw[hsn]
   refine SM i ?_;clear i
   go_wp2
   exact BR ⟨rfl,HK.out⟩
 ·have B:=q.out.2.2.2.2 (by simpa using cg)
  have l:Hid (U=g*2^E∧A<2^53∧g<=2^53∧(aq U<=2098 ↔ ¬(g=2^53∧((1023:Nat):Int)<e+((53:Nat):Int)))):=⟨q.out.1,q.out.2.1,q.out.2.2.1,B⟩
  have j:f<=1023:=by omega
  have g1:wrap64 (f-53)=f-53:=eQ _ (by have:=a.out;omega) (by omega)
  have g2:wrap64 (f-53+1)=f-53+1:=eQ _ (by have:=a.out;omega) (by omega)
  clear q B
  go_upto_if 103 with fail
  go_cut [15] (fun s15 wx=>s15=.int .i64 e∧wx=w2)
  case first =>
   have p:=a.out
   by_cases ce:f-53+1 < -1074
   ·have s:e = -1074:=by omega
    clear p y a l HA b HNM
    go_wp2_with fail
    go_meet
    exact⟨by rw[s],rfl⟩
   ·have s:e=f-53+1:=by omega
    clear p y a l HA b HNM
    go_wp2_with fail
    go_meet
    exact⟨by rw[s],rfl⟩
  case rest =>
  obtain⟨rfl,J⟩:=hcut
  obtain rfl:=J.symm
  clear J g1 g2
  go_upto_if 109 with fail
  go_cut [12,13] (fun s12 s13 wx=>∃v u:Value,v=s12∧u=s13∧Ls wx v (az (n*2^c))∧Ls wx u (az (m*2^h))∧Kp w2 wx)
  case first =>
   have p:=a.out
   by_cases ce:0<=e
   ·have s:c=0:=by omega
    have P:e=(h:Int):=by omega
    have i:=qL vd m h w2 Hd.out (by have:=HNM.out;omega) (by omega)
    rw[<-P]at i
    have R:Hid (c=0):=s
    clear p s P y a l HA b HNM
    go_wp2_with fail
    refine i.mono ?_;rintro e G ⟨v3,rfl,K,t⟩
    have V:Hid (Ls G vn (az (n*2^c))∧Ls G v3 (az (m*2^h))∧Kp w2 G):=⟨by rw[R.out,aB,aG];exact Hn.out.kp t,K,t⟩
    clear i K t
    go_wp2_with fail
    go_meet
    exact⟨_,_,rfl,rfl,V.out⟩
   ·have s:h=0:=by omega
    have P:wrap64 (-e)=(c:Int):=by rw[show -e=(c:Int)from by omega];exact eQ _ (by omega) (by omega)
    have i:=qL vn n c w2 Hn.out (by have:=HNM.out;omega) (by omega)
    have R:Hid (h=0):=s
    clear p s y a l HA b HNM
    go_wp2_with fail
    try rw[P]
    refine i.mono ?_;rintro e G ⟨v3,rfl,K,t⟩
    have V:Hid (Ls G v3 (az (n*2^c))∧Ls G vd (az (m*2^h))∧Kp w2 G):=⟨K,by rw[R.out,aB,aG];exact Hd.out.kp t,t⟩
    clear i K t
    go_wp2_with fail
    go_meet
    exact⟨_,_,rfl,rfl,V.out⟩
  case rest =>
  obtain⟨vN,vM,rfl,rfl,T,S,t⟩:=hcut
  apply_assumption
  exact GH d sg dm e f neg aw nr L n m Y U g A M E c h Kv vN vM w wc T S (HK.out.trans t) hsn HA HNM b l y a j _ _ _ _ _ _ _ _ _ _ _ _ _ _ _ _ _ _ _ _ _ _ _ _ _ _ _ _ _ _ _ _ _ _ _ _ _ _ _ _ _ _ _ _ _ _ _ _ _ _ _ _ _ _ _ _ _ _ _ _ _ _ _ _ _ _ _ _ _ _ _ _ _ _ _ _ _ _ _ _ _ _ _ _ _ _ _ _ _ _ _ _ _ _ _ _ _ _ _ _ _ _ _ _ _ _ _ _ _ _ _ _ _ _ _ _ _ _ _ _ _ _ _ _ _ _ _ _ _ _ _ _ _ _ _ _ _ _ _ _ _ _ _ _ _ _ _ _ _ _ _ _ _ _ _ _ _ _ _ _ _ _ _ _ _ _ _ _
theorem rJ (d:Int)(neg:Bool)(vn vd:Value)(n m:Nat)(w:World)(hn:Ls w vn (az n))(hd:Ls w vd (az m))(hm:m≠0)(ln:aq n<=4194304)(lm:aq m<=4194304) :
  Calls prog 189 #[.int .i64 d,.agg #[.bool neg,vn,vd],.int .i64 53,.int .i64 1023] w (RT (.int .u64 ((mE 53 1074 2098 9218868437227405311 0 d neg n m:Nat):Int)) w):=by
 obtain⟨w0,E⟩:=aA (w.alloc (.cells #[.bool neg,vn,vd] 57))
 have y:Kp w w0:=by rw[E];exact(Kp.refl w).alloc _
 obtain⟨c0,c1,c2⟩:w0.cell? ⟨w.heap.size,0,none⟩=some (.bool neg)∧w0.cell? ⟨w.heap.size,1,none⟩=some vn∧w0.cell? ⟨w.heap.size,2,none⟩=some vd:=by rw[E];simp[go_sem]
 have z:=mB neg vn vd n w0 (hn.kp y) (by omega)
 obtain⟨Y,hY⟩:=aA (mE 53 1074 2098 9218868437227405311 0 d neg n m)
 rw[<-hY]
 obtain⟨Kv,S⟩:∃Kv:Nat,Kv=1074:=⟨_,rfl⟩
 rw[<-S]at hY
 by_cases cz:n=0
 ·rw[if_pos cz]at z
  have bE:Y=0:=by rw[hY];unfold mE;rw[if_pos cz]
  subst bE
  clear hY hn hd hm ln lm cz c0 c1 c2 S
  go_enter func189,ntmps189
  go_wp2_with fail
  rw[<-E]
  refine z.mono ?_;rintro e u ⟨rfl,o⟩
  have K1:Kp w u:=y.trans o
  clear z o E y
  go_wp2
  exact BR ⟨rfl,K1⟩
 ·rw[if_neg cz]at z
  obtain⟨sg,K⟩:∃sg:Int,sg=if neg=true then -1 else 1:=⟨_,rfl⟩
  rw[<-K]at z
  have t0:¬(sg=0):=by rw[K];split<;>omega
  obtain⟨G,J⟩:=aA (dU neg d)
  obtain⟨O,ar⟩:∃O:Bool,O=decide (G=1):=⟨_,rfl⟩
  obtain⟨N,Z⟩:∃N:Bool,N=(decide (d≠1) && decide (d≠-1)):=⟨_,rfl⟩
  have ab:(O=true ↔ G=1)∧(N=true ↔ G≠1∧G≠-1):=by
   refine⟨by rw[ar];simp, ?_⟩
   rw[Z,J];unfold dU;cases neg<;>simp<;>omega
  have bv:decide (sg<0)=neg:=by rw[K];cases neg<;>simp
  have q:Hid (sg=(if neg=true then -1 else 1)∧O=decide (dU neg d=1)∧N=(decide (d≠1) && decide (d≠-1))):=⟨K,by rw[ar,J],Z⟩
  obtain⟨f,hf⟩:=aA (mu n m)
  obtain⟨r,P⟩:∃r:Int,r=(aq n:Int)-aq m:=⟨_,rfl⟩
  obtain⟨B,p⟩:=aA (rj n m)
  have a9:f=r-(if B=true then 1 else 0):=by rw[hf,P,p];rfl
  have x:Hid (r=(aq n:Int)-aq m∧B=rj n m∧f=r-(if B=true then 1 else 0)∧f=mu n m):=⟨P,p,a9,hf⟩
  have I:Hid ((O=true ↔ G=1)∧(N=true ↔ G≠1∧G≠-1)∧G=dU neg d):=⟨ab.1,ab.2,J⟩
  have L:Hid (Y=gO neg (if aq (rV G 53 n m (Kv:Int))<=2098 then fk 53 (rV G 53 n m (Kv:Int)*2^0) else if G = -1 then 9218868437227405311 else 9218868437227405312)):=by
   show _=_
   rw[hY,J];unfold mE;rw[if_neg cz]
  have bH:Hid (Kv=1074):=S
  have a:Hid (n≠0∧m≠0∧aq n<=4194304∧aq m<=4194304):=⟨cz,hm,ln,lm⟩
  have g0:wrap64 ((aq n:Int)-(aq m:Int))=r:=by rw[<-P];exact eQ _ (by omega) (by omega)
  have gf:wrap64 (r-1)=r-1:=eQ _ (by omega) (by omega)
  have T:Hid (Ls w0 vn (az n)):=hn.kp y
  have U:Hid (Ls w0 vd (az m)):=hd.kp y
  clear S hY hn hd hm ln lm cz K J ar Z ab hf P p a9
  go_enter func189,ntmps189
  go_wp2_with fail
  rw[<-E]
  refine z.mono ?_;rintro e u ⟨rfl,o⟩
  replace c0:=ac o c0
  replace c1:=ac o c1
  replace c2:=ac o c2
  replace T:Hid (Ls u vn (az n)):=T.out.kp o
  replace U:Hid (Ls u vd (az m)):=U.out.kp o
  have HK:Hid (Kp w u):=y.trans o
  clear z o E y
  go_upto_region 4 with fail
  go_cut [10] (fun s10 wx=>s10=.bool O∧wx=u)
  case first =>
   obtain⟨s,l,_⟩:=q.out
   rcases(by omega:d=1∨d = -1∨(d≠1∧d≠-1))with h|h|⟨h,X⟩
   ·have e1:(d == 1)=true:=by simp[h]
    have aa:decide (d=1)=true:=by simp[h]
    have e2:(d == -1)=false:=by simp[h]
    have c:O = !neg:=by rw[l,h];unfold dU;cases neg<;>rfl
    clear h l x I L a q
    cases neg
    ·have t1:0<sg:=by rw[s];simp
     clear s
     go_wp2_with fail
     go_meet
     exact⟨by rw[c];rfl,rfl⟩
    ·have t1:¬0<sg:=by rw[s];simp
     clear s
     go_wp2_with fail
     go_meet
     exact⟨by rw[c];rfl,rfl⟩
   ·have e1:(d == 1)=false:=by simp[h]
    have e2:(d == -1)=true:=by simp[h]
    have c:O=neg:=by rw[l,h];unfold dU;cases neg<;>rfl
    clear h l x I L a q
    cases neg
    ·have t1:¬sg<0:=by rw[s];simp
     clear s
     go_wp2_with fail
     go_meet
     exact⟨by rw[c],rfl⟩
    ·have t1:sg<0:=by rw[s];simp
     clear s
     go_wp2_with fail
     go_meet
     exact⟨by rw[c],rfl⟩
   ·have e1:(d == 1)=false:=by simp[h]
    have e2:(d == -1)=false:=by simp[X]
    have c:O=false:=by rw[l];unfold dU;cases neg<;>simp<;>omega
    clear h X s l x I L a q
    go_wp2_with fail
    go_meet
    exact⟨by rw[c],rfl⟩
  case rest =>
  obtain⟨rfl,t⟩:=hcut
  obtain rfl:=t.symm
  clear t
  go_upto_region 5 with fail
  go_cut [11] (fun s11 wx=>s11=.bool N∧wx=u)
  case first =>
   obtain⟨_,_,l⟩:=q.out
   rcases(by omega:d=1∨d = -1∨(d≠1∧d≠-1))with h|h|⟨h,X⟩
   ·have e1:(d == 1)=true:=by simp[h]
    have aa:(d != 1)=false:=by simp[h]
    have c:N=false:=by rw[l,h];rfl
    clear h l x I L a q
    go_wp2_with fail
    go_meet
    exact⟨by rw[c],rfl⟩
   ·have e1:(d == 1)=false:=by simp[h]
    have aa:(d != 1)=true:=by simp[h]
    have e2:(d == -1)=true:=by simp[h]
    have bL:(d != -1)=false:=by simp[h]
    have c:N=false:=by rw[l,h];rfl
    clear h l x I L a q
    go_wp2_with fail
    go_meet
    exact⟨by rw[c],rfl⟩
   ·have e1:(d == 1)=false:=by simp[h]
    have aa:(d != 1)=true:=by simp[h]
    have e2:(d == -1)=false:=by simp[X]
    have bL:(d != -1)=true:=by simp[X]
    have c:N=true:=by rw[l];simp[h,X]
    clear h X l x I L a q
    go_wp2_with fail
    go_meet
    exact⟨by rw[c],rfl⟩
  case rest =>
  obtain⟨rfl,t⟩:=hcut
  obtain rfl:=t.symm
  clear t
  clear q
  have F:=Fw vn n u T.out (by have:=a.out;omega)
  have b:=Fw vd m u U.out (by have:=a.out;omega)
  obtain⟨bn,W⟩:=aA (aq n)
  obtain⟨bm,a0⟩:=aA (aq m)
  have V:Hid (bn=aq n∧bm=aq m):=⟨W,a0⟩
  rw[<-W]at F g0
  rw[<-a0]at b g0
  clear W a0
  go_wp2_with fail
  refine SM F ?_;clear F
  go_wp2_with fail
  refine SM b ?_;clear b c0 c1 c2
  go_upto_region 9 with fail
  go_cut [14,76] (fun s14 s76 wx=>s14=.int .i64 r∧s76=.bool B∧Kp u wx)
  case first =>
   obtain⟨s,l,R,h4⟩:=x.out
   obtain⟨n1,n2,n3,n4⟩:=a.out
   by_cases cl:aq m<=aq n
   ·obtain⟨k,o⟩:=aA (aq n-aq m)
    have M:r=(k:Int):=by omega
    have F:=qL vd m k u U.out (by omega) (by omega)
    rw[<-M]at F
    have tt:0<=r:=by omega
    have br:¬r<0:=by omega
    have H:aq (m*2^k)<=33554432:=by rw[du _ _ n2];omega
    have p:B=decide (n<m*2^k):=by rw[l];unfold rj;rw[if_pos cl,o]
    have D:Hid (B=decide (n<m*2^k)∧aq (m*2^k)<=33554432∧aq n<=33554432):=⟨p,H,by omega⟩
    clear s l R h4 n1 n2 n3 n4 cl o M H p x a V I L
    go_wp2_with fail
    try rw[g0]
    refine F.mono ?_;rintro e Q ⟨v2,rfl,hL,g⟩
    have b:=AG vn v2 n (m*2^k) Q (T.out.kp g) hL D.out.2.2 D.out.2.1
    obtain⟨cc,j⟩:=aA (dW n (m*2^k))
    rw[<-j]at b
    by_cases C:n<m*2^k
    ·have t3:cc<0:=by rw[j,gJ C];omega
     have c:B=true:=by rw[D.out.1,af C]
     clear F hL j C D
     go_wp2_with fail
     refine b.mono ?_;rintro e w3 ⟨rfl,i⟩
     have A:Hid (Kp u w3):=g.trans i
     clear b g i
     go_wp2_with fail
     go_meet
     exact⟨by rfl,by (rw[c];done),A.out⟩
    ·have t3:¬cc<0:=by rw[j];unfold dW;rw[if_neg C];split<;>omega
     have c:B=false:=by rw[D.out.1,ae C]
     clear F hL j C D
     go_wp2_with fail
     refine b.mono ?_;rintro e w3 ⟨rfl,i⟩
     have A:Hid (Kp u w3):=g.trans i
     clear b g i
     go_wp2_with fail
     go_meet
     exact⟨by rfl,by (rw[c,ae (by omega)]),A.out⟩
   ·obtain⟨k,o⟩:=aA (aq m-aq n)
    have M:-r=(k:Int):=by omega
    have g9:wrap64 (-r)=(k:Int):=by rw[M];exact eQ _ (by omega) (by omega)
    have F:=qL vn n k u T.out (by omega) (by omega)
    have tt:¬(0<=r):=by omega
    have br:r<0:=by omega
    have H:aq (n*2^k)<=33554432:=by rw[du _ _ n1];omega
    have p:B=decide (n*2^k<m):=by rw[l];unfold rj;rw[if_neg cl,o]
    have D:Hid (B=decide (n*2^k<m)∧aq (n*2^k)<=33554432∧aq m<=33554432):=⟨p,H,by omega⟩
    clear s l R h4 n1 n2 n3 n4 cl o M H p x a V I L
    go_wp2_with fail
    try rw[g0]
    try rw[g9]
    refine F.mono ?_;rintro e Q ⟨v2,rfl,hL,g⟩
    have b:=AG v2 vd (n*2^k) m Q hL (U.out.kp g) D.out.2.1 D.out.2.2
    obtain⟨cc,j⟩:=aA (dW (n*2^k) m)
    rw[<-j]at b
    by_cases C:n*2^k<m
    ·have t3:cc<0:=by rw[j,gJ C];omega
     have c:B=true:=by rw[D.out.1,af C]
     clear F hL j C D
     go_wp2_with fail
     refine b.mono ?_;rintro e w3 ⟨rfl,i⟩
     have A:Hid (Kp u w3):=g.trans i
     clear b g i
     go_wp2_with fail
     go_meet
     exact⟨by rfl,by (rw[c];done),A.out⟩
    ·have t3:¬cc<0:=by rw[j];unfold dW;rw[if_neg C];split<;>omega
     have c:B=false:=by rw[D.out.1,ae C]
     clear F hL j C D
     go_wp2_with fail
     refine b.mono ?_;rintro e w3 ⟨rfl,i⟩
     have A:Hid (Kp u w3):=g.trans i
     clear b g i
     go_wp2_with fail
     go_meet
     exact⟨by rfl,by (rw[c,ae (by omega)]),A.out⟩
  case rest =>
  obtain⟨rfl,rfl,o⟩:=hcut
  obtain⟨Q,bp⟩:=aA wc
  subst bp
  replace T:Hid (Ls Q vn (az n)):=T.out.kp o
  replace U:Hid (Ls Q vd (az m)):=U.out.kp o
  replace HK:Hid (Kp w Q):=HK.out.trans o
  clear o V g0
  go_upto_if 76 with fail
  go_cut [14] (fun s14 wx=>s14=.int .i64 f∧wx=Q)
  case first =>
   obtain⟨s,l,R,h4⟩:=x.out
   cases B
   ·have c:f=r:=by rw[R];simp
    clear s l R h4 x a I L
    go_wp2_with fail
    go_meet
    exact⟨by rw[c],rfl⟩
   ·have c:f=r-1:=by rw[R];simp
    clear s l R h4 x a I L
    go_wp2_with fail
    go_meet
    exact⟨by rw[gf,c],rfl⟩
  case rest =>
  obtain⟨rfl,t⟩:=hcut
  obtain rfl:=t.symm
  clear t gf
  have bA:Hid (f=mu n m):=x.out.2.2.2
  have bq:-4194304<=f∧f<=4194304:=by
   obtain⟨s,l,R,h4⟩:=x.out
   obtain⟨n1,n2,n3,n4⟩:=a.out
   have b1:=(cK n n1).2.2
   have b2:=(cK m n2).2.2
   rw[R,s];split<;>omega
  clear x
  apply_assumption
  exact GI d sg G f neg O N n m Y Kv vn vd w Q T U HK bv I a L bA bq bH _ _ _ _ _ _ _ _ _ _ _ _ _ _ _ _ _ _ _ _ _ _ _ _ _ _ _ _ _ _ _ _ _ _ _ _ _ _ _ _ _ _ _ _ _ _ _ _ _ _ _ _ _ _ _ _ _ _ _ _ _ _ _ _ _ _ _ _ _ _ _ _ _ _ _ _ _ _ _ _ _ _ _ _ _ _ _ _ _ _ _ _ _ _ _ _ _ _ _ _ _ _ _ _ _ _ _ _ _ _ _ _ _ _ _ _ _ _ _ _ _ _ _ _ _ _ _ _ _ _ _ _ _ _ _ _ _ _ _ _ _ _ _ _ _ _ _ _ _ _ _ _ _ _ _ _ _ _ _ _ _ _ _ _ _ _ _ _
namespace Fb
open Ieee

def rg (f:Format)(x:Nat):Nat:=x%f.signWeight
def ng (f:Format)(x:Nat):Bool:=x/f.signWeight%2 == 1
def pl (f:Format)(x:Nat):Int:=if ng f x then -(rg f x:Int) else rg f x
def eE (f:Format)(r:Nat):Nat:=if r<f.binade then 0 else r/f.binade-1
def mM (f:Format)(r:Nat):Nat:=if r<f.binade then r else f.binade+r%f.binade
def vV (f:Format)(r:Nat):Nat:=mM f r*2^eE f r

def sV (f:Format)(x:Nat):Int:=if ng f x then -(vV f (rg f x):Int) else vV f (rg f x)

def gU (n:Bool)(m:Nat):Int:=if n then -(m:Int) else m
def wD (n:Bool)(m:Nat):Nat:=if n then 9223372036854775808+m else m
def Cm (B I:Nat)(m:Nat):Nat:=if m<B then m else if m<I then B+m%B else m%B
def DS (L:Int)(B I:Nat)(m:Nat):Int:=if m<B then L else if m<I then L+(m/B:Nat)-1 else L
def uy:=Cm 4503599627370496 9218868437227405312
def vi:=DS (-1074) 4503599627370496 9218868437227405312
def ij (x y:Int):Int:=if x<y then -1 else if y<x then 1 else 0

def fD (p:Int):Nat:=wD (decide (p<0)) p.natAbs
end Fb
theorem qC (v:Value)(L:List Int)(w:World)(h:Ls w v L)(hw:Wd L)(l:L.length<=1048576) :
  Calls prog 130 #[v] w fun e w'=>∃v',e=.returned v'∧Own w' w.heap.size v' (az (val L))∧Kp w w':=by
 obtain⟨p,c,rfl,a,b⟩:=h
 have h:=iy p c L w a (by omega)
 rw[eZ L hw]at h
 exact h
theorem vG (v:Value)(a:Nat)(w:World)(h:Ls w v (az a))(l:aq a<=33554432) :
  Calls prog 169 #[v] w (RE (.int .i64 (jK a:Nat)) w):=by
 obtain⟨p,c,rfl,b,d⟩:=h
 have f:=dZ a 1048576 (by omega)
 have h:=zg p c (az a) w b (bC a) (by omega)
 rw[aV]at h
 exact h
theorem wG (v:Value)(a m:Nat)(w:World)(h:Ls w v (az a))(l:aq a<=33554432)(hm:m<=33554432) :
  Calls prog 170 #[v,.int .i64 (m:Int)] w fun e w'=>∃v' b,e=.returned (.tuple #[v',.bool b])∧Own w' w.heap.size v' (az (a/2^m))∧Kp w w':=by
 obtain⟨p,c,rfl,d,f⟩:=h
 have g:=dZ a 1048576 (by omega)
 have h:=sZ p c m (az a) w d (bC a) (by omega) (by omega)
 rw[aV]at h
 exact h.mono fun e w' ⟨v,h1,h2,h3⟩=>⟨v,_,h1,h2,h3⟩
theorem Bv (v:Value)(a m:Nat)(w:World)(h:Ls w v (az a))(l:aq a<=16777216)(hm:m<=16777216) :
  Calls prog 171 #[v,.int .i64 (m:Int)] w fun e w'=>∃v',e=.returned v'∧Own w' w.heap.size v' (az (a*2^m))∧Kp w w':=by
 obtain⟨p,c,rfl,b,d⟩:=h
 have h:=kR p c m (az a) w b (bC a) (aT (dZ a 524288 (by omega)) (by omega)) hm
 rw[aV]at h
 exact h
theorem tW (neg:Bool)(vn vd:Value)(Ln Ld:List Int)(exp:Int)(w:World)(hn:Ls w vn Ln)(hd:Ls w vd Ld)(hwn:Wd Ln)(hwd:Wd Ld)(ln:Ln.length<=32768)(ld:Ld.length<=32768)(hb:val Ld≠0)(he:exp.natAbs<=1048576) :
  Calls prog 132 #[.bool neg,vn,vd,.int .i64 exp] w fun e w'=>∃(vn' vd':Value)(a' b':Nat)(ng:Bool),e=.returned (.agg #[.bool ng,vn',vd'])∧Own w' w.heap.size vn' (az a')∧Own w' w.heap.size vd' (az b')∧(fJ (val Ln) (val Ld) exp a' b'∧(val Ln≠0->ng=neg))∧Kp w w':=by
 obtain⟨g,N⟩:=aA (w.alloc (.cells #[.bool false,.slice none 0 0,.slice none 0 0] 57))
 have i:Kp w g:=by rw[N];exact(Kp.refl w).alloc _
 obtain⟨a,ha⟩:=aA (val Ln)
 obtain⟨b,aj⟩:=aA (val Ld)
 have l:=qC vn Ln g (hn.kp i) hwn (by omega)
 have R:=fun w' (k:Kp g w')=>qC vd Ld w' ((hd.kp i).kp k) hwd (by omega)
 have la:aq a<=1048576:=by
  have:=jp a Ln.length (by rw[ha,<-fS Ln hwn];exact dJ Ln)
  omega
 have lb:aq b<=1048576:=by
  have:=jp b Ld.length (by rw[aj,<-fS Ld hwd];exact dJ Ld)
  omega
 rw[<-ha]at l
 rw[<-aj]at R hb
 rw[<-ha,<-aj]
 have K:Hid (aq a<=1048576∧aq b<=1048576∧b≠0∧exp.natAbs<=1048576):=⟨la,lb,hb,he⟩
 have d:Hid (g=w.alloc (.cells #[.bool false,.slice none 0 0,.slice none 0 0] 57)):=N
 clear i ha aj hn hd hwn hwd ln ld la lb hb he
 by_cases cz:a=0
 ·subst cz
  rw[dF]at l
  go_enter func132,ntmps132
  go_wp2_with fail
  rw[<-N]
  refine l.mono ?_;rintro e w1 ⟨v1,rfl,s,j⟩
  obtain⟨p1,c1,rfl,_⟩:=s.len
  have T:=R w1 j
  have f:Hid (Kp g w1):=j
  clear l R s j N
  go_wp2_with fail
  refine T.mono ?_;rintro e O ⟨v2,rfl,s,j⟩
  replace f:Hid (Kp g O):=f.out.trans j
  clear T s j
  obtain⟨G,ab⟩:=aA (O.alloc (.cells #[.int .u32 1] 120))
  obtain⟨Z,ad⟩:=aA O.heap.size
  have O1:=zB O
  rw[<-ab,<-ad]at O1
  have a2:=f.out.size
  rw[<-ad]at a2
  replace f:Hid (Kp g G):=f.out.trans (by rw[ab];exact(Kp.refl _).alloc _)
  have W:Hid (Own G g.heap.size (.slice none 0 0) (az 0)):=by rw[dF];exact Own.nil _ _
  have X:Hid (Own G g.heap.size (.slice (some ⟨Z,0,none⟩) 1 1) (az 1)):=by
   rw[pj]
   exact O1.mono a2
  have V:Hid (fJ 0 b exp 0 1):=⟨by decide,by simp,fun _ _ _ h=>absurd rfl h,by rw[cP];omega,by have:aq 1=1:=ed 1 0 (by decide) (by decide);omega⟩
  have ba:Hid (O.alloc (.cells #[.int .u32 1] 120)=G∧O.heap.size=Z):=⟨ab.symm,ad.symm⟩
  clear O1 a2 ab ad
  have c:w.heap.size<g.heap.size:=by rw[d.out];simp
  have k0:=ac f.out (b:=w.heap.size) (o:=0) (v:=.bool false) (by rw[d.out];simp[go_sem])
  have z0:G.frozen? ⟨w.heap.size,0,none⟩=false:=by rw[Below.frozen f.out c,d.out];simp[go_sem]
  have k1:=ac f.out (b:=w.heap.size) (o:=1) (v:=.slice none 0 0) (by rw[d.out];simp[go_sem])
  have z1:G.frozen? ⟨w.heap.size,1,none⟩=false:=by rw[Below.frozen f.out c,d.out];simp[go_sem]
  have k2:=ac f.out (b:=w.heap.size) (o:=2) (v:=.slice none 0 0) (by rw[d.out];simp[go_sem])
  have z2:G.frozen? ⟨w.heap.size,2,none⟩=false:=by rw[Below.frozen f.out c,d.out];simp[go_sem]
  have m:Kp w g:=by rw[d.out];exact(Kp.refl w).alloc _
  have i:Kp w G:=m.trans f.out
  have H:Hid (Own (((G.setCell ⟨w.heap.size,0,none⟩ (.bool false)).setCell ⟨w.heap.size,1,none⟩ (.slice none 0 0)).setCell ⟨w.heap.size,2,none⟩ (.slice (some ⟨Z,0,none⟩) 1 1)) w.heap.size (.slice none 0 0) (az (0))∧Own (((G.setCell ⟨w.heap.size,0,none⟩ (.bool false)).setCell ⟨w.heap.size,1,none⟩ (.slice none 0 0)).setCell ⟨w.heap.size,2,none⟩ (.slice (some ⟨Z,0,none⟩) 1 1)) w.heap.size (.slice (some ⟨Z,0,none⟩) 1 1) (az (1))∧Kp w (((G.setCell ⟨w.heap.size,0,none⟩ (.bool false)).setCell ⟨w.heap.size,1,none⟩ (.slice none 0 0)).setCell ⟨w.heap.size,2,none⟩ (.slice (some ⟨Z,0,none⟩) 1 1))):=⟨((((W.out.setOther c (.bool false)).setOther c (.slice none 0 0)).setOther c (.slice (some ⟨Z,0,none⟩) 1 1))).mono (bO c),((((X.out.setOther c (.bool false)).setOther c (.slice none 0 0)).setOther c (.slice (some ⟨Z,0,none⟩) 1 1))).mono (bO c),(((i.setCell (ao _) (.bool false)).setCell (ao _) (.slice none 0 0)).setCell (ao _) (.slice (some ⟨Z,0,none⟩) 1 1))⟩
  clear i c m
  obtain⟨q1,q2⟩:=ba.out
  subst q1
  subst q2
  clear ba
  go_wp2
  exact BR ⟨_,_,0,1,false,rfl,H.out.1,H.out.2.1,⟨V.out,fun h=>absurd rfl h⟩,H.out.2.2⟩ (by simp[results,results132,go_sem]<;>simp[go_sem, *])
 ·have ci:Hid (a≠0):=cz
  obtain⟨A,bB,ea,da,au⟩:=pm a cz
  obtain⟨B,b5,eb,db,a0⟩:=pm b K.out.2.2.1
  obtain⟨ka,U⟩:=aA (jK a)
  obtain⟨kb,S⟩:=aA (jK b)
  rw[<-U]at ea da au
  rw[<-S]at eb db a0
  obtain⟨e1,ar⟩:∃e1:Int,e1=exp+ka:=⟨_,rfl⟩
  obtain⟨ex,aw⟩:∃ex:Int,ex=e1-kb:=⟨_,rfl⟩
  obtain⟨x,hx⟩:=aA ex.toNat
  obtain⟨y,hy⟩:=aA ((-ex).toNat)
  have a9:=Ay a b A B ka kb x y exp ex (by omega) (by omega) ea eb au a0 (by rw[aw,ar]) hx hy
  have V:Hid (fJ a b exp (A*2^x) (B*2^y)):=a9
  have ca:=K.out
  have bA:aq A<=aq a:=by rw[ea,du _ _ (by omega)];omega
  have bv:aq B<=aq b:=by rw[eb,du _ _ (by omega)];omega
  have P:Hid (aq A<=16777216∧aq B<=16777216∧x<=16777216∧y<=16777216):=⟨by omega,by omega,by omega,by omega⟩
  have g1:wrap64 (exp+(ka:Int))=e1:=by rw[<-ar];exact eQ _ (by omega) (by omega)
  have g2:wrap64 (e1-(kb:Int))=ex:=by rw[<-aw];exact eQ _ (by omega) (by omega)
  have HX:Hid (x=ex.toNat∧y=(-ex).toNat):=⟨hx,hy⟩
  have HD:Hid (a/2^ka=A∧b/2^kb=B∧ka=jK a∧kb=jK b∧ka<=1048576∧kb<=1048576):=⟨da,db,U,S,by omega,by omega⟩
  have an:=iP a
  obtain⟨M,hM⟩:=aA ((az a).length)
  rw[<-hM]at an
  have t0:¬((M:Int)=0):=by have:=mt an.1 cz;omega
  have HM:Hid (M=(az a).length):=hM
  clear a9 ca bA bv bB b5 ea da au eb db a0 U S ar aw hx hy an hM cz
  go_enter func132,ntmps132
  go_wp2_with fail
  rw[<-N]
  refine l.mono ?_;rintro e w1 ⟨v1,rfl,s,j⟩
  obtain⟨p1,c1,rfl,_⟩:=s.len
  have J:Hid (Own w1 g.heap.size (.slice p1 (az a).length c1) (az a)):=s
  rw[<-HM.out]at J|-
  have T:=R w1 j
  have f:Hid (Kp g w1):=j
  clear l R s j N
  go_wp2_with fail
  refine T.mono ?_;rintro e O ⟨v2,rfl,s,j⟩
  have Q:Hid (Own O g.heap.size v2 (az b)):=s.mono f.out.size
  replace J:Hid (Own O g.heap.size (.slice p1 M c1) (az a)):=J.out.kp j
  replace f:Hid (Kp g O):=f.out.trans j
  clear T s j
  have l:=vG (.slice p1 M c1) a O J.out.ls (by have:=K.out;omega)
  rw[<-HD.out.2.2.1]at l
  go_wp2_with fail
  refine SM l ?_;clear l
  have l:=wG (.slice p1 M c1) a ka O J.out.ls (by have:=K.out;omega) (by have:=HD.out;omega)
  rw[HD.out.1]at l
  go_wp2_with fail
  refine l.mono ?_;rintro e G ⟨v3,bb,rfl,s,j⟩
  replace J:Hid (Own G g.heap.size v3 (az A)):=s.mono f.out.size
  replace Q:Hid (Own G g.heap.size v2 (az b)):=Q.out.kp j
  replace f:Hid (Kp g G):=f.out.trans j
  clear l s j
  have l:=vG v2 b G Q.out.ls (by have:=K.out;omega)
  rw[<-HD.out.2.2.2.1]at l
  go_wp2_with fail
  refine SM l ?_;clear l
  have l:=wG v2 b kb G Q.out.ls (by have:=K.out;omega) (by have:=HD.out;omega)
  rw[HD.out.2.1]at l
  go_wp2_with fail
  refine l.mono ?_;rintro e I ⟨v4,cl,rfl,s,j⟩
  replace Q:Hid (Own I g.heap.size v4 (az B)):=s.mono f.out.size
  replace J:Hid (Own I g.heap.size v3 (az A)):=J.out.kp j
  replace f:Hid (Kp g I):=f.out.trans j
  clear l s j
  by_cases cx:0<ex
  ·have Y:ex=(x:Int):=by have:=HX.out;omega
   have l:=Bv v3 A x I J.out.ls P.out.1 P.out.2.2.1
   rw[<-Y]at l
   have t1:0<ex:=cx
   have t2:¬ex<0:=by omega
   have L:Hid (y=0):=by have:=HX.out;show _=_;omega
   clear Y cx
   go_wp2_with fail
   try rw[g2]
   refine l.mono ?_;rintro e z ⟨v5,rfl,s,j⟩
   have W:Hid (Own z g.heap.size v5 (az (A*2^x))):=s.mono f.out.size
   have X:Hid (Own z g.heap.size v4 (az (B*2^y))):=by rw[L.out,aB,aG];exact Q.out.kp j
   replace f:Hid (Kp g z):=f.out.trans j
   clear l s j J Q
   obtain⟨t,r,D,_⟩:=W.out.len
   obtain⟨q,F⟩:=aA ((az (A*2^x)).length)
   rw[<-F]at D
   subst D
   clear F
   obtain⟨n,p,C,_⟩:=X.out.len
   obtain⟨u,E⟩:=aA ((az (B*2^y)).length)
   rw[<-E]at C
   subst C
   clear E
   have c:w.heap.size<g.heap.size:=by rw[d.out];simp
   have k0:=ac f.out (b:=w.heap.size) (o:=0) (v:=.bool false) (by rw[d.out];simp[go_sem])
   have z0:z.frozen? ⟨w.heap.size,0,none⟩=false:=by rw[Below.frozen f.out c,d.out];simp[go_sem]
   have k1:=ac f.out (b:=w.heap.size) (o:=1) (v:=.slice none 0 0) (by rw[d.out];simp[go_sem])
   have z1:z.frozen? ⟨w.heap.size,1,none⟩=false:=by rw[Below.frozen f.out c,d.out];simp[go_sem]
   have k2:=ac f.out (b:=w.heap.size) (o:=2) (v:=.slice none 0 0) (by rw[d.out];simp[go_sem])
   have z2:z.frozen? ⟨w.heap.size,2,none⟩=false:=by rw[Below.frozen f.out c,d.out];simp[go_sem]
   have m:Kp w g:=by rw[d.out];exact(Kp.refl w).alloc _
   have i:Kp w z:=m.trans f.out
   have H:Hid (Own (((z.setCell ⟨w.heap.size,0,none⟩ (.bool neg)).setCell ⟨w.heap.size,1,none⟩ (.slice t q r)).setCell ⟨w.heap.size,2,none⟩ (.slice n u p)) w.heap.size (.slice t q r) (az (A*2^x))∧Own (((z.setCell ⟨w.heap.size,0,none⟩ (.bool neg)).setCell ⟨w.heap.size,1,none⟩ (.slice t q r)).setCell ⟨w.heap.size,2,none⟩ (.slice n u p)) w.heap.size (.slice n u p) (az (B*2^y))∧Kp w (((z.setCell ⟨w.heap.size,0,none⟩ (.bool neg)).setCell ⟨w.heap.size,1,none⟩ (.slice t q r)).setCell ⟨w.heap.size,2,none⟩ (.slice n u p))):=⟨((((W.out.setOther c (.bool neg)).setOther c (.slice t q r)).setOther c (.slice n u p))).mono (bO c),((((X.out.setOther c (.bool neg)).setOther c (.slice t q r)).setOther c (.slice n u p))).mono (bO c),(((i.setCell (ao _) (.bool neg)).setCell (ao _) (.slice t q r)).setCell (ao _) (.slice n u p))⟩
   clear i c m
   go_wp2
   exact BR ⟨_,_,A*2^x,B*2^y,neg,rfl,H.out.1,H.out.2.1,⟨V.out,fun _=>rfl⟩,H.out.2.2⟩ (by simp[results,results132,go_sem]<;>simp[go_sem, *])
  ·by_cases aa:ex<0
   ·have Y:wrap64 (-ex)=(y:Int):=by rw[show -ex=(y:Int)from by have:=HX.out;omega];exact eQ _ (by omega) (by have:=P.out;omega)
    have l:=Bv v4 B y I Q.out.ls P.out.2.1 P.out.2.2.2
    have t1:¬0<ex:=by omega
    have t2:ex<0:=aa
    have L:Hid (x=0):=by have:=HX.out;show _=_;omega
    clear cx aa
    go_wp2_with fail
    try rw[g2]
    try rw[Y]
    refine l.mono ?_;rintro e z ⟨v5,rfl,s,j⟩
    have X:Hid (Own z g.heap.size v5 (az (B*2^y))):=s.mono f.out.size
    have W:Hid (Own z g.heap.size v3 (az (A*2^x))):=by rw[L.out,aB,aG];exact J.out.kp j
    replace f:Hid (Kp g z):=f.out.trans j
    clear l s j J Q
    obtain⟨t,r,D,_⟩:=W.out.len
    obtain⟨q,F⟩:=aA ((az (A*2^x)).length)
    rw[<-F]at D
    subst D
    clear F
    obtain⟨n,p,C,_⟩:=X.out.len
    obtain⟨u,E⟩:=aA ((az (B*2^y)).length)
    rw[<-E]at C
    subst C
    clear E
    have c:w.heap.size<g.heap.size:=by rw[d.out];simp
    have k0:=ac f.out (b:=w.heap.size) (o:=0) (v:=.bool false) (by rw[d.out];simp[go_sem])
    have z0:z.frozen? ⟨w.heap.size,0,none⟩=false:=by rw[Below.frozen f.out c,d.out];simp[go_sem]
    have k1:=ac f.out (b:=w.heap.size) (o:=1) (v:=.slice none 0 0) (by rw[d.out];simp[go_sem])
    have z1:z.frozen? ⟨w.heap.size,1,none⟩=false:=by rw[Below.frozen f.out c,d.out];simp[go_sem]
    have k2:=ac f.out (b:=w.heap.size) (o:=2) (v:=.slice none 0 0) (by rw[d.out];simp[go_sem])
    have z2:z.frozen? ⟨w.heap.size,2,none⟩=false:=by rw[Below.frozen f.out c,d.out];simp[go_sem]
    have m:Kp w g:=by rw[d.out];exact(Kp.refl w).alloc _
    have i:Kp w z:=m.trans f.out
    have H:Hid (Own (((z.setCell ⟨w.heap.size,0,none⟩ (.bool neg)).setCell ⟨w.heap.size,1,none⟩ (.slice t q r)).setCell ⟨w.heap.size,2,none⟩ (.slice n u p)) w.heap.size (.slice t q r) (az (A*2^x))∧Own (((z.setCell ⟨w.heap.size,0,none⟩ (.bool neg)).setCell ⟨w.heap.size,1,none⟩ (.slice t q r)).setCell ⟨w.heap.size,2,none⟩ (.slice n u p)) w.heap.size (.slice n u p) (az (B*2^y))∧Kp w (((z.setCell ⟨w.heap.size,0,none⟩ (.bool neg)).setCell ⟨w.heap.size,1,none⟩ (.slice t q r)).setCell ⟨w.heap.size,2,none⟩ (.slice n u p))):=⟨((((W.out.setOther c (.bool neg)).setOther c (.slice t q r)).setOther c (.slice n u p))).mono (bO c),((((X.out.setOther c (.bool neg)).setOther c (.slice t q r)).setOther c (.slice n u p))).mono (bO c),(((i.setCell (ao _) (.bool neg)).setCell (ao _) (.slice t q r)).setCell (ao _) (.slice n u p))⟩
    clear i c m
    go_wp2
    exact BR ⟨_,_,A*2^x,B*2^y,neg,rfl,H.out.1,H.out.2.1,⟨V.out,fun _=>rfl⟩,H.out.2.2⟩ (by simp[results,results132,go_sem]<;>simp[go_sem, *])
   ·have t1:¬0<ex:=by omega
    have t2:¬ex<0:=aa
    have L:Hid (x=0∧y=0):=by have:=HX.out;exact⟨by omega,by omega⟩
    clear cx aa
    have W:Hid (Own I g.heap.size v3 (az (A*2^x))):=by rw[L.out.1,aB,aG];exact J.out
    have X:Hid (Own I g.heap.size v4 (az (B*2^y))):=by rw[L.out.2,aB,aG];exact Q.out
    clear J Q
    obtain⟨t,r,D,_⟩:=W.out.len
    obtain⟨q,F⟩:=aA ((az (A*2^x)).length)
    rw[<-F]at D
    subst D
    clear F
    obtain⟨n,p,C,_⟩:=X.out.len
    obtain⟨u,E⟩:=aA ((az (B*2^y)).length)
    rw[<-E]at C
    subst C
    clear E
    have c:w.heap.size<g.heap.size:=by rw[d.out];simp
    have k0:=ac f.out (b:=w.heap.size) (o:=0) (v:=.bool false) (by rw[d.out];simp[go_sem])
    have z0:I.frozen? ⟨w.heap.size,0,none⟩=false:=by rw[Below.frozen f.out c,d.out];simp[go_sem]
    have k1:=ac f.out (b:=w.heap.size) (o:=1) (v:=.slice none 0 0) (by rw[d.out];simp[go_sem])
    have z1:I.frozen? ⟨w.heap.size,1,none⟩=false:=by rw[Below.frozen f.out c,d.out];simp[go_sem]
    have k2:=ac f.out (b:=w.heap.size) (o:=2) (v:=.slice none 0 0) (by rw[d.out];simp[go_sem])
    have z2:I.frozen? ⟨w.heap.size,2,none⟩=false:=by rw[Below.frozen f.out c,d.out];simp[go_sem]
    have m:Kp w g:=by rw[d.out];exact(Kp.refl w).alloc _
    have i:Kp w I:=m.trans f.out
    have H:Hid (Own (((I.setCell ⟨w.heap.size,0,none⟩ (.bool neg)).setCell ⟨w.heap.size,1,none⟩ (.slice t q r)).setCell ⟨w.heap.size,2,none⟩ (.slice n u p)) w.heap.size (.slice t q r) (az (A*2^x))∧Own (((I.setCell ⟨w.heap.size,0,none⟩ (.bool neg)).setCell ⟨w.heap.size,1,none⟩ (.slice t q r)).setCell ⟨w.heap.size,2,none⟩ (.slice n u p)) w.heap.size (.slice n u p) (az (B*2^y))∧Kp w (((I.setCell ⟨w.heap.size,0,none⟩ (.bool neg)).setCell ⟨w.heap.size,1,none⟩ (.slice t q r)).setCell ⟨w.heap.size,2,none⟩ (.slice n u p))):=⟨((((W.out.setOther c (.bool neg)).setOther c (.slice t q r)).setOther c (.slice n u p))).mono (bO c),((((X.out.setOther c (.bool neg)).setOther c (.slice t q r)).setOther c (.slice n u p))).mono (bO c),(((i.setCell (ao _) (.bool neg)).setCell (ao _) (.slice t q r)).setCell (ao _) (.slice n u p))⟩
    clear i c m
    go_wp2
    exact BR ⟨_,_,A*2^x,B*2^y,neg,rfl,H.out.1,H.out.2.1,⟨V.out,fun _=>rfl⟩,H.out.2.2⟩ (by simp[results,results132,go_sem]<;>simp[go_sem, *])
theorem EK (m:Nat)(h:m/4503599627370496=0):Fb.uy m=m%4503599627370496∧Fb.vi m = -1074:=by
 have a:m<4503599627370496:=by omega
 unfold Fb.uy Fb.Cm Fb.vi Fb.DS
 rw[if_pos a,if_pos a,aX a]
 exact⟨rfl,rfl⟩
theorem EJ (m:Nat)(hm:m<9218868437227405312)(h:m/4503599627370496≠0):Fb.uy m=m%4503599627370496+4503599627370496∧Fb.vi m=((m/4503599627370496:Nat):Int)-1-1074:=by
 have a:¬m<4503599627370496:=by omega
 unfold Fb.uy Fb.Cm Fb.vi Fb.DS
 rw[if_neg a,if_pos hm,if_neg a,if_pos hm]
 generalize m/4503599627370496=q
 exact⟨by omega,by omega⟩
theorem sW (f:Nat)(x:Int)(h:f<18446744073709551616)(hx:x.natAbs<=4096):f<18446744073709551616∧aq f<=64∧x.natAbs<=1048576 :=
 ⟨h,gp f 64 (by rw[show(2:Nat)^64=18446744073709551616 from by decide];exact h),by omega⟩
theorem Az (eN fN f:Nat)(e1 x:Int)(b1:eN<2047)(b2:fN<4503599627370496)(h0:eN≠0)(hf:f=fN+4503599627370496)(he1:e1=(eN:Int)-1)(hx:x=e1-1074) :
  0<(eN:Int)∧IntKind.u64.wrap ((fN:Int)+4503599627370496)=(f:Int)∧wrap64 ((eN:Int)-1)=e1∧wrap64 (e1-1074)=x∧f<18446744073709551616∧x.natAbs<=4096:=by
 refine⟨by omega, ?_, ?_, ?_,by omega,by omega⟩
 ·rw[IntKind.wrap_u64];omega
 ·rw[<-he1];exact eQ _ (by omega) (by omega)
 ·rw[<-hx];exact eQ _ (by omega) (by omega)
theorem GW (eN:Nat)(b1:eN<2047):IntKind.i64.wrap (eN:Int)=(eN:Int)∧wrap64 (eN:Int)=(eN:Int):=⟨vO _ (by omega) (by omega),eQ _ (by omega) (by omega)⟩
theorem AA (n:Bool)(m X Q eN fN:Nat)(hm:m<9218868437227405312)(hX:X=Fb.wD n m)(hQ:Q=X/4503599627370496)(he:eN=m/4503599627370496)(hf:fN=m%4503599627370496) :
  bits BinOp.and IntKind.u64 (Q:Int) 2047=(eN:Int)∧bits BinOp.and IntKind.u64 (X:Int) 4503599627370495=(fN:Int)∧(X:Int)/9223372036854775808=(if n=true then 1 else 0)∧eN<2047∧fN<4503599627370496∧X<18446744073709551616:=by
 have a:X<18446744073709551616:=by rw[hX];unfold Fb.wD;split<;>omega
 have b:Q%2048=eN:=by rw[hQ,he,hX];unfold Fb.wD;split<;>omega
 have c:X%4503599627370496=fN:=by rw[hf,hX];unfold Fb.wD;split<;>omega
 refine⟨?_, ?_, ?_,by omega,by omega,a⟩
 ·have h:=u64_and_nat Q 2047 (by omega) (by decide)
  rw[show(2047:Nat)=2^11-1 from by decide,cG,show(2:Nat)^11=2048 from by decide,b]at h
  exact h
 ·have h:=u64_and_nat X 4503599627370495 a (by decide)
  rw[show(4503599627370495:Nat)=2^52-1 from by decide,cG,show(2:Nat)^52=4503599627370496 from by decide,c]at h
  exact h
 ·rw[hX];unfold Fb.wD;cases n<;>simp<;>omega
theorem uZ (n:Bool)(m:Nat)(hm:m<9218868437227405312)(w:World) :
  Calls prog 152 #[.int .u64 ((Fb.wD n m:Nat):Int)] w fun e w'=>∃(vn vd:Value)(a b:Nat)(ng:Bool),e=.returned (.agg #[.bool ng,vn,vd])∧Own w' w.heap.size vn (az a)∧Own w' w.heap.size vd (az b)∧(fJ (Fb.uy m) 1 (Fb.vi m) a b∧(Fb.uy m≠0->ng=n))∧Kp w w':=by
 obtain⟨j,K⟩:=aA (w.alloc (.cells #[.bool false,.slice none 0 0,.slice none 0 0] 57))
 have d:Hid (j=w.alloc (.cells #[.bool false,.slice none 0 0,.slice none 0 0] 57)):=K
 obtain⟨X,hX⟩:=aA (Fb.wD n m)
 obtain⟨Q,hQ⟩:=aA (X/4503599627370496)
 obtain⟨eN,B⟩:=aA (m/4503599627370496)
 obtain⟨fN,M⟩:=aA (m%4503599627370496)
 obtain⟨f2,f3,f4,b1,b2,b3⟩:=AA n m X Q eN fN hm hX hQ B M
 have f1:(X:Int)/4503599627370496=(Q:Int):=by rw[hQ];exact(eJ _ _).symm
 obtain⟨R,A⟩:∃R:Int,R=if n=true then 1 else 0:=⟨_,rfl⟩
 rw[<-A]at f4
 have aw:(R == 1)=n:=by rw[A];cases n<;>rfl
 have bn:decide (R=1)=n:=by rw[A];cases n<;>rfl
 rw[<-hX]
 obtain⟨ge,a9⟩:=GW eN b1
 clear hX hQ A b3
 by_cases ce:eN=0
 ·obtain⟨f,U⟩:=aA fN
  obtain⟨x,T⟩:∃x:Int,x = -1074:=⟨_,rfl⟩
  have q:=EK m (by rw[<-B];exact ce)
  rw[<-M,<-U,<-T]at q
  have HS:Hid (Fb.uy m=f∧Fb.vi m=x):=q
  have G:f<18446744073709551616:=by rw[U];exact Nat.lt_trans b2 (by decide)
  have H:x.natAbs<=4096:=by rw[T];decide
  have V:Hid (f<18446744073709551616∧aq f<=64∧x.natAbs<=1048576):=sW f x G H
  clear q G H
  have P:Hid (x = -1074):=T
  subst ce
  rw[<-U]at f3
  clear b1 b2 B M U T hm
  go_enter func152,ntmps152
  have z:=mc f V.out.1 j
  go_wp2_with fail
  rw[<-K]
  refine z.mono ?_;rintro e C ⟨v1,rfl,hO,N⟩
  have S:Hid (Ls C v1 (az f)):=hO.ls
  have g:Hid (Kp j C):=N
  clear z hO N K
  obtain⟨gl,l⟩:=aA C.heap.size
  obtain⟨O,i⟩:=aA (C.alloc (.cells #[.int .u32 1] 120))
  have Z:=zB C
  rw[<-i,<-l]at Z
  have kl:Kp C O:=by rw[i];exact(Kp.refl _).alloc _
  replace S:Hid (Ls O v1 (az f)):=S.out.kp kl
  replace g:Hid (Kp j O):=g.out.trans kl
  have z:=tW n v1 (.slice (some ⟨gl,0,none⟩) 1 1) (az f) [1] x O S.out Z.ls (bC f) (He 1 (by decide)) (aT (dZ f 2 V.out.2.1) (by decide)) (by simp) (by decide) V.out.2.2
  rw[aV,show val [1]=1 from by decide]at z
  rw[P.out]at z
  clear Z kl S
  go_wp2_with fail
  try rw[aw]
  rw[<-l,<-i]
  refine z.mono ?_;rintro e h ⟨vn,vd,a,b,ng,rfl,hN,hD,hF,N⟩
  clear l i z
  have t:=g.out.size
  replace g:Hid (Kp j h):=g.out.trans N
  have ON:Hid (Own h j.heap.size vn (az a)):=hN.mono t
  have OD:Hid (Own h j.heap.size vd (az b)):=hD.mono t
  clear hN hD N t
  obtain⟨u,s,I,_⟩:=ON.out.len
  obtain⟨r,L⟩:=aA ((az (a)).length)
  rw[<-L]at I
  subst I
  clear L
  obtain⟨k,p,E,_⟩:=OD.out.len
  obtain⟨y,J⟩:=aA ((az (b)).length)
  rw[<-J]at E
  subst E
  clear J
  have c:w.heap.size<j.heap.size:=by rw[d.out];simp
  have k0:=ac g.out (b:=w.heap.size) (o:=0) (v:=.bool false) (by rw[d.out];simp[go_sem])
  have z0:h.frozen? ⟨w.heap.size,0,none⟩=false:=by rw[Below.frozen g.out c,d.out];simp[go_sem]
  have k1:=ac g.out (b:=w.heap.size) (o:=1) (v:=.slice none 0 0) (by rw[d.out];simp[go_sem])
  have z1:h.frozen? ⟨w.heap.size,1,none⟩=false:=by rw[Below.frozen g.out c,d.out];simp[go_sem]
  have k2:=ac g.out (b:=w.heap.size) (o:=2) (v:=.slice none 0 0) (by rw[d.out];simp[go_sem])
  have z2:h.frozen? ⟨w.heap.size,2,none⟩=false:=by rw[Below.frozen g.out c,d.out];simp[go_sem]
  have F:Kp w j:=by rw[d.out];exact(Kp.refl w).alloc _
  have D:Kp w h:=F.trans g.out
  have HZ:Hid (Own (((h.setCell ⟨w.heap.size,0,none⟩ (.bool ng)).setCell ⟨w.heap.size,1,none⟩ (.slice u r s)).setCell ⟨w.heap.size,2,none⟩ (.slice k y p)) w.heap.size (.slice u r s) (az a)∧Own (((h.setCell ⟨w.heap.size,0,none⟩ (.bool ng)).setCell ⟨w.heap.size,1,none⟩ (.slice u r s)).setCell ⟨w.heap.size,2,none⟩ (.slice k y p)) w.heap.size (.slice k y p) (az b)∧Kp w (((h.setCell ⟨w.heap.size,0,none⟩ (.bool ng)).setCell ⟨w.heap.size,1,none⟩ (.slice u r s)).setCell ⟨w.heap.size,2,none⟩ (.slice k y p))):=⟨((((ON.out.setOther c (.bool ng)).setOther c (.slice u r s)).setOther c (.slice k y p))).mono (bO c),((((OD.out.setOther c (.bool ng)).setOther c (.slice u r s)).setOther c (.slice k y p))).mono (bO c),(((D.setCell (ao _) (.bool ng)).setCell (ao _) (.slice u r s)).setCell (ao _) (.slice k y p))⟩
  have W:Hid (fJ (Fb.uy m) 1 (Fb.vi m) a b∧(Fb.uy m≠0->ng=n)):=by rw[HS.out.1,HS.out.2,P.out];exact hF
  clear D c F hF
  go_wp2
  exact BR ⟨_,_,a,b,ng,rfl,HZ.out.1,HZ.out.2.1,W.out,HZ.out.2.2⟩ (by simp[results,results152,go_sem]<;>simp[go_sem, *])
 ·obtain⟨f,U⟩:=aA (fN+4503599627370496)
  obtain⟨e1,Y⟩:∃e1:Int,e1=(eN:Int)-1:=⟨_,rfl⟩
  obtain⟨x,T⟩:∃x:Int,x=e1-1074:=⟨_,rfl⟩
  have q:=EJ m hm (by rw[<-B];exact ce)
  rw[<-M,<-U,<-B,<-Y,<-T]at q
  have HS:Hid (Fb.uy m=f∧Fb.vi m=x):=q
  obtain⟨t1,g3,bb,bc,G,H⟩:=Az eN fN f e1 x b1 b2 ce U Y T
  have b9:eN<=2047:=bO b1
  have P:Hid ((eN:Int)-1-1074=x):=by show _=_;clear f1 f2 f3 f4;omega
  clear bb bc ge a9
  have V:Hid (f<18446744073709551616∧aq f<=64∧x.natAbs<=1048576):=sW f x G H
  clear q G H
  clear b1 b2 B M U T hm ce Y
  go_enter func152,ntmps152
  have z:=mc f V.out.1 j
  go_wp2_with fail
  rw[<-K]
  refine z.mono ?_;rintro e C ⟨v1,rfl,hO,N⟩
  have S:Hid (Ls C v1 (az f)):=hO.ls
  have g:Hid (Kp j C):=N
  clear z hO N K
  obtain⟨gl,l⟩:=aA C.heap.size
  obtain⟨O,i⟩:=aA (C.alloc (.cells #[.int .u32 1] 120))
  have Z:=zB C
  rw[<-i,<-l]at Z
  have kl:Kp C O:=by rw[i];exact(Kp.refl _).alloc _
  replace S:Hid (Ls O v1 (az f)):=S.out.kp kl
  replace g:Hid (Kp j O):=g.out.trans kl
  have z:=tW n v1 (.slice (some ⟨gl,0,none⟩) 1 1) (az f) [1] x O S.out Z.ls (bC f) (He 1 (by decide)) (aT (dZ f 2 V.out.2.1) (by decide)) (by simp) (by decide) V.out.2.2
  rw[aV,show val [1]=1 from by decide]at z
  skip
  clear Z kl S
  go_wp2_with fail
  try rw[aw]
  rw[P.out]
  rw[<-l,<-i]
  refine z.mono ?_;rintro e h ⟨vn,vd,a,b,ng,rfl,hN,hD,hF,N⟩
  clear l i z
  have t:=g.out.size
  replace g:Hid (Kp j h):=g.out.trans N
  have ON:Hid (Own h j.heap.size vn (az a)):=hN.mono t
  have OD:Hid (Own h j.heap.size vd (az b)):=hD.mono t
  clear hN hD N t
  obtain⟨u,s,I,_⟩:=ON.out.len
  obtain⟨r,L⟩:=aA ((az (a)).length)
  rw[<-L]at I
  subst I
  clear L
  obtain⟨k,p,E,_⟩:=OD.out.len
  obtain⟨y,J⟩:=aA ((az (b)).length)
  rw[<-J]at E
  subst E
  clear J
  have c:w.heap.size<j.heap.size:=by rw[d.out];simp
  have k0:=ac g.out (b:=w.heap.size) (o:=0) (v:=.bool false) (by rw[d.out];simp[go_sem])
  have z0:h.frozen? ⟨w.heap.size,0,none⟩=false:=by rw[Below.frozen g.out c,d.out];simp[go_sem]
  have k1:=ac g.out (b:=w.heap.size) (o:=1) (v:=.slice none 0 0) (by rw[d.out];simp[go_sem])
  have z1:h.frozen? ⟨w.heap.size,1,none⟩=false:=by rw[Below.frozen g.out c,d.out];simp[go_sem]
  have k2:=ac g.out (b:=w.heap.size) (o:=2) (v:=.slice none 0 0) (by rw[d.out];simp[go_sem])
  have z2:h.frozen? ⟨w.heap.size,2,none⟩=false:=by rw[Below.frozen g.out c,d.out];simp[go_sem]
  have F:Kp w j:=by rw[d.out];exact(Kp.refl w).alloc _
  have D:Kp w h:=F.trans g.out
  have HZ:Hid (Own (((h.setCell ⟨w.heap.size,0,none⟩ (.bool ng)).setCell ⟨w.heap.size,1,none⟩ (.slice u r s)).setCell ⟨w.heap.size,2,none⟩ (.slice k y p)) w.heap.size (.slice u r s) (az a)∧Own (((h.setCell ⟨w.heap.size,0,none⟩ (.bool ng)).setCell ⟨w.heap.size,1,none⟩ (.slice u r s)).setCell ⟨w.heap.size,2,none⟩ (.slice k y p)) w.heap.size (.slice k y p) (az b)∧Kp w (((h.setCell ⟨w.heap.size,0,none⟩ (.bool ng)).setCell ⟨w.heap.size,1,none⟩ (.slice u r s)).setCell ⟨w.heap.size,2,none⟩ (.slice k y p))):=⟨((((ON.out.setOther c (.bool ng)).setOther c (.slice u r s)).setOther c (.slice k y p))).mono (bO c),((((OD.out.setOther c (.bool ng)).setOther c (.slice u r s)).setOther c (.slice k y p))).mono (bO c),(((D.setCell (ao _) (.bool ng)).setCell (ao _) (.slice u r s)).setCell (ao _) (.slice k y p))⟩
  have W:Hid (fJ (Fb.uy m) 1 (Fb.vi m) a b∧(Fb.uy m≠0->ng=n)):=by rw[HS.out.1,HS.out.2];exact hF
  clear D c F hF
  go_wp2
  exact BR ⟨_,_,a,b,ng,rfl,HZ.out.1,HZ.out.2.1,W.out,HZ.out.2.2⟩ (by simp[results,results152,go_sem]<;>simp[go_sem, *])
def ni (d:Int)(neg:Bool)(a b:Nat)(exp:Int):Nat:=if 16384<aS a∨16384<aS b then 9221120237041090561 else if b=0 then (if a=0 then 9221120237041090561 else gO neg 9218868437227405312) else if a=0 then 0 else gO neg (dK 53 2098 9218868437227405311 9218868437227405312 (dU neg d) (rV (dU neg d) 53 a b (exp+1074)))
theorem qk (d:Int)(g neg:Bool)(a b a2 b2:Nat)(e:Int)(hF:fJ a b e a2 b2)(hg:a≠0->g=neg)(K:Nat)(hK:K=1074):mE 53 K 2098 9218868437227405311 0 d g a2 b2=if a=0 then 0 else gO neg (dK 53 2098 9218868437227405311 9218868437227405312 (dU neg d) (rV (dU neg d) 53 a b (e+1074))):=by
 unfold mE
 by_cases c:a=0
 ·rw[if_pos c,if_pos (hF.2.1.2 c)]
 ·rw[if_neg c,if_neg (fun h=>c (hF.2.1.1 h)),hg c,hF.2.2.1 _ _ _ c,aB,aG,show((K:Nat):Int)+e=e+1074 from by omega]
  rfl
theorem CG (d:Int)(neg:Bool)(vn vd:Value)(a b:Nat)(w:World)(hn:Ls w vn (az a))(hd:Ls w vd (az b))(hb:b≠0)(la:aq a<=4194304)(lb:aq b<=4194304) :
  Calls prog 150 #[.int .i64 d,.agg #[.bool neg,vn,vd]] w (RT (.int .u64 ((mE 53 1074 2098 9218868437227405311 0 d neg a b:Nat):Int)) w):=by
 obtain⟨i,f⟩:=aA (w.alloc (.cells #[.bool neg,vn,vd] 57))
 have c:Kp w i:=by rw[f];exact(Kp.refl w).alloc _
 have h:=rJ d neg vn vd a b i (hn.kp c) (hd.kp c) hb la lb
 obtain⟨Z,k⟩:=aA (mE 53 1074 2098 9218868437227405311 0 d neg a b)
 rw[<-k]at h|-
 clear hn hd hb la lb k
 go_enter func150,ntmps150
 go_wp2_with fail
 rw[<-f]
 refine h.mono ?_;rintro e l ⟨rfl,j⟩
 have g:=c.trans j
 clear h j c f
 go_wp2
 exact BR ⟨rfl,g⟩
end Go.Proofs.YtmpjcknaelgnoaaGreatDoor
