import Derived.Test.YtmpjcknaelgnoaaGreatDoorKNSm
import Derived.Deep.DeepCutAuto
set_option maxHeartbeats 1000000
set_option maxRecDepth 100000
namespace Go.Proofs.YtmpjcknaelgnoaaGreatDoor
open Go.RowKit
theorem rrCD (d sg dm e f:Int) (neg aw nr up:Bool) (n m Y U sig wq rq E ue de Kv:Nat) (vN vM:Value) (w w3:World) (H1:Hid (Ls w3 vN (dig (n*2 ^ ue)))) (H2:Hid (Ls w3 vM (dig (m*2 ^ de)))) (HK:Hid (Kp w w3)) (hsn:decide (sg<0)=neg) (HA:Hid ((aw=true ↔ dm=1)∧(nr=true ↔ dm≠1∧dm≠-1)∧dm=dirN neg d)) (HNM:Hid (n≠0∧m≠0∧blen n≤4194304∧blen m≤4194304)) (HY2:Hid (Y=mdW neg (if blen U≤2098 then rgU 53 (U*2 ^ 0) else if dm = -1 then 9218868437227405311 else 9218868437227405312))) (HU2:Hid (U=sig*2 ^ E∧wq<2 ^ 53∧sig≤2 ^ 53∧(blen U≤2098 ↔ ¬ (sig=2 ^ 53∧((1023:Nat):Int)<e+((53:Nat):Int))))) (HE:Hid ((E:Int)=e+(Kv:Int)∧ue=(-e).toNat∧de=e.toNat∧wq=n*2 ^ ue / (m*2 ^ de)∧rq=n*2 ^ ue % (m*2 ^ de)∧up=upw dm wq rq (m*2 ^ de)∧sig=wq+up.toNat∧e=max (f - 53+1) (-(Kv:Int))∧-4194304≤f∧f≤4194304∧Kv=1074)) (HE2:Hid ((E:Int)=e+(Kv:Int)∧ue=(-e).toNat∧de=e.toNat∧e=max (f - 53+1) (-(Kv:Int))∧-4194304≤f∧f≤4194304∧Kv=1074)) (HFB:Hid (f≤1023)) (u0 u1 u4 u5 u6 u7 u8 u14 u16 u17 u18 u19 u20 u21 u22 u23 u24 u25 u26 u27 u28 u29 u30 u31 u32 u33 u34 u35 u36 u37 u38 u39 u40 u41 u42 u43 u44 u45 u46 u47 u48 u49 u50 u51 u52 u53 u54 u55 u56 u57 u58 u59 u60 u61 u62 u63 u64 u65 u66 u67 u68 u69 u70 u71 u72 u73 u74 u75 u76 u77 u78 u79 u80 u81 u82 u83 u84 u85 u86 u87 u88 u89 u90 u91 u92 u93 u94 u95 u96 u97 u98 u99 u100 u101 u102 u103 u104 u105 u106 u107 u108 u109 u110 u111 u112 u113 u114 u115 u116 u117 u118 u119 u120 u121 u122 u123 u124 u125 u126 u127 u128 u129 u130 u131 u132 u133 u134 u135 u136 u137 u138 u139 u140 u141 u142 u143 u144 u145 u146 u147 u148 u149 u150 u151 u152 u153 u154 u155 u156 u157 u158 u159 u160 u161 u162 u163 u164 u165 u166 u167 u168 u169 u170 u171 u172 u173 u174 u175:Value) :
  Code.wp Tryz.prog (dropS 13 (Tryz.f189.body.getD .skip)) (bodyPost Tryz.prog Tryz.f189 fun e w'=>e=.returned (.int .u64 (Y:Int))∧Kp w w') ⟨#[u0,u1,.int .i64 53,.int .i64 1023,u4,u5,u6,u7,u8,.int .i64 sg,.bool aw,.bool nr,vN,vM,u14,.int .i64 e,u16,u17,u18,u19,u20,u21,u22,u23,u24,u25,u26,u27,u28,u29,u30,u31,u32,u33,u34,u35,u36,u37,u38,u39,u40,u41,u42,u43,u44,u45,u46,u47,u48,u49,u50,u51,u52,u53,u54,u55,u56,u57,u58,u59,u60,u61,u62,u63,u64,u65,u66,u67,u68,u69,u70,u71,u72,u73,u74,u75,u76,u77,u78,u79,u80,u81,u82,u83,u84,u85,u86,u87,u88,u89,u90,u91,u92,u93,u94,u95,u96,u97,u98,u99,u100,u101,u102,u103,u104,u105,u106,u107,u108,u109,u110,u111,u112,u113,u114,u115,u116,u117,u118,u119,u120,u121,u122,u123,u124,u125,u126,u127,u128,u129,u130,u131,u132,u133,u134,u135,u136,u137,u138,u139,u140,u141,u142,u143,u144,u145,u146,u147,u148,u149,u150,u151,u152,u153,u154,u155,u156,u157,u158,u159,u160,u161,u162,u163,u164,u165,u166,u167,u168,u169,u170,u171,u172,u173,u174,u175],[]⟩ w3:=by
 conv=>arg 2;whnf
 have HB:Hid (blen (n*2 ^ ue)≤33554432∧blen (m*2 ^ de)≤8388608∧0<m*2 ^ de):=by
  have h1:=HE2.out
  have h2:=HNM.out
  refine ⟨?_, ?_,Nat.mul_pos (by omega) (Nat.pow_pos (by omega))⟩
  ·rw [blen_mul _ _ h2.1];omega
  ·rw [blen_mul _ _ h2.2.1];omega
 have hc:=byR vN vM (n*2 ^ ue) (m*2 ^ de) w3 H1.out H2.out HB.out.1 HB.out.2.1 HB.out.2.2
 rw [← HE.out.2.2.2.1,← HE.out.2.2.2.2.1] at hc
 go_wp2_with fail
 refine hc.mono ?_;rintro e w4 ⟨vq,vr,rfl,hq,hr,hk⟩
 have Hq:Hid (Ls w4 vq (dig wq)):=hq
 have Hr:Hid (Ls w4 vr (dig rq)):=hr
 replace H2:Hid (Ls w4 vM (dig (m*2 ^ de))):=H2.out.kp hk
 replace HK:Hid (Kp w w4):=HK.out.trans hk
 clear hc hq hr hk H1
 have hw64:wq<18446744073709551616:=Nat.lt_of_lt_of_le HU2.out.2.1 (by decide)
 have hc:=wordR vq wq w4 Hq.out hw64
 clear hw64
 go_wp2_with fail
 refine SM hc ?_;clear hc Hq
 have HR:Hid (blen rq≤8388608∧blen (rq*2 ^ 1)≤33554432):=by
  have h1:rq<m*2 ^ de:=by rw [HE.out.2.2.2.2.1];exact Nat.mod_lt _ HB.out.2.2
  have h2:blen rq≤8388608:=Nat.le_trans (blen_mono (Nat.le_of_lt h1)) HB.out.2.1
  clear h1
  refine ⟨h2, ?_⟩
  by_cases c:rq=0
  ·rw [c,Nat.zero_mul,blen_zero];omega
  ·rw [blen_mul _ _ c];omega
 have hc:=leftR vr rq 1 w4 Hr.out (by have:=HR.out;omega) (by omega)
 go_wp2_with fail
 refine hc.mono ?_;rintro e w5 ⟨v5,rfl,hL,hk⟩
 have H5:Hid (Ls w5 v5 (dig (rq*2 ^ 1))):=hL
 replace Hr:Hid (Ls w5 vr (dig rq)):=Hr.out.kp hk
 replace H2:Hid (Ls w5 vM (dig (m*2 ^ de))):=H2.out.kp hk
 replace HK:Hid (Kp w w5):=HK.out.trans hk
 clear hc hL hk
 have hc:=cmpR v5 vM (rq*2 ^ 1) (m*2 ^ de) w5 H5.out H2.out HR.out.2 (by have:=HB.out;omega)
 obtain ⟨hf,hhf⟩:∃ hf,hf=cmpN (rq*2 ^ 1) (m*2 ^ de):=⟨_,rfl⟩
 have HH:Hid (hf=cmpN (rq*2 ^ 1) (m*2 ^ de)):=hhf
 rw [← hhf] at hc
 clear hhf
 go_wp2_with fail
 refine hc.mono ?_;rintro e w6 ⟨rfl,hk⟩
 replace Hr:Hid (Ls w6 vr (dig rq)):=Hr.out.kp hk
 replace HK:Hid (Kp w w6):=HK.out.trans hk
 clear hc hk H5 H2
 obtain ⟨pr,cr,rfl,_,_⟩:=Hr.out
 obtain ⟨lr,hlr⟩:∃ lr,lr=(dig rq).length:=⟨_,rfl⟩
 have HLR:Hid (lr=0 ↔ rq=0):=by show _ ↔ _;rw [hlr];exact dig_len_zero rq
 rw [← hlr]
 clear hlr Hr
 go_upto_region 24 with fail
 go_cut [153] (fun s153 wx=>s153=.bool up∧wx=w6)
 case first =>
  have h1:=HE.out.2.2.2.2.2.1
  obtain ⟨q1,q2,q3⟩:=HA.out
  have h2:=HLR.out
  have h3:=HH.out
  obtain ⟨M,hM⟩:∃ M,M=m*2 ^ de:=⟨_,rfl⟩
  rw [← hM] at h1 h3
  rw [Nat.pow_one] at h3
  have k1:0<hf ↔ M<2*rq:=by rw [h3];unfold cmpN;split <;> (try split) <;> omega
  have k2:hf=0 ↔ M=2*rq:=by rw [h3];unfold cmpN;split <;> (try split) <;> omega
  unfold upw at h1
  clear HE HE2 HU2 HA HY2 HNM HB HR HH HLR h3 hM
  cases aw
  ·have d1:dm≠1:=by simpa using q1
   rw [if_neg d1] at h1
   cases nr
   ·have d2:dm = -1:=by
     simp at q2
     by_cases c1:dm = -1
     ·exact c1
     ·exact absurd c1 (by omega)
    rw [if_pos d2] at h1
    clear q1 q2 q3 h2 k1 k2 d1 d2
    go_wp2_with fail
    go_meet
    exact ⟨by rw [h1],rfl⟩
   ·have d2:dm≠-1:=by simp at q2;exact q2.2
    rw [if_neg d2] at h1
    clear q1 q2 q3 h2 d1 d2
    by_cases ch:0<hf
    ·have a1:up=true:=by rw [h1,decide_eq_true (k1.1 ch)];rfl
     clear k1 k2 h1
     go_wp2_with fail
     go_meet
     exact ⟨by rw [a1],rfl⟩
    ·by_cases ce:hf=0
     ·have e1:(hf == 0)=true:=by simp [ce]
      have a1:up=decide (wq % 2=1):=by
       rw [h1,decide_eq_false (mt k1.2 ch),decide_eq_true (k2.1 ce)];simp
      clear k1 k2 h1 ce
      rcases (by omega:wq % 2=0∨wq % 2=1) with cp | cp
      ·have e2:(wq:Int) % 2=0:=by omega
       rw [cp] at a1
       clear cp
       go_wp2_with fail
       go_meet
       exact ⟨by rw [a1];rfl,rfl⟩
      ·have e2:(wq:Int) % 2=1:=by omega
       rw [cp] at a1
       clear cp
       go_wp2_with fail
       go_meet
       exact ⟨by rw [a1];rfl,rfl⟩
     ·have e1:(hf == 0)=false:=by simp [ce]
      have a1:up=false:=by
       rw [h1,decide_eq_false (mt k1.2 ch),decide_eq_false (mt k2.2 ce)];simp
      clear k1 k2 h1 ce
      go_wp2_with fail
      go_meet
      exact ⟨by rw [a1],rfl⟩
  ·have d1:dm=1:=by simpa using q1
   rw [if_pos d1] at h1
   have d2:nr=false:=by
    cases nr
    ·rfl
    ·simp at q2;omega
   subst d2
   clear q1 q2 q3 k1 k2 d1
   by_cases cr0:rq=0
   ·have a0:lr=0:=h2.2 cr0
    have a1:up=false:=by rw [h1,decide_eq_false (by omega)]
    subst a0
    clear h1 h2 cr0
    go_wp2_with fail
    go_meet
    exact ⟨by rw [a1],rfl⟩
   ·have a0:0<(lr:Int):=by have:=mt h2.1 cr0;omega
    have a1:up=true:=by rw [h1,decide_eq_true (by omega)]
    clear h1 h2 cr0
    go_wp2_with fail
    go_meet
    exact ⟨by rw [a1],rfl⟩
 case rest =>
 obtain ⟨rfl,hwc⟩:=hcut
 obtain rfl:=hwc.symm
 clear hwc HH HLR HR HB
 go_upto_if 153 with fail
 go_cut [18] (fun s18 wx=>s18=.int .u64 (sig:Int)∧wx=w6)
 case first =>
  have h1:=HE.out.2.2.2.2.2.2.1
  have h2:wq<18446744073709551615:=Nat.lt_of_lt_of_le HU2.out.2.1 (by decide)
  cases up
  ·have a1:sig=wq:=by rw [h1];rfl
   clear h1 h2 HE HE2 HU2 HA HY2 HNM HFB
   go_wp2_with fail
   go_meet
   exact ⟨by rw [a1],rfl⟩
  ·have a1:sig=wq+1:=by rw [h1];rfl
   have a2:IntKind.u64.wrap ((wq:Int)+1)=(sig:Int):=by rw [IntKind.wrap_u64];omega
   clear h1 h2 a1 HE HE2 HU2 HA HY2 HNM HFB
   go_wp2_with fail
   go_meet
   exact ⟨by first | rfl | rw [a2],rfl⟩
 case rest =>
 obtain ⟨rfl,hwc⟩:=hcut
 obtain rfl:=hwc.symm
 clear hwc
 obtain ⟨r1,r2,r3,r4,r5⟩:=rr_fin 53 1023 Kv 2098 9218868437227405311 0 Y n m U sig wq rq E (m*2 ^ de) dm e f neg up (by omega) (by omega) (by have:=HE2.out;omega) (by omega) HU2.out.1 HU2.out.2.1 HU2.out.2.2.1 HU2.out.2.2.2 HE.out.2.2.2.2.2.1 HE.out.2.2.2.2.2.2.1 HE2.out.1 HE2.out.2.2.2.1 HFB.out HY2.out ⟨rfl,rfl⟩
 have g1:wrap64 (e+53)=e+53:=w64x _ (by omega) (by omega)
 rw [show (2:Nat) ^ 53=9007199254740992 from by decide] at r1 r2
 clear HE HE2 HU2 HA HY2 HNM HFB
 by_cases cs:sig=9007199254740992
 ·by_cases ce:1023<e+53
  ·have hY:=r1 ⟨cs,by simpa using ce⟩
   have hc:=rinf_ neg w6
   rw [← hY] at hc
   have t1:((sig:Int) == 9007199254740992)=true:=by rw [cs];rfl
   have t1':(sig:Int)=9007199254740992:=by omega
   clear r1 r2 r3 r4 r5 hY cs
   go_wp2_with fail
   try rw [hsn]
   refine SM hc ?_;clear hc
   go_wp2
   exact BR (v:=.int .u64 (Y:Int)) (by simp [results,Tryz.results189,go_sem]) rfl ⟨rfl,HK.out⟩
  ·obtain ⟨hY,hb⟩:=r2 (fun h=>ce (by simpa using h.2))
   have hc:=made_ neg sig e w6 r3 r4 r5 hb
   rw [← hY] at hc
   have t1:((sig:Int) == 9007199254740992)=true:=by rw [cs];rfl
   clear r1 r2 r3 r4 r5 hY cs hb
   go_wp2_with fail
   try rw [hsn]
   refine SM hc ?_;clear hc
   go_wp2
   exact BR (v:=.int .u64 (Y:Int)) (by simp [results,Tryz.results189,go_sem]) rfl ⟨rfl,HK.out⟩
 ·obtain ⟨hY,hb⟩:=r2 (fun h=>cs h.1)
  have hc:=made_ neg sig e w6 r3 r4 r5 hb
  rw [← hY] at hc
  have t1:((sig:Int) == 9007199254740992)=false:=by simp;omega
  clear r1 r2 r3 r4 r5 hY cs hb
  go_wp2_with fail
  try rw [hsn]
  refine SM hc ?_;clear hc
  go_wp2
  exact BR (v:=.int .u64 (Y:Int)) (by simp [results,Tryz.results189,go_sem]) rfl ⟨rfl,HK.out⟩
theorem rrBD (d sg dm f:Int) (neg aw nr:Bool) (n m Y Kv:Nat) (vn vd:Value) (w w2:World) (Hn:Hid (Ls w2 vn (dig n))) (Hd:Hid (Ls w2 vd (dig m))) (HK:Hid (Kp w w2)) (hsn:decide (sg<0)=neg) (HA:Hid ((aw=true ↔ dm=1)∧(nr=true ↔ dm≠1∧dm≠-1)∧dm=dirN neg d)) (HNM:Hid (n≠0∧m≠0∧blen n≤4194304∧blen m≤4194304)) (HY:Hid (Y=mdW neg (if blen (rV dm 53 n m (Kv:Int))≤2098 then rgU 53 (rV dm 53 n m (Kv:Int)*2 ^ 0) else if dm = -1 then 9218868437227405311 else 9218868437227405312))) (HF2:Hid (f=topF n m)) (HFR:Hid (-4194304≤f∧f≤4194304)) (HKV:Hid (Kv=1074)) (u0 u1 u4 u5 u6 u7 u8 u15 u16 u17 u18 u19 u20 u21 u22 u23 u24 u25 u26 u27 u28 u29 u30 u31 u32 u33 u34 u35 u36 u37 u38 u39 u40 u41 u42 u43 u44 u45 u46 u47 u48 u49 u50 u51 u52 u53 u54 u55 u56 u57 u58 u59 u60 u61 u62 u63 u64 u65 u66 u67 u68 u69 u70 u71 u72 u73 u74 u75 u76 u77 u78 u79 u80 u81 u82 u83 u84 u85 u86 u87 u88 u89 u90 u91 u92 u93 u94 u95 u96 u97 u98 u99 u100 u101 u102 u103 u104 u105 u106 u107 u108 u109 u110 u111 u112 u113 u114 u115 u116 u117 u118 u119 u120 u121 u122 u123 u124 u125 u126 u127 u128 u129 u130 u131 u132 u133 u134 u135 u136 u137 u138 u139 u140 u141 u142 u143 u144 u145 u146 u147 u148 u149 u150 u151 u152 u153 u154 u155 u156 u157 u158 u159 u160 u161 u162 u163 u164 u165 u166 u167 u168 u169 u170 u171 u172 u173 u174 u175:Value) :
  Code.wp Tryz.prog (dropS 9 (Tryz.f189.body.getD .skip)) (bodyPost Tryz.prog Tryz.f189 fun e w'=>e=.returned (.int .u64 (Y:Int))∧Kp w w') ⟨#[u0,u1,.int .i64 53,.int .i64 1023,u4,u5,u6,u7,u8,.int .i64 sg,.bool aw,.bool nr,vn,vd,.int .i64 f,u15,u16,u17,u18,u19,u20,u21,u22,u23,u24,u25,u26,u27,u28,u29,u30,u31,u32,u33,u34,u35,u36,u37,u38,u39,u40,u41,u42,u43,u44,u45,u46,u47,u48,u49,u50,u51,u52,u53,u54,u55,u56,u57,u58,u59,u60,u61,u62,u63,u64,u65,u66,u67,u68,u69,u70,u71,u72,u73,u74,u75,u76,u77,u78,u79,u80,u81,u82,u83,u84,u85,u86,u87,u88,u89,u90,u91,u92,u93,u94,u95,u96,u97,u98,u99,u100,u101,u102,u103,u104,u105,u106,u107,u108,u109,u110,u111,u112,u113,u114,u115,u116,u117,u118,u119,u120,u121,u122,u123,u124,u125,u126,u127,u128,u129,u130,u131,u132,u133,u134,u135,u136,u137,u138,u139,u140,u141,u142,u143,u144,u145,u146,u147,u148,u149,u150,u151,u152,u153,u154,u155,u156,u157,u158,u159,u160,u161,u162,u163,u164,u165,u166,u167,u168,u169,u170,u171,u172,u173,u174,u175],[]⟩ w2:=by
 conv=>arg 2;whnf
 have hfb:=HFR.out
 have hKv:=HKV.out
 obtain ⟨e,he⟩:∃ e:Int,e=max (f - 53+1) (-(Kv:Int)):=⟨_,rfl⟩
 obtain ⟨E,hE⟩:∃ E:Nat,(E:Int)=e+(Kv:Int):=⟨(e+(Kv:Int)).toNat,by omega⟩
 obtain ⟨ue,hue⟩:∃ ue:Nat,ue=(-e).toNat:=⟨_,rfl⟩
 obtain ⟨de,hde⟩:∃ de:Nat,de=e.toNat:=⟨_,rfl⟩
 obtain ⟨kk,hkk⟩:∃ kk:Nat,kk=Kv - ue:=⟨_,rfl⟩
 obtain ⟨wq,hwq⟩:∃ wq,wq=n*2 ^ ue / (m*2 ^ de):=⟨_,rfl⟩
 obtain ⟨rq,hrq⟩:∃ rq,rq=n*2 ^ ue % (m*2 ^ de):=⟨_,rfl⟩
 obtain ⟨up,hup⟩:∃ up,up=upw dm wq rq (m*2 ^ de):=⟨_,rfl⟩
 obtain ⟨sig,hsig⟩:∃ sig,sig=wq+up.toNat:=⟨_,rfl⟩
 have hall:=ref_all dm 53 1023 Kv 2098 n m e E ue de kk (by omega) (by omega) (by omega) HNM.out.1 HNM.out.2.1 (by rw [he,HF2.out];rfl) hE (by rw [Nat.mul_assoc,← Nat.pow_add];exact congrArg (fun x=>n*2 ^ x) (by omega)) (by rw [Nat.mul_assoc,← Nat.pow_add];exact congrArg (fun x=>m*2 ^ x) (by omega)) sig (by rw [hsig,hup,hrq,hwq])
 rw [← HF2.out,← hwq] at hall
 obtain ⟨U,hU⟩:∃ U,U=rV dm 53 n m (Kv:Int):=⟨_,rfl⟩
 have HY2:Hid (Y=mdW neg (if blen U≤2098 then rgU 53 (U*2 ^ 0) else if dm = -1 then 9218868437227405311 else 9218868437227405312)):=by rw [hU];exact HY.out
 rw [← hU] at hall
 have HU:Hid (U=sig*2 ^ E∧wq<2 ^ 53∧sig≤2 ^ 53∧(((1023:Nat):Int)<f→2098<blen U)∧(¬ ((1023:Nat):Int)<f→(blen U≤2098 ↔ ¬ (sig=2 ^ 53∧((1023:Nat):Int)<e+((53:Nat):Int))))):=hall
 have HE:Hid ((E:Int)=e+(Kv:Int)∧ue=(-e).toNat∧de=e.toNat∧wq=n*2 ^ ue / (m*2 ^ de)∧rq=n*2 ^ ue % (m*2 ^ de)∧up=upw dm wq rq (m*2 ^ de)∧sig=wq+up.toNat∧e=max (f - 53+1) (-(Kv:Int))∧-4194304≤f∧f≤4194304∧Kv=1074):=⟨hE,hue,hde,hwq,hrq,hup,hsig,he,hfb.1,hfb.2,HKV.out⟩
 have HE2:Hid ((E:Int)=e+(Kv:Int)∧ue=(-e).toNat∧de=e.toNat∧e=max (f - 53+1) (-(Kv:Int))∧-4194304≤f∧f≤4194304∧Kv=1074):=⟨hE,hue,hde,he,hfb.1,hfb.2,HKV.out⟩
 clear hKv hall HY he hE hue hde hkk hwq hrq hup hsig hU HF2 hfb
 by_cases cg:1023<f
 ·have hov:=HU.out.2.2.2.1 (by simpa using cg)
  cases aw
  ·cases nr
   ·have hY:Y=mdW neg 9218868437227405311:=by
     rw [HY2.out,if_neg (by omega),if_pos]
     have h1:=HA.out
     simp at h1
     by_cases c1:dm = -1
     ·exact c1
     ·exact absurd c1 (by omega)
    have hc:=rgreD_ neg w2
    rw [← hY] at hc
    clear hY hov HY2 HU HE HE2 HA HNM
    go_wp2_with fail
    try rw [hsn]
    refine SM hc ?_;clear hc
    go_wp2
    exact BR (v:=.int .u64 (Y:Int)) (by simp [results,Tryz.results189,go_sem]) rfl ⟨rfl,HK.out⟩
   ·have hY:Y=mdW neg 9218868437227405312:=by
     rw [HY2.out,if_neg (by omega),if_neg]
     have h1:=HA.out
     simp at h1
     omega
    have hc:=rinf_ neg w2
    rw [← hY] at hc
    clear hY hov HY2 HU HE HE2 HA HNM
    go_wp2_with fail
    try rw [hsn]
    refine SM hc ?_;clear hc
    go_wp2
    exact BR (v:=.int .u64 (Y:Int)) (by simp [results,Tryz.results189,go_sem]) rfl ⟨rfl,HK.out⟩
  ·have hY:Y=mdW neg 9218868437227405312:=by
    rw [HY2.out,if_neg (by omega),if_neg]
    have h1:=HA.out
    simp at h1
    omega
   have hc:=rinf_ neg w2
   rw [← hY] at hc
   clear hY hov HY2 HU HE HE2 HA HNM
   go_wp2_with fail
   try rw [hsn]
   refine SM hc ?_;clear hc
   go_wp2
   exact BR (v:=.int .u64 (Y:Int)) (by simp [results,Tryz.results189,go_sem]) rfl ⟨rfl,HK.out⟩
 ·have hfin:=HU.out.2.2.2.2 (by simpa using cg)
  have HU2:Hid (U=sig*2 ^ E∧wq<2 ^ 53∧sig≤2 ^ 53∧(blen U≤2098 ↔ ¬ (sig=2 ^ 53∧((1023:Nat):Int)<e+((53:Nat):Int)))):=⟨HU.out.1,HU.out.2.1,HU.out.2.2.1,hfin⟩
  have hfb:f≤1023:=by omega
  have g1:wrap64 (f - 53)=f - 53:=w64x _ (by have:=HE2.out;omega) (by omega)
  have g2:wrap64 (f - 53+1)=f - 53+1:=w64x _ (by have:=HE2.out;omega) (by omega)
  clear HU hfin
  go_upto_if 103 with fail
  go_cut [15] (fun s15 wx=>s15=.int .i64 e∧wx=w2)
  case first =>
   have h1:=HE2.out
   by_cases ce:f - 53+1 < -1074
   ·have a1:e = -1074:=by omega
    clear h1 HE HE2 HU2 HA HY2 HNM
    go_wp2_with fail
    go_meet
    exact ⟨by rw [a1],rfl⟩
   ·have a1:e=f - 53+1:=by omega
    clear h1 HE HE2 HU2 HA HY2 HNM
    go_wp2_with fail
    go_meet
    exact ⟨by first | rw [g2,a1] | rw [a1],rfl⟩
  case rest =>
  obtain ⟨rfl,hwc⟩:=hcut
  obtain rfl:=hwc.symm
  clear hwc g1 g2
  go_upto_if 109 with fail
  go_cut [12,13] (fun s12 s13 wx=>∃ v u:Value,v=s12∧u=s13∧Ls wx v (dig (n*2 ^ ue))∧Ls wx u (dig (m*2 ^ de))∧Kp w2 wx)
  case first =>
   have h1:=HE2.out
   by_cases ce:0≤e
   ·have a1:ue=0:=by omega
    have a2:e=(de:Int):=by omega
    have hc:=leftR vd m de w2 Hd.out (by have:=HNM.out;omega) (by omega)
    rw [← a2] at hc
    have HX:Hid (ue=0):=a1
    clear h1 a1 a2 HE HE2 HU2 HA HY2 HNM
    go_wp2_with fail
    refine hc.mono ?_;rintro e w3 ⟨v3,rfl,hL,hk⟩
    have HZ:Hid (Ls w3 vn (dig (n*2 ^ ue))∧Ls w3 v3 (dig (m*2 ^ de))∧Kp w2 w3):=⟨by rw [HX.out,Nat.pow_zero,Nat.mul_one];exact Hn.out.kp hk,hL,hk⟩
    clear hc hL hk
    go_wp2_with fail
    go_meet
    exact ⟨_,_,rfl,rfl,HZ.out⟩
   ·have a1:de=0:=by omega
    have a2:wrap64 (-e)=(ue:Int):=by rw [show -e=(ue:Int) from by omega];exact w64x _ (by omega) (by omega)
    have hc:=leftR vn n ue w2 Hn.out (by have:=HNM.out;omega) (by omega)
    have HX:Hid (de=0):=a1
    clear h1 a1 HE HE2 HU2 HA HY2 HNM
    go_wp2_with fail
    try rw [a2]
    refine hc.mono ?_;rintro e w3 ⟨v3,rfl,hL,hk⟩
    have HZ:Hid (Ls w3 v3 (dig (n*2 ^ ue))∧Ls w3 vd (dig (m*2 ^ de))∧Kp w2 w3):=⟨hL,by rw [HX.out,Nat.pow_zero,Nat.mul_one];exact Hd.out.kp hk,hk⟩
    clear hc hL hk
    go_wp2_with fail
    go_meet
    exact ⟨_,_,rfl,rfl,HZ.out⟩
  case rest =>
  obtain ⟨vN,vM,rfl,rfl,hL1,hL2,hk⟩:=hcut
  apply_assumption
  exact rrCD d sg dm e f neg aw nr up n m Y U sig wq rq E ue de Kv vN vM w wc hL1 hL2 (HK.out.trans hk) hsn HA HNM HY2 HU2 HE HE2 hfb _ _ _ _ _ _ _ _ _ _ _ _ _ _ _ _ _ _ _ _ _ _ _ _ _ _ _ _ _ _ _ _ _ _ _ _ _ _ _ _ _ _ _ _ _ _ _ _ _ _ _ _ _ _ _ _ _ _ _ _ _ _ _ _ _ _ _ _ _ _ _ _ _ _ _ _ _ _ _ _ _ _ _ _ _ _ _ _ _ _ _ _ _ _ _ _ _ _ _ _ _ _ _ _ _ _ _ _ _ _ _ _ _ _ _ _ _ _ _ _ _ _ _ _ _ _ _ _ _ _ _ _ _ _ _ _ _ _ _ _ _ _ _ _ _ _ _ _ _ _ _ _ _ _ _ _ _ _ _ _ _ _ _ _ _ _ _ _
theorem rrounded_D (d:Int) (neg:Bool) (vn vd:Value) (n m:Nat) (w:World) (hn:Ls w vn (dig n)) (hd:Ls w vd (dig m)) (hm:m≠0) (ln:blen n≤4194304) (lm:blen m≤4194304) :
  Calls Tryz.prog 189 #[.int .i64 d,.agg #[.bool neg,vn,vd],.int .i64 53,.int .i64 1023] w fun e w'=>e=.returned (.int .u64 ((refW 53 1074 2098 9218868437227405311 0 d neg n m:Nat):Int))∧Kp w w':=by
 obtain ⟨w0,hw0⟩:∃ w0,w0=w.alloc (.cells #[.bool neg,vn,vd] 57):=⟨_,rfl⟩
 have hk0:Kp w w0:=by rw [hw0];exact (Kp.refl w).alloc _
 obtain ⟨c0,c1,c2⟩:w0.cell? ⟨w.heap.size,0,none⟩=some (.bool neg)∧w0.cell? ⟨w.heap.size,1,none⟩=some vn∧w0.cell? ⟨w.heap.size,2,none⟩=some vd:=by rw [hw0];simp [go_sem]
 have hrs:=rsign_ neg vn vd n w0 (hn.kp hk0) (by omega)
 obtain ⟨Y,hY⟩:∃ Y,Y=refW 53 1074 2098 9218868437227405311 0 d neg n m:=⟨_,rfl⟩
 rw [← hY]
 obtain ⟨Kv,hKv⟩:∃ Kv:Nat,Kv=1074:=⟨_,rfl⟩
 rw [← hKv] at hY
 by_cases cz:n=0
 ·rw [if_pos cz] at hrs
  have hY0:Y=0:=by rw [hY];unfold refW;rw [if_pos cz]
  subst hY0
  clear hY hn hd hm ln lm cz c0 c1 c2 hKv
  go_enter Tryz.func189,Tryz.ntmps189
  go_wp2_with fail
  rw [← hw0]
  refine hrs.mono ?_;rintro e w1 ⟨rfl,hk⟩
  have K1:Kp w w1:=hk0.trans hk
  clear hrs hk hw0 hk0
  go_wp2
  exact BR (v:=.int .u64 0) (by simp [results,Tryz.results189,go_sem]) rfl ⟨rfl,K1⟩
 ·rw [if_neg cz] at hrs
  obtain ⟨sg,hsg⟩:∃ sg:Int,sg=if neg=true then -1 else 1:=⟨_,rfl⟩
  rw [← hsg] at hrs
  have t0:¬ (sg=0):=by rw [hsg];split <;> omega
  obtain ⟨dm,hdm⟩:∃ dm,dm=dirN neg d:=⟨_,rfl⟩
  obtain ⟨aw,haw⟩:∃ aw:Bool,aw=decide (dm=1):=⟨_,rfl⟩
  obtain ⟨nr,hnr⟩:∃ nr:Bool,nr=(decide (d≠1) && decide (d≠-1)):=⟨_,rfl⟩
  have hA9:(aw=true ↔ dm=1)∧(nr=true ↔ dm≠1∧dm≠-1):=by
   refine ⟨by rw [haw];simp, ?_⟩
   rw [hnr,hdm];unfold dirN;cases neg <;> simp <;> omega
  have hsn:decide (sg<0)=neg:=by rw [hsg];cases neg <;> simp
  have HSG:Hid (sg=(if neg=true then -1 else 1)∧aw=decide (dirN neg d=1)∧nr=(decide (d≠1) && decide (d≠-1))):=⟨hsg,by rw [haw,hdm],hnr⟩
  obtain ⟨f,hf⟩:∃ f,f=topF n m:=⟨_,rfl⟩
  obtain ⟨f0,hf0⟩:∃ f0:Int,f0=(blen n:Int) - blen m:=⟨_,rfl⟩
  obtain ⟨aj,haj⟩:∃ aj,aj=adjN n m:=⟨_,rfl⟩
  have hf1:f=f0 - (if aj=true then 1 else 0):=by rw [hf,hf0,haj];rfl
  have HF:Hid (f0=(blen n:Int) - blen m∧aj=adjN n m∧f=f0 - (if aj=true then 1 else 0)∧f=topF n m):=⟨hf0,haj,hf1,hf⟩
  have HA:Hid ((aw=true ↔ dm=1)∧(nr=true ↔ dm≠1∧dm≠-1)∧dm=dirN neg d):=⟨hA9.1,hA9.2,hdm⟩
  have HY:Hid (Y=mdW neg (if blen (rV dm 53 n m (Kv:Int))≤2098 then rgU 53 (rV dm 53 n m (Kv:Int)*2 ^ 0) else if dm = -1 then 9218868437227405311 else 9218868437227405312)):=by
   show _=_
   rw [hY,hdm];unfold refW;rw [if_neg cz]
  have HKV:Hid (Kv=1074):=hKv
  have HNM:Hid (n≠0∧m≠0∧blen n≤4194304∧blen m≤4194304):=⟨cz,hm,ln,lm⟩
  have g0:wrap64 ((blen n:Int) - (blen m:Int))=f0:=by rw [← hf0];exact w64x _ (by omega) (by omega)
  have gf:wrap64 (f0 - 1)=f0 - 1:=w64x _ (by omega) (by omega)
  have Hn:Hid (Ls w0 vn (dig n)):=hn.kp hk0
  have Hd:Hid (Ls w0 vd (dig m)):=hd.kp hk0
  clear hKv hY hn hd hm ln lm cz hsg hdm haw hnr hA9 hf hf0 haj hf1
  go_enter Tryz.func189,Tryz.ntmps189
  go_wp2_with fail
  rw [← hw0]
  refine hrs.mono ?_;rintro e w1 ⟨rfl,hk⟩
  replace c0:=kkeep hk c0
  replace c1:=kkeep hk c1
  replace c2:=kkeep hk c2
  replace Hn:Hid (Ls w1 vn (dig n)):=Hn.out.kp hk
  replace Hd:Hid (Ls w1 vd (dig m)):=Hd.out.kp hk
  have HK:Hid (Kp w w1):=hk0.trans hk
  clear hrs hk hw0 hk0
  go_upto_region 4 with fail
  go_cut [10] (fun s10 wx=>s10=.bool aw∧wx=w1)
  case first =>
   obtain ⟨h1,h2,_⟩:=HSG.out
   rcases (by omega:d=1∨d = -1∨(d≠1∧d≠-1)) with h | h | ⟨h,h'⟩
   ·have e1:(d == 1)=true:=by simp [h]
    have e1':decide (d=1)=true:=by simp [h]
    have e2:(d == -1)=false:=by simp [h]
    have a1:aw = !neg:=by rw [h2,h];unfold dirN;cases neg <;> rfl
    clear h h2 HF HA HY HNM HSG
    cases neg
    ·have t1:0<sg:=by rw [h1];simp
     clear h1
     go_wp2_with fail
     go_meet
     exact ⟨by rw [a1];rfl,rfl⟩
    ·have t1:¬ 0<sg:=by rw [h1];simp
     clear h1
     go_wp2_with fail
     go_meet
     exact ⟨by rw [a1];rfl,rfl⟩
   ·have e1:(d == 1)=false:=by simp [h]
    have e2:(d == -1)=true:=by simp [h]
    have a1:aw=neg:=by rw [h2,h];unfold dirN;cases neg <;> rfl
    clear h h2 HF HA HY HNM HSG
    cases neg
    ·have t1:¬ sg<0:=by rw [h1];simp
     clear h1
     go_wp2_with fail
     go_meet
     exact ⟨by rw [a1],rfl⟩
    ·have t1:sg<0:=by rw [h1];simp
     clear h1
     go_wp2_with fail
     go_meet
     exact ⟨by rw [a1],rfl⟩
   ·have e1:(d == 1)=false:=by simp [h]
    have e2:(d == -1)=false:=by simp [h']
    have a1:aw=false:=by rw [h2];unfold dirN;cases neg <;> simp <;> omega
    clear h h' h1 h2 HF HA HY HNM HSG
    go_wp2_with fail
    go_meet
    exact ⟨by rw [a1],rfl⟩
  case rest =>
  obtain ⟨rfl,hwc⟩:=hcut
  obtain rfl:=hwc.symm
  clear hwc
  go_upto_region 5 with fail
  go_cut [11] (fun s11 wx=>s11=.bool nr∧wx=w1)
  case first =>
   obtain ⟨_,_,h2⟩:=HSG.out
   rcases (by omega:d=1∨d = -1∨(d≠1∧d≠-1)) with h | h | ⟨h,h'⟩
   ·have e1:(d == 1)=true:=by simp [h]
    have e1':(d != 1)=false:=by simp [h]
    have a1:nr=false:=by rw [h2,h];rfl
    clear h h2 HF HA HY HNM HSG
    go_wp2_with fail
    go_meet
    exact ⟨by rw [a1],rfl⟩
   ·have e1:(d == 1)=false:=by simp [h]
    have e1':(d != 1)=true:=by simp [h]
    have e2:(d == -1)=true:=by simp [h]
    have e2':(d != -1)=false:=by simp [h]
    have a1:nr=false:=by rw [h2,h];rfl
    clear h h2 HF HA HY HNM HSG
    go_wp2_with fail
    go_meet
    exact ⟨by rw [a1],rfl⟩
   ·have e1:(d == 1)=false:=by simp [h]
    have e1':(d != 1)=true:=by simp [h]
    have e2:(d == -1)=false:=by simp [h']
    have e2':(d != -1)=true:=by simp [h']
    have a1:nr=true:=by rw [h2];simp [h,h']
    clear h h' h2 HF HA HY HNM HSG
    go_wp2_with fail
    go_meet
    exact ⟨by rw [a1],rfl⟩
  case rest =>
  obtain ⟨rfl,hwc⟩:=hcut
  obtain rfl:=hwc.symm
  clear hwc
  clear HSG
  have hc:=lenR vn n w1 Hn.out (by have:=HNM.out;omega)
  have hc2:=lenR vd m w1 Hd.out (by have:=HNM.out;omega)
  obtain ⟨bn,hbn⟩:∃ bn,bn=blen n:=⟨_,rfl⟩
  obtain ⟨bm,hbm⟩:∃ bm,bm=blen m:=⟨_,rfl⟩
  have HBL:Hid (bn=blen n∧bm=blen m):=⟨hbn,hbm⟩
  rw [← hbn] at hc g0
  rw [← hbm] at hc2 g0
  clear hbn hbm
  go_wp2_with fail
  refine SM hc ?_;clear hc
  go_wp2_with fail
  refine SM hc2 ?_;clear hc2 c0 c1 c2
  go_upto_region 9 with fail
  go_cut [14,76] (fun s14 s76 wx=>s14=.int .i64 f0∧s76=.bool aj∧Kp w1 wx)
  case first =>
   obtain ⟨h1,h2,h3,h4⟩:=HF.out
   obtain ⟨n1,n2,n3,n4⟩:=HNM.out
   by_cases cl:blen m≤blen n
   ·obtain ⟨k,hk⟩:∃ k,k=blen n - blen m:=⟨_,rfl⟩
    have hk2:f0=(k:Int):=by omega
    have hc:=leftR vd m k w1 Hd.out (by omega) (by omega)
    rw [← hk2] at hc
    have tt:0≤f0:=by omega
    have tt2:¬ f0<0:=by omega
    have hlb:blen (m*2 ^ k)≤33554432:=by rw [blen_mul _ _ n2];omega
    have haj:aj=decide (n<m*2 ^ k):=by rw [h2];unfold adjN;rw [if_pos cl,hk]
    have HJ:Hid (aj=decide (n<m*2 ^ k)∧blen (m*2 ^ k)≤33554432∧blen n≤33554432):=⟨haj,hlb,by omega⟩
    clear h1 h2 h3 h4 n1 n2 n3 n4 cl hk hk2 hlb haj HF HNM HBL HA HY
    go_wp2_with fail
    try rw [g0]
    refine hc.mono ?_;rintro e w2 ⟨v2,rfl,hL,hk9⟩
    have hc2:=cmpR vn v2 n (m*2 ^ k) w2 (Hn.out.kp hk9) hL HJ.out.2.2 HJ.out.2.1
    obtain ⟨cc,hcc⟩:∃ cc,cc=cmpN n (m*2 ^ k):=⟨_,rfl⟩
    rw [← hcc] at hc2
    by_cases ca:n<m*2 ^ k
    ·have t3:cc<0:=by rw [hcc,cmpN_lt ca];omega
     have a1:aj=true:=by rw [HJ.out.1,decide_eq_true ca]
     clear hc hL hcc ca HJ
     go_wp2_with fail
     refine hc2.mono ?_;rintro e w3 ⟨rfl,hk3⟩
     have HK3:Hid (Kp w1 w3):=hk9.trans hk3
     clear hc2 hk9 hk3
     go_wp2_with fail
     go_meet
     exact ⟨by first | rfl | rw [g0],by first | (rw [a1];done) | (rw [a1,decide_eq_false (by omega)]),HK3.out⟩
    ·have t3:¬ cc<0:=by rw [hcc];unfold cmpN;rw [if_neg ca];split <;> omega
     have a1:aj=false:=by rw [HJ.out.1,decide_eq_false ca]
     clear hc hL hcc ca HJ
     go_wp2_with fail
     refine hc2.mono ?_;rintro e w3 ⟨rfl,hk3⟩
     have HK3:Hid (Kp w1 w3):=hk9.trans hk3
     clear hc2 hk9 hk3
     go_wp2_with fail
     go_meet
     exact ⟨by first | rfl | rw [g0],by first | (rw [a1];done) | (rw [a1,decide_eq_false (by omega)]),HK3.out⟩
   ·obtain ⟨k,hk⟩:∃ k,k=blen m - blen n:=⟨_,rfl⟩
    have hk2:-f0=(k:Int):=by omega
    have g9:wrap64 (-f0)=(k:Int):=by rw [hk2];exact w64x _ (by omega) (by omega)
    have hc:=leftR vn n k w1 Hn.out (by omega) (by omega)
    have tt:¬ (0≤f0):=by omega
    have tt2:f0<0:=by omega
    have hlb:blen (n*2 ^ k)≤33554432:=by rw [blen_mul _ _ n1];omega
    have haj:aj=decide (n*2 ^ k<m):=by rw [h2];unfold adjN;rw [if_neg cl,hk]
    have HJ:Hid (aj=decide (n*2 ^ k<m)∧blen (n*2 ^ k)≤33554432∧blen m≤33554432):=⟨haj,hlb,by omega⟩
    clear h1 h2 h3 h4 n1 n2 n3 n4 cl hk hk2 hlb haj HF HNM HBL HA HY
    go_wp2_with fail
    try rw [g0]
    try rw [g9]
    refine hc.mono ?_;rintro e w2 ⟨v2,rfl,hL,hk9⟩
    have hc2:=cmpR v2 vd (n*2 ^ k) m w2 hL (Hd.out.kp hk9) HJ.out.2.1 HJ.out.2.2
    obtain ⟨cc,hcc⟩:∃ cc,cc=cmpN (n*2 ^ k) m:=⟨_,rfl⟩
    rw [← hcc] at hc2
    by_cases ca:n*2 ^ k<m
    ·have t3:cc<0:=by rw [hcc,cmpN_lt ca];omega
     have a1:aj=true:=by rw [HJ.out.1,decide_eq_true ca]
     clear hc hL hcc ca HJ
     go_wp2_with fail
     refine hc2.mono ?_;rintro e w3 ⟨rfl,hk3⟩
     have HK3:Hid (Kp w1 w3):=hk9.trans hk3
     clear hc2 hk9 hk3
     go_wp2_with fail
     go_meet
     exact ⟨by first | rfl | rw [g0],by first | (rw [a1];done) | (rw [a1,decide_eq_false (by omega)]),HK3.out⟩
    ·have t3:¬ cc<0:=by rw [hcc];unfold cmpN;rw [if_neg ca];split <;> omega
     have a1:aj=false:=by rw [HJ.out.1,decide_eq_false ca]
     clear hc hL hcc ca HJ
     go_wp2_with fail
     refine hc2.mono ?_;rintro e w3 ⟨rfl,hk3⟩
     have HK3:Hid (Kp w1 w3):=hk9.trans hk3
     clear hc2 hk9 hk3
     go_wp2_with fail
     go_meet
     exact ⟨by first | rfl | rw [g0],by first | (rw [a1];done) | (rw [a1,decide_eq_false (by omega)]),HK3.out⟩
  case rest =>
  obtain ⟨rfl,rfl,hk⟩:=hcut
  obtain ⟨w2,hw2⟩:∃ w2,w2=wc:=⟨_,rfl⟩
  subst hw2
  replace Hn:Hid (Ls w2 vn (dig n)):=Hn.out.kp hk
  replace Hd:Hid (Ls w2 vd (dig m)):=Hd.out.kp hk
  replace HK:Hid (Kp w w2):=HK.out.trans hk
  clear hk HBL g0
  go_upto_if 76 with fail
  go_cut [14] (fun s14 wx=>s14=.int .i64 f∧wx=w2)
  case first =>
   obtain ⟨h1,h2,h3,h4⟩:=HF.out
   cases aj
   ·have a1:f=f0:=by rw [h3];simp
    clear h1 h2 h3 h4 HF HNM HA HY
    go_wp2_with fail
    go_meet
    exact ⟨by rw [a1],rfl⟩
   ·have a1:f=f0 - 1:=by rw [h3];simp
    clear h1 h2 h3 h4 HF HNM HA HY
    go_wp2_with fail
    go_meet
    exact ⟨by rw [gf,a1],rfl⟩
  case rest =>
  obtain ⟨rfl,hwc⟩:=hcut
  obtain rfl:=hwc.symm
  clear hwc gf
  have HF2:Hid (f=topF n m):=HF.out.2.2.2
  have hfb:-4194304≤f∧f≤4194304:=by
   obtain ⟨h1,h2,h3,h4⟩:=HF.out
   obtain ⟨n1,n2,n3,n4⟩:=HNM.out
   have b1:=(blen_spec n n1).2.2
   have b2:=(blen_spec m n2).2.2
   rw [h3,h1];split <;> omega
  clear HF
  apply_assumption
  exact rrBD d sg dm f neg aw nr n m Y Kv vn vd w w2 Hn Hd HK hsn HA HNM HY HF2 hfb HKV _ _ _ _ _ _ _ _ _ _ _ _ _ _ _ _ _ _ _ _ _ _ _ _ _ _ _ _ _ _ _ _ _ _ _ _ _ _ _ _ _ _ _ _ _ _ _ _ _ _ _ _ _ _ _ _ _ _ _ _ _ _ _ _ _ _ _ _ _ _ _ _ _ _ _ _ _ _ _ _ _ _ _ _ _ _ _ _ _ _ _ _ _ _ _ _ _ _ _ _ _ _ _ _ _ _ _ _ _ _ _ _ _ _ _ _ _ _ _ _ _ _ _ _ _ _ _ _ _ _ _ _ _ _ _ _ _ _ _ _ _ _ _ _ _ _ _ _ _ _ _ _ _ _ _ _ _ _ _ _ _ _ _ _ _ _ _ _
end Go.Proofs.YtmpjcknaelgnoaaGreatDoor
